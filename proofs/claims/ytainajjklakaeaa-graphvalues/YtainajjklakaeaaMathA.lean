/-
  Plain facts on numbers for layer 1 (words): what 'not', a shift and a fold come to as integers. No Go text is in sight, and nothing is asked but the bounds that each fact names.
-/
import Derived.WalkKit
import Derived.Laws.BitsAllLaws
namespace Go.Proofs.Ytainajjklakaeaa.M

theorem wf_i64 {n : Int} (h : (Lit.int .i64 n).wf = true) : -9223372036854775808 ≤ n ∧ n < 9223372036854775808 := by
  simp [Lit.wf, IntKind.min, IntKind.max, IntKind.bits, IntKind.signed] at h
  omega

theorem wf_u64 {n : Int} (h : (Lit.int .u64 n).wf = true) : 0 ≤ n ∧ n < 18446744073709551616 := by
  simp [Lit.wf, IntKind.min, IntKind.max, IntKind.bits, IntKind.signed] at h
  omega

theorem wf_u32 {n : Int} (h : (Lit.int .u32 n).wf = true) : 0 ≤ n ∧ n < 4294967296 := by
  simp [Lit.wf, IntKind.min, IntKind.max, IntKind.bits, IntKind.signed] at h
  omega

theorem u64_max : IntKind.u64.max = 18446744073709551615 := by decide

theorem not_u64 (x : Int) (h0 : 0 ≤ x) (h1 : x < 18446744073709551616) :
    bits .xor .u64 IntKind.u64.max x = 18446744073709551615 - x := by
  obtain ⟨a, rfl⟩ := Int.eq_ofNat_of_zero_le h0
  have ha : a < 18446744073709551616 := by omega
  rw [u64_max]
  show IntKind.u64.wrap ((BitVec.ofInt 64 (18446744073709551615) ^^^ BitVec.ofInt 64 (a : Int)).toNat : Int) = _
  have e : BitVec.ofInt 64 (18446744073709551615) = BitVec.allOnes 64 := by decide
  rw [e, BitVec.allOnes_xor, BitVec.toNat_not, ofInt_u64 a ha, IntKind.wrap_u64]
  omega

theorem not_i64 (x : Int) (h0 : 0 ≤ x) (h1 : x < 9223372036854775808) :
    bits .xor .i64 (-1) x = -1 - x := by
  obtain ⟨a, rfl⟩ := Int.eq_ofNat_of_zero_le h0
  have ha : a < 18446744073709551616 := by omega
  show IntKind.i64.wrap ((BitVec.ofInt 64 (-1) ^^^ BitVec.ofInt 64 (a : Int)).toNat : Int) = _
  have e : BitVec.ofInt 64 (-1) = BitVec.allOnes 64 := by decide
  rw [e, BitVec.allOnes_xor, BitVec.toNat_not, ofInt_u64 a ha, IntKind.wrap_i64]
  omega

theorem and_one (x : Int) (h0 : 0 ≤ x) (h1 : x < 18446744073709551616) :
    bits .and .u64 x 1 = x % 2 := by
  rw [u64_and x 1 h0 h1 (by decide) (by decide)]
  have : (1 : Int).toNat = 1 := rfl
  rw [this, nat_mask1]
  omega

/-- What folding comes to. -/
def foldI (n : Int) : Int := if n < 0 then -2 * n - 1 else 2 * n
/-- What unfolding comes to. -/
def unfoldI (m : Int) : Int := if m % 2 = 1 then -(m / 2) - 1 else m / 2

theorem fold_neg {n : Int} (h : n < 0) : foldI n = -2 * n - 1 := by unfold foldI; rw [if_pos h]
theorem fold_pos {n : Int} (h : ¬ n < 0) : foldI n = 2 * n := by unfold foldI; rw [if_neg h]
theorem unfold_odd {m : Int} (h : m % 2 = 1) : unfoldI m = -(m / 2) - 1 := by unfold unfoldI; rw [if_pos h]
theorem unfold_even {m : Int} (h : ¬ m % 2 = 1) : unfoldI m = m / 2 := by unfold unfoldI; rw [if_neg h]

theorem unfold_fold (n : Int) : unfoldI (foldI n) = n := by unfold unfoldI foldI; split <;> split <;> omega
theorem fold_unfold (m : Int) (h : 0 ≤ m) : foldI (unfoldI m) = m := by unfold unfoldI foldI; split <;> split <;> omega
theorem fold_two : foldI (-2) = 3 := by decide
theorem fold_range {n : Int} (h1 : -9223372036854775808 ≤ n) (h2 : n < 9223372036854775808) : 0 ≤ foldI n ∧ foldI n < 18446744073709551616 := by
  unfold foldI; split <;> omega
theorem unfold_range {m : Int} (h1 : 0 ≤ m) (h2 : m < 18446744073709551616) : -9223372036854775808 ≤ unfoldI m ∧ unfoldI m < 9223372036854775808 := by
  unfold unfoldI; split <;> omega

theorem fold_code_neg {n : Int} (h : n < 0) (h1 : -9223372036854775808 ≤ n) :
    bits .xor .u64 IntKind.u64.max (IntKind.u64.wrap (IntKind.u64.wrap n * 2)) = foldI n := by
  rw [fold_neg h]
  have e : IntKind.u64.wrap (IntKind.u64.wrap n * 2) = 2 * n + 18446744073709551616 := by
    rw [IntKind.wrap_u64, IntKind.wrap_u64]; omega
  rw [e, not_u64 _ (by omega) (by omega)]
  omega

theorem ret_int {k : IntKind} {a b : Int} (h : a = b) : Ending.returned (.int k a) = .returned (.int k b) := by rw [h]
theorem ret_str {a b : ByteArray} (h : a = b) : Ending.returned (.string a) = .returned (.string b) := by rw [h]

end Go.Proofs.Ytainajjklakaeaa.M
