/-
  Plain facts on a number that is narrowed to its lowest bits, the highest of which is the sign. Nothing is asked but the bounds that each fact names.
-/
import Derived.WalkKit
import Derived.Test.YtbicbkimmblhgaaMathC
namespace Go.Proofs.Ytbicbkimmblhgaa.M
open Go.RowKit

/-- The number with a sign that the c lowest bits are (1 ≤ c). -/
def narI (n : Int) (c : Nat) : Int := (n + 2 ^ (c - 1)) % 2 ^ c - 2 ^ (c - 1)
/-- How many bits a width asks for. -/
def wOf (b : Int) : Nat := (max 1 (min b 64)).toNat
theorem wOf_eq (b : Int) : max 1 (min b 64) = (wOf b : Int) := by unfold wOf; omega
theorem wOf_range (b : Int) : 1 ≤ wOf b ∧ wOf b ≤ 64 := by unfold wOf; omega

theorem two_pos (c : Nat) : (0 : Int) < 2 ^ c := Int.pow_pos (by decide)
theorem two_succ {c : Nat} (h : 1 ≤ c) : (2 : Int) ^ c = 2 * 2 ^ (c - 1) := by
  obtain ⟨d, rfl⟩ : ∃ d, c = d + 1 := ⟨c - 1, by omega⟩
  rw [Int.pow_succ, Nat.add_sub_cancel, Int.mul_comm]
theorem nar_range (n : Int) {c : Nat} (h : 1 ≤ c) : -2 ^ (c - 1) ≤ narI n c ∧ narI n c < 2 ^ (c - 1) := by
  unfold narI
  have hp := two_pos c
  have h1 := Int.emod_nonneg (n + 2 ^ (c - 1)) (Int.ne_of_gt hp)
  have h2 := Int.emod_lt_of_pos (n + 2 ^ (c - 1)) hp
  have h3 := two_succ h
  omega
theorem nar_same {n : Int} {c : Nat} (h : 1 ≤ c) (h1 : -2 ^ (c - 1) ≤ n) (h2 : n < 2 ^ (c - 1)) : narI n c = n := by
  unfold narI
  have h3 := two_succ h
  rw [Int.emod_eq_of_lt (by omega) (by omega)]
  omega
theorem nar_again (n : Int) {c : Nat} (h : 1 ≤ c) : narI (narI n c) c = narI n c :=
  nar_same h (nar_range n h).1 (nar_range n h).2
theorem pow_le63 {c : Nat} (h : c ≤ 63) : (2 : Int) ^ c ≤ 9223372036854775808 := by
  have := Nat.pow_le_pow_right (n := 2) (by decide) h
  have e : ((2 ^ c : Nat) : Int) ≤ ((2 ^ 63 : Nat) : Int) := by exact_mod_cast this
  simpa using e
theorem nar_i64 (n : Int) {c : Nat} (h : 1 ≤ c) (h2 : c ≤ 64) : -9223372036854775808 ≤ narI n c ∧ narI n c < 9223372036854775808 := by
  have := nar_range n h
  have := pow_le63 (show c - 1 ≤ 63 by omega)
  omega

/-- What the code comes to. -/
theorem nar_code (n : Int) {c : Nat} (h : 1 ≤ c) (h2 : c ≤ 64) : wrap64 (n * 2 ^ (64 - c)) / 2 ^ (64 - c) = narI n c := by
  have hu := two_pos (64 - c)
  have e64 : (18446744073709551616 : Int) = 2 ^ c * 2 ^ (64 - c) := by
    rw [← Int.pow_add, show c + (64 - c) = 64 by omega]; decide
  have e63 : (9223372036854775808 : Int) = 2 ^ (c - 1) * 2 ^ (64 - c) := by
    rw [← Int.pow_add, show c - 1 + (64 - c) = 63 by omega]; decide
  have e : wrap64 (n * 2 ^ (64 - c)) = narI n c * 2 ^ (64 - c) := by
    unfold wrap64 narI
    rw [e64, e63, ← Int.add_mul, Int.mul_comm _ (2 ^ (64 - c)), Int.mul_comm (2 ^ c) (2 ^ (64 - c)), Int.mul_emod_mul_of_pos _ _ hu, Int.mul_comm (2 ^ (c - 1)), ← Int.mul_sub, Int.mul_comm]
  rw [e, Int.mul_ediv_cancel _ (Int.ne_of_gt hu)]

/-- The lowest bits, one more. -/
theorem mod_step (N i : Nat) : N % 2 ^ (i + 1) = N % 2 ^ i + (N.testBit i).toNat * 2 ^ i := by
  rw [Nat.testBit_eq_decide_div_mod_eq, Nat.pow_succ, Nat.mod_mul]
  generalize N / 2 ^ i = q
  rcases (show q % 2 = 0 ∨ q % 2 = 1 by omega) with h | h
  · rw [h]; simp
  · rw [h]; simp

/-- What the document's loop comes to. -/
theorem nar_ref (n : Int) {c : Nat} (h : 1 ≤ c) (h2 : c ≤ 63) :
    (((n % 18446744073709551616).toNat % 2 ^ (c - 1) : Nat) : Int) - (((n % 18446744073709551616).toNat.testBit (c - 1)).toNat : Int) * 2 ^ (c - 1) = narI n c := by
  have hs := mod_step (n % 18446744073709551616).toNat (c - 1)
  rw [show c - 1 + 1 = c by omega] at hs
  have e64 : (18446744073709551616 : Int) = 2 ^ c * 2 ^ (64 - c) := by
    rw [← Int.pow_add, show c + (64 - c) = 64 by omega]; decide
  have hm : (((n % 18446744073709551616).toNat % 2 ^ c : Nat) : Int) = n % 2 ^ c := by
    have hn : 0 ≤ n % 18446744073709551616 := by omega
    rw [Int.natCast_emod, Int.toNat_of_nonneg hn, Int.natCast_pow, e64]
    exact Int.emod_emod_of_dvd n (Int.dvd_mul_right _ _)
  have hlt : (n % 18446744073709551616).toNat % 2 ^ (c - 1) < 2 ^ (c - 1) := Nat.mod_lt _ (Nat.pow_pos (by decide))
  have hb := bool_le ((n % 18446744073709551616).toNat.testBit (c - 1))
  generalize (n % 18446744073709551616).toNat.testBit (c - 1) = b at *
  generalize (n % 18446744073709551616).toNat % 2 ^ (c - 1) = V at *
  have hc : (((V + b.toNat * 2 ^ (c - 1) : Nat)) : Int) = n % 2 ^ c := by rw [← hs]; exact hm
  have ht := two_succ h
  unfold narI
  have hnn : n = 2 ^ c * (n / 2 ^ c) + n % 2 ^ c := (Int.mul_ediv_add_emod n (2 ^ c)).symm
  have hVi : (V : Int) < 2 ^ (c - 1) := by
    have : ((V : Nat) : Int) < ((2 ^ (c - 1) : Nat) : Int) := by omega
    simpa using this
  have e1 : (n + 2 ^ (c - 1)) % 2 ^ c = (n % 2 ^ c + 2 ^ (c - 1)) % 2 ^ c := by rw [Int.emod_add_emod]
  rw [e1, ← hc]
  cases b
  · simp
    rw [Int.emod_eq_of_lt (by have := two_pos (c - 1); omega) (by omega)]
    omega
  · simp
    have e2 : (V : Int) + 2 ^ (c - 1) + 2 ^ (c - 1) = V + 2 ^ c := by omega
    rw [e2, Int.add_emod_right, Int.emod_eq_of_lt (by omega) (by have := two_pos (c - 1); omega)]
    
end Go.Proofs.Ytbicbkimmblhgaa.M
