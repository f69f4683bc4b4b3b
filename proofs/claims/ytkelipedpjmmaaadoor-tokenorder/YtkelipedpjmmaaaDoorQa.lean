/-
  Plain facts, several texts in one: MathA MathB MathC MathD MathG MathT MathK MathMs MathQ MathU MathWh MathMa. Nothing is asked but what each fact names.
-/
import Derived.WalkKit
import Derived.Laws.BitsAllLaws
import Derived.Laws.BitsLemmas
import Derived.Lib.Repeat
namespace Go.Proofs.YtkelipedpjmmaaaDoor.M

theorem wf_i64 {n : Int} (h : (Lit.int .i64 n).wf = true) : -9223372036854775808 ≤ n ∧ n < 9223372036854775808 := by
  simp [Lit.wf, IntKind.min, IntKind.max, IntKind.bits, IntKind.signed] at h
  omega

theorem wf_u64 {n : Int} (h : (Lit.int .u64 n).wf = true) : 0 ≤ n ∧ n < 18446744073709551616 := by
  simp [Lit.wf, IntKind.min, IntKind.max, IntKind.bits, IntKind.signed] at h
  omega

theorem wf_u32 {n : Int} (h : (Lit.int .u32 n).wf = true) : 0 ≤ n ∧ n < 4294967296 := by
  simp [Lit.wf, IntKind.min, IntKind.max, IntKind.bits, IntKind.signed] at h
  omega

theorem u64_max : IntKind.u64.max = 18446744073709551615 := by decide

theorem not_u64 (x : Int) (h0 : 0 ≤ x) (h1 : x < 18446744073709551616) :
    bits .xor .u64 IntKind.u64.max x = 18446744073709551615 - x := by
  obtain ⟨a, rfl⟩ := Int.eq_ofNat_of_zero_le h0
  have ha : a < 18446744073709551616 := by omega
  rw [u64_max]
  show IntKind.u64.wrap ((BitVec.ofInt 64 (18446744073709551615) ^^^ BitVec.ofInt 64 (a : Int)).toNat : Int) = _
  have e : BitVec.ofInt 64 (18446744073709551615) = BitVec.allOnes 64 := by decide
  rw [e, BitVec.allOnes_xor, BitVec.toNat_not, ofInt_u64 a ha, IntKind.wrap_u64]
  omega

theorem not_i64 (x : Int) (h0 : 0 ≤ x) (h1 : x < 9223372036854775808) :
    bits .xor .i64 (-1) x = -1 - x := by
  obtain ⟨a, rfl⟩ := Int.eq_ofNat_of_zero_le h0
  have ha : a < 18446744073709551616 := by omega
  show IntKind.i64.wrap ((BitVec.ofInt 64 (-1) ^^^ BitVec.ofInt 64 (a : Int)).toNat : Int) = _
  have e : BitVec.ofInt 64 (-1) = BitVec.allOnes 64 := by decide
  rw [e, BitVec.allOnes_xor, BitVec.toNat_not, ofInt_u64 a ha, IntKind.wrap_i64]
  omega

theorem and_one (x : Int) (h0 : 0 ≤ x) (h1 : x < 18446744073709551616) :
    bits .and .u64 x 1 = x % 2 := by
  rw [u64_and x 1 h0 h1 (by decide) (by decide)]
  have : (1 : Int).toNat = 1 := rfl
  rw [this, nat_mask1]
  omega

/-- What folding comes to. -/
def foldI (n : Int) : Int := if n < 0 then -2 * n - 1 else 2 * n
/-- What unfolding comes to. -/
def unfoldI (m : Int) : Int := if m % 2 = 1 then -(m / 2) - 1 else m / 2

theorem fold_neg {n : Int} (h : n < 0) : foldI n = -2 * n - 1 := by unfold foldI; rw [if_pos h]
theorem fold_pos {n : Int} (h : ¬ n < 0) : foldI n = 2 * n := by unfold foldI; rw [if_neg h]
theorem unfold_odd {m : Int} (h : m % 2 = 1) : unfoldI m = -(m / 2) - 1 := by unfold unfoldI; rw [if_pos h]
theorem unfold_even {m : Int} (h : ¬ m % 2 = 1) : unfoldI m = m / 2 := by unfold unfoldI; rw [if_neg h]

theorem unfold_fold (n : Int) : unfoldI (foldI n) = n := by unfold unfoldI foldI; split <;> split <;> omega
theorem fold_unfold (m : Int) (h : 0 ≤ m) : foldI (unfoldI m) = m := by unfold unfoldI foldI; split <;> split <;> omega
theorem fold_two : foldI (-2) = 3 := by decide
theorem fold_range {n : Int} (h1 : -9223372036854775808 ≤ n) (h2 : n < 9223372036854775808) : 0 ≤ foldI n ∧ foldI n < 18446744073709551616 := by
  unfold foldI; split <;> omega
theorem unfold_range {m : Int} (h1 : 0 ≤ m) (h2 : m < 18446744073709551616) : -9223372036854775808 ≤ unfoldI m ∧ unfoldI m < 9223372036854775808 := by
  unfold unfoldI; split <;> omega

theorem fold_code_neg {n : Int} (h : n < 0) (h1 : -9223372036854775808 ≤ n) :
    bits .xor .u64 IntKind.u64.max (IntKind.u64.wrap (IntKind.u64.wrap n * 2)) = foldI n := by
  rw [fold_neg h]
  have e : IntKind.u64.wrap (IntKind.u64.wrap n * 2) = 2 * n + 18446744073709551616 := by
    rw [IntKind.wrap_u64, IntKind.wrap_u64]; omega
  rw [e, not_u64 _ (by omega) (by omega)]
  omega

theorem ret_int {k : IntKind} {a b : Int} (h : a = b) : Ending.returned (.int k a) = .returned (.int k b) := by rw [h]
theorem ret_str {a b : ByteArray} (h : a = b) : Ending.returned (.string a) = .returned (.string b) := by rw [h]

end Go.Proofs.YtkelipedpjmmaaaDoor.M

namespace Go.Proofs.YtkelipedpjmmaaaDoor.M

/-- n without its i lowest bytes. -/
def sh (n : Int) : Nat → Int
  | 0 => n
  | i + 1 => sh n i / 256
/-- The i lowest bytes of n, the highest first. -/
def be : Nat → Int → List UInt8
  | 0, _ => []
  | i + 1, n => UInt8.ofNat (sh n i % 256).toNat :: be i n
/-- The same as a text. -/
def beB (i : Nat) (n : Int) : ByteArray := ⟨(be i n).toArray⟩

theorem sh_range {n : Int} (h0 : 0 ≤ n) (h1 : n < 18446744073709551616) : ∀ i, 0 ≤ sh n i ∧ sh n i < 18446744073709551616
  | 0 => ⟨h0, h1⟩
  | i + 1 => by have := sh_range h0 h1 i; show 0 ≤ sh n i / 256 ∧ sh n i / 256 < _; omega
theorem be_length : ∀ (i : Nat) (n : Int), (be i n).length = i
  | 0, _ => rfl
  | i + 1, n => by simp [be, be_length i n]
theorem beB_size (i : Nat) (n : Int) : (beB i n).size = i := by
  show (be i n).toArray.size = i
  simp [be_length]

/-- What stands in the slice behind i rounds: noughts, then the i lowest bytes. -/
def cellsAt (k i : Nat) (n : Int) : List Value :=
  List.replicate (k - i) (.int .u8 0) ++ (be i n).map fun b => .int .u8 (b.toNat : Int)

theorem cellsAt_length {k i : Nat} (n : Int) (h : i ≤ k) : (cellsAt k i n).length = k := by
  simp [cellsAt, be_length]; omega
theorem cellsAt_zero (k : Nat) (n : Int) : cellsAt k 0 n = List.replicate k (.int .u8 0) := by simp [cellsAt, be]
theorem cellsAt_full (k : Nat) (n : Int) : cellsAt k k n = (be k n).map fun b => .int .u8 (b.toNat : Int) := by simp [cellsAt]
theorem byte_val {x : Int} (h : 0 ≤ x) (h2 : x < 256) : ((UInt8.ofNat x.toNat).toNat : Int) = x := by
  simp; omega
theorem cellsAt_set {k i : Nat} (n : Int) (h : i < k) : (cellsAt k i n).set (k - 1 - i) (.int .u8 (sh n i % 256)) = cellsAt k (i + 1) n := by
  have e : k - i = (k - 1 - i) + 1 := by omega
  have e2 : k - (i + 1) = k - 1 - i := by omega
  unfold cellsAt
  rw [e, e2]
  rw [List.set_append_left _ _ (by simp)]
  rw [List.replicate_succ', List.set_append_right _ _ (by simp)]
  simp [be]
  omega
theorem cellsAt_get {k i : Nat} (n : Int) (h : i < k) : (cellsAt k i n)[k - 1 - i]? = some (.int .u8 0) := by
  unfold cellsAt
  rw [List.getElem?_append_left (by simp; omega)]
  rw [List.getElem?_replicate, if_pos (by omega)]

/-- A text of one byte. -/
def oneB (x : Int) : ByteArray := ⟨#[UInt8.ofNat x.toNat]⟩
theorem oneB_size (x : Int) : (oneB x).size = 1 := rfl
theorem one_be (i : Nat) (n : Int) : oneB (sh n i % 256) ++ beB i n = beB (i + 1) n := by
  apply ByteArray.ext
  simp [oneB, beB, be]

theorem made_bytes (k : Nat) : (madeCells #[.int .u8 0] k).toList = List.replicate k (.int .u8 0) := by
  apply List.ext_getElem
  · simp [madeCells]
  · intro i h1 h2
    simp [madeCells, Nat.mod_one]

end Go.Proofs.YtkelipedpjmmaaaDoor.M

namespace Go.Proofs.YtkelipedpjmmaaaDoor.M

/-- The number whose bit j is f j, for the lowest c bits. -/
def valN : Nat → (Nat → Bool) → Nat
  | 0, _ => 0
  | c + 1, f => (f 0).toNat + 2 * valN c fun j => f (j + 1)

theorem bool_le (b : Bool) : b.toNat ≤ 1 := by cases b <;> decide

theorem testBit_valN : ∀ (c : Nat) (f : Nat → Bool) (j : Nat), (valN c f).testBit j = (decide (j < c) && f j)
  | 0, f, j => by simp [valN]
  | c + 1, f, 0 => by
    unfold valN
    rw [Nat.testBit_zero]
    have : ((f 0).toNat + 2 * valN c fun j => f (j + 1)) % 2 = (f 0).toNat := by have := bool_le (f 0); omega
    rw [this]
    cases f 0 <;> simp
  | c + 1, f, j + 1 => by
    unfold valN
    rw [Nat.testBit_succ]
    have : ((f 0).toNat + 2 * valN c fun j => f (j + 1)) / 2 = valN c fun j => f (j + 1) := by have := bool_le (f 0); omega
    rw [this, testBit_valN c]
    simp

theorem valN_lt : ∀ (c : Nat) (f : Nat → Bool), valN c f < 2 ^ c
  | 0, _ => by simp [valN]
  | c + 1, f => by
    have h := valN_lt c fun j => f (j + 1)
    have := bool_le (f 0)
    unfold valN
    rw [Nat.pow_succ]
    omega

theorem valN_le64 {c : Nat} (f : Nat → Bool) (h : c ≤ 64) : valN c f < 18446744073709551616 :=
  Nat.lt_of_lt_of_le (valN_lt c f) (by have := Nat.pow_le_pow_right (n := 2) (by decide) h; simpa using this)

/-- One bit more below. -/
theorem valN_step (c i : Nat) (f : Nat → Bool) : valN (c + 1) (fun j => f (i + j)) = 2 * valN c (fun j => f (i + 1 + j)) + (f i).toNat := by
  show (f (i + 0)).toNat + 2 * valN c (fun j => f (i + (j + 1))) = _
  have e : (fun j => f (i + (j + 1))) = fun j => f (i + 1 + j) := by funext j; congr 1; omega
  rw [e, Nat.add_zero]
  omega

/-- n without its i lowest bits. -/
def hv (n : Int) : Nat → Int
  | 0 => n
  | i + 1 => hv n i / 2
theorem hv_nat (N : Nat) : ∀ i, hv (N : Int) i = ((N / 2 ^ i : Nat) : Int)
  | 0 => by simp [hv]
  | i + 1 => by
    show hv (N : Int) i / 2 = _
    rw [hv_nat N i, Nat.pow_succ, ← Nat.div_div_eq_div_mul]
    omega
theorem hv_range {n : Int} (h0 : 0 ≤ n) (h1 : n < 18446744073709551616) : ∀ i, 0 ≤ hv n i ∧ hv n i < 18446744073709551616
  | 0 => ⟨h0, h1⟩
  | i + 1 => by have := hv_range h0 h1 i; show 0 ≤ hv n i / 2 ∧ hv n i / 2 < _; omega

/-- The bit at a place; where there is none: false. -/
def bitB (n at_ : Int) : Bool := decide (0 ≤ at_) && n.toNat.testBit at_.toNat
theorem bitB_neg {n a : Int} (h : a < 0) : bitB n a = false := by unfold bitB; simp; omega
theorem bitB_big {n a : Int} (h0 : 0 ≤ n) (h1 : n < 18446744073709551616) (h : 63 < a) : bitB n a = false := by
  unfold bitB
  have : n.toNat < 2 ^ a.toNat := Nat.lt_of_lt_of_le (m := 2 ^ 64) (by omega) (Nat.pow_le_pow_right (by decide) (by omega))
  simp [Nat.testBit_lt_two_pow this]
theorem hv_bit {n : Int} (h0 : 0 ≤ n) (a : Nat) : hv n a % 2 = ((bitB n (a : Int)).toNat : Int) := by
  obtain ⟨N, rfl⟩ := Int.eq_ofNat_of_zero_le h0
  rw [hv_nat]
  unfold bitB
  simp only [Int.toNat_natCast]
  have e : decide ((0 : Int) ≤ (a : Int)) = true := by simp
  rw [e, Bool.true_and, Nat.testBit_eq_decide_div_mod_eq]
  generalize N / 2 ^ a = q
  rcases (show q % 2 = 0 ∨ q % 2 = 1 by omega) with h | h
  · rw [h]; simp; omega
  · rw [h]; simp; omega

theorem wrapMul (N a : Nat) : IntKind.u64.wrap ((N : Int) * 2 ^ a) = ((N * 2 ^ a % 18446744073709551616 : Nat) : Int) := by
  rw [IntKind.wrap_u64]
  simp [Int.natCast_emod, Int.natCast_mul, Int.natCast_pow]
theorem wrapMul32 (N a : Nat) : IntKind.u32.wrap ((N : Int) * 2 ^ a) = ((N * 2 ^ a % 4294967296 : Nat) : Int) := by
  rw [IntKind.wrap_u32]
  simp [Int.natCast_emod, Int.natCast_mul, Int.natCast_pow]
theorem divPow (N a : Nat) : (N : Int) / 2 ^ a = ((N / 2 ^ a : Nat) : Int) := by
  simp [Int.natCast_ediv, Int.natCast_pow]

/-- How many bits a count asks for. -/
def cOf (count : Int) : Nat := (max 0 (min count 64)).toNat
/-- The bit j places behind a place. -/
def gB (n from_ : Int) (j : Nat) : Bool := bitB n (from_ + (j : Int))
/-- Some of a number's bits. -/
def bitsN (n from_ count : Int) : Nat := valN (cOf count) (gB n from_)
theorem bitsN_eq (n from_ count : Int) : bitsN n from_ count = valN (cOf count - 0) fun j => gB n from_ (0 + j) := by
  unfold bitsN
  congr 1
  funext j
  rw [Nat.zero_add]

theorem bitsN_none {n from_ count : Int} (h : count < 1) : bitsN n from_ count = 0 := by
  have e : cOf count = 0 := by unfold cOf; omega
  unfold bitsN
  rw [e]
  rfl
theorem valN_false : ∀ (c : Nat) (f : Nat → Bool), (∀ j, j < c → f j = false) → valN c f = 0
  | 0, _, _ => rfl
  | c + 1, f, h => by
    unfold valN
    rw [h 0 (by omega), valN_false c _ fun j hj => h (j + 1) (by omega)]
    rfl
theorem bitsN_out {n from_ count : Int} (h0 : 0 ≤ n) (h1 : n < 18446744073709551616) (h : from_ ≤ -64 ∨ 64 ≤ from_) : bitsN n from_ count = 0 := by
  apply valN_false
  intro j hj
  unfold gB
  have hc : cOf count ≤ 64 := by unfold cOf; omega
  rcases h with h | h
  · exact bitB_neg (by omega)
  · exact bitB_big h0 h1 (by omega)
theorem bitsN_lt (n from_ count : Int) : bitsN n from_ count < 18446744073709551616 := valN_le64 _ (by unfold cOf; omega)

/-- Shifted up, then cut. -/
theorem bits_up {n from_ count : Int} (h0 : 0 ≤ n) (h : from_ < 0) (u : Nat) (hu : u + cOf count = 64) :
    IntKind.u64.wrap (IntKind.u64.wrap (n * 2 ^ (-from_).toNat) * 2 ^ u) / 2 ^ u = (bitsN n from_ count : Int) := by
  obtain ⟨N, rfl⟩ := Int.eq_ofNat_of_zero_le h0
  rw [wrapMul, wrapMul, divPow]
  congr 1
  apply Nat.eq_of_testBit_eq
  intro j
  unfold bitsN
  have e64 : (18446744073709551616 : Nat) = 2 ^ 64 := by decide
  rw [testBit_valN, gB, Nat.testBit_div_two_pow, e64, Nat.testBit_mod_two_pow, Nat.mul_comm _ (2 ^ u), Nat.testBit_two_pow_mul, Nat.testBit_mod_two_pow, Nat.mul_comm N, Nat.testBit_two_pow_mul]
  have hj : j + u - u = j := by omega
  rw [hj]
  by_cases c1 : j < cOf count
  · have d1 : decide (j + u < 64) = true := decide_eq_true (by omega)
    have d2 : decide (j + u ≥ u) = true := decide_eq_true (by omega)
    have d3 : decide (j < 64) = true := decide_eq_true (by omega)
    rw [decide_eq_true c1]
    by_cases c2 : (-from_).toNat ≤ j
    · have e : (from_ + (j : Int)).toNat = j - (-from_).toNat := by omega
      have d4 : decide (j ≥ (-from_).toNat) = true := decide_eq_true c2
      have d5 : decide (0 ≤ from_ + (j : Int)) = true := decide_eq_true (by omega)
      unfold bitB
      simp only [d1, d2, d3, d4, d5, e, Int.toNat_natCast, Bool.true_and]
    · have e : from_ + (j : Int) < 0 := by omega
      have d4 : decide (j ≥ (-from_).toNat) = false := decide_eq_false c2
      rw [bitB_neg e]
      simp only [d1, d2, d3, d4, Bool.true_and, Bool.false_and]
  · have d1 : decide (j + u < 64) = false := decide_eq_false (by omega)
    rw [decide_eq_false c1, d1, Bool.false_and, Bool.false_and]

/-- Shifted down, then cut. -/
theorem bits_down {n from_ count : Int} (h0 : 0 ≤ n) (h : 0 ≤ from_) (u : Nat) (hu : u + cOf count = 64) :
    IntKind.u64.wrap (n / 2 ^ from_.toNat * 2 ^ u) / 2 ^ u = (bitsN n from_ count : Int) := by
  obtain ⟨N, rfl⟩ := Int.eq_ofNat_of_zero_le h0
  rw [divPow, wrapMul, divPow]
  congr 1
  apply Nat.eq_of_testBit_eq
  intro j
  unfold bitsN
  have e64 : (18446744073709551616 : Nat) = 2 ^ 64 := by decide
  rw [testBit_valN, gB, Nat.testBit_div_two_pow, e64, Nat.testBit_mod_two_pow, Nat.mul_comm _ (2 ^ u), Nat.testBit_two_pow_mul, Nat.testBit_div_two_pow]
  have hj : j + u - u = j := by omega
  rw [hj]
  by_cases c1 : j < cOf count
  · have d1 : decide (j + u < 64) = true := decide_eq_true (by omega)
    have d2 : decide (j + u ≥ u) = true := decide_eq_true (by omega)
    have e : (from_ + (j : Int)).toNat = j + from_.toNat := by omega
    have d5 : decide (0 ≤ from_ + (j : Int)) = true := decide_eq_true (by omega)
    unfold bitB
    simp only [decide_eq_true c1, d1, d2, d5, e, Int.toNat_natCast, Bool.true_and]
  · have d1 : decide (j + u < 64) = false := decide_eq_false (by omega)
    rw [decide_eq_false c1, d1, Bool.false_and, Bool.false_and]

end Go.Proofs.YtkelipedpjmmaaaDoor.M

namespace Go.Proofs.YtkelipedpjmmaaaDoor.M

/-- Where the bit that comes to place j stood. -/
def rB (x : Int) (b j : Nat) : Bool := x.toNat.testBit ((j + 32 - b) % 32)
/-- The word, moved around by b. -/
def rotN (x : Int) (b : Nat) : Nat := valN 32 (rB x b)
/-- By how much a number moves. -/
def bOf (by_ : Int) : Nat := (by_ % 32).toNat
theorem bOf_lt (by_ : Int) : bOf by_ < 32 := by unfold bOf; omega
theorem rotN_lt (x : Int) (b : Nat) : rotN x b < 4294967296 := valN_lt 32 _

theorem and31 (k : Int) : bits .and .u64 (IntKind.u64.wrap k) 31 = (bOf k : Int) := by
  rw [IntKind.wrap_u64, u64_and _ 31 (by omega) (by omega) (by decide) (by decide)]
  have : (31 : Int).toNat = 31 := rfl
  rw [this, nat_mask5]
  unfold bOf
  omega

theorem tmod32 (k : Int) : (0 ≤ k ∧ k.tmod 32 = k % 32) ∨ (k < 0 ∧ k.tmod 32 = -((-k) % 32)) := by
  by_cases h : 0 ≤ k
  · exact .inl ⟨h, Int.tmod_eq_emod_of_nonneg h⟩
  · refine .inr ⟨by omega, ?_⟩
    have e := Int.neg_tmod (-k) 32
    rw [Int.neg_neg, Int.tmod_eq_emod_of_nonneg (show 0 ≤ -k by omega)] at e
    exact e
theorem tmod_neg {k : Int} (h : k.tmod 32 < 0) : k.tmod 32 + 32 = (bOf k : Int) := by
  have := tmod32 k
  unfold bOf
  omega
theorem tmod_pos {k : Int} (h : ¬ k.tmod 32 < 0) : k.tmod 32 = (bOf k : Int) := by
  have := tmod32 k
  unfold bOf
  omega
/-- Back by as much. -/
theorem bOf_back (k : Int) : (bOf k + bOf (-(k.tmod 32))) % 32 = 0 := by
  have := tmod32 k
  unfold bOf
  omega
theorem tmod_range (k : Int) : -32 < k.tmod 32 ∧ k.tmod 32 < 32 := by
  have := tmod32 k
  omega

/-- What the code comes to. -/
theorem rot_code {x : Int} (h0 : 0 ≤ x) (h1 : x < 4294967296) (b : Nat) (hb : b < 32) :
    bits .or .u32 (IntKind.u32.wrap (x * 2 ^ b)) (x / 2 ^ (32 - b)) = (rotN x b : Int) := by
  obtain ⟨N, rfl⟩ := Int.eq_ofNat_of_zero_le h0
  have hN : N < 2 ^ 32 := by omega
  rw [wrapMul32, divPow]
  have q1 : N * 2 ^ b % 4294967296 < 4294967296 := Nat.mod_lt _ (by decide)
  have q2 : N / 2 ^ (32 - b) < 4294967296 := Nat.lt_of_le_of_lt (Nat.div_le_self _ _) (by omega)
  rw [u32_or_nat _ _ q1 q2]
  refine congrArg Nat.cast ?_
  apply Nat.eq_of_testBit_eq
  intro j
  unfold rotN
  have e32 : (4294967296 : Nat) = 2 ^ 32 := by decide
  rw [testBit_valN, rB, Nat.testBit_or, Nat.testBit_div_two_pow, e32, Nat.testBit_mod_two_pow, Nat.mul_comm N, Nat.testBit_two_pow_mul, Int.toNat_natCast]
  by_cases c1 : j < 32
  · rw [decide_eq_true c1, Bool.true_and, Bool.true_and]
    by_cases c2 : b ≤ j
    · have e : (j + 32 - b) % 32 = j - b := by omega
      have z : N.testBit (j + (32 - b)) = false := Nat.testBit_lt_two_pow (Nat.lt_of_lt_of_le hN (Nat.pow_le_pow_right (by decide) (by omega)))
      rw [e, z, decide_eq_true (show j ≥ b from c2), Bool.true_and, Bool.or_false]
    · have e : (j + 32 - b) % 32 = j + (32 - b) := by omega
      rw [e, decide_eq_false (show ¬ j ≥ b from c2), Bool.false_and, Bool.false_or]
  · have z : N.testBit (j + (32 - b)) = false := Nat.testBit_lt_two_pow (Nat.lt_of_lt_of_le hN (Nat.pow_le_pow_right (by decide) (by omega)))
    rw [decide_eq_false c1, z, Bool.false_and, Bool.false_and, Bool.or_false]

/-- Moved on and back. -/
theorem rot_back {x : Int} (h0 : 0 ≤ x) (h1 : x < 4294967296) (b c : Nat) (hb : b < 32) (hc : c < 32) (hs : (b + c) % 32 = 0) :
    (rotN (rotN x b : Int) c : Int) = x := by
  obtain ⟨N, rfl⟩ := Int.eq_ofNat_of_zero_le h0
  have hN : N < 2 ^ 32 := by omega
  refine congrArg Nat.cast ?_
  apply Nat.eq_of_testBit_eq
  intro j
  unfold rotN
  rw [testBit_valN, rB, Int.toNat_natCast, testBit_valN, rB, Int.toNat_natCast]
  by_cases c1 : j < 32
  · have e : ((j + 32 - c) % 32 + 32 - b) % 32 = j := by omega
    rw [decide_eq_true c1, decide_eq_true (show (j + 32 - c) % 32 < 32 by omega), e, Bool.true_and, Bool.true_and]
  · have z : N.testBit j = false := Nat.testBit_lt_two_pow (Nat.lt_of_lt_of_le hN (Nat.pow_le_pow_right (by decide) (by omega)))
    rw [decide_eq_false c1, z, Bool.false_and]

theorem rotN_eq (x : Int) (b : Nat) : rotN x b = valN (32 - 0) fun j => rB x b (0 + j) := by
  unfold rotN
  have e : (fun j => rB x b (0 + j)) = rB x b := by funext j; rw [Nat.zero_add]
  rw [e]

/-- The bit that the document's loop asks for. -/
theorem rB_bit {x : Int} (b d : Nat) (hb : b < 32) (hd : d < 32) (a : Int) (ha : a = if (d : Int) - (b : Int) < 0 then (d : Int) - (b : Int) + 32 else (d : Int) - (b : Int)) : bitB x a = rB x b d := by
  unfold bitB rB
  split at ha
  · rw [decide_eq_true (show 0 ≤ a by omega), show a.toNat = (d + 32 - b) % 32 by omega, Bool.true_and]
  · rw [decide_eq_true (show 0 ≤ a by omega), show a.toNat = (d + 32 - b) % 32 by omega, Bool.true_and]

end Go.Proofs.YtkelipedpjmmaaaDoor.M

namespace Go.Proofs.YtkelipedpjmmaaaDoor.M

/-- The byte at a place; behind the end: nought. -/
def bt (s : ByteArray) (j : Nat) : Int := if h : j < s.size then (s[j].toNat : Int) else 0
theorem get_bt (s : ByteArray) : ∀ (j : Nat) (h : j < s.size), ((s[j]'h).toNat : Int) = bt s j := fun j h => by unfold bt; rw [dif_pos h]
theorem bt_range (s : ByteArray) (j : Nat) : 0 ≤ bt s j ∧ bt s j ≤ 255 := by
  unfold bt
  split
  · rename_i h
    have := s[j].toNat_lt
    omega
  · omega

/-- The number that k bytes from a place on are. -/
def num (s : ByteArray) (a : Nat) : Nat → Int
  | 0 => 0
  | k + 1 => num s a k * 256 + bt s (a + k)
theorem num_range (s : ByteArray) (a : Nat) : ∀ k, 0 ≤ num s a k ∧ num s a k < 256 ^ k
  | 0 => by simp [num]
  | k + 1 => by
    have h := num_range s a k
    have hb := bt_range s (a + k)
    show 0 ≤ num s a k * 256 + bt s (a + k) ∧ num s a k * 256 + bt s (a + k) < 256 ^ (k + 1)
    rw [Int.pow_succ]
    omega
theorem pow256 {k m : Nat} (h : k ≤ m) : (256 : Int) ^ k ≤ 256 ^ m := by
  have h1 := Nat.pow_le_pow_right (n := 256) (by decide) h
  have h2 : ((256 ^ k : Nat) : Int) ≤ ((256 ^ m : Nat) : Int) := Int.ofNat_le.mpr h1
  rw [Int.natCast_pow, Int.natCast_pow] at h2
  exact h2
theorem num_7 (s : ByteArray) (a : Nat) {k : Nat} (h : k ≤ 7) : 0 ≤ num s a k ∧ num s a k < 72057594037927936 := by
  have h1 := num_range s a k
  have h2 := pow256 h
  have e : (256 : Int) ^ 7 = 72057594037927936 := by decide
  omega
theorem num_8 (s : ByteArray) (a : Nat) {k : Nat} (h : k ≤ 8) : 0 ≤ num s a k ∧ num s a k < 18446744073709551616 := by
  have h1 := num_range s a k
  have h2 := pow256 h
  have e : (256 : Int) ^ 8 = 18446744073709551616 := by decide
  omega
/-- A byte put below. -/
theorem or_byte {x y : Int} (h0 : 0 ≤ x) (h1 : x < 72057594037927936) (h2 : 0 ≤ y) (h3 : y ≤ 255) : bits .or .u64 (x * 256) y = x * 256 + y := by
  rw [u64_or _ _ (by omega) (by omega) h2 (by omega), nat_join8 _ _ (by omega) (by omega)]
  omega

/-- The error of a Get; 0: none. -/
def gE (s : ByteArray) (at_ width : Int) : Int :=
  if width < 1 ∨ 8 < width ∨ at_ < 0 ∨ (s.size : Int) < at_ then 2 else if (s.size : Int) - at_ < width then 3 else 0
/-- The number of a Get. -/
def gN (s : ByteArray) (at_ width : Int) : Int := if gE s at_ width = 0 then num s at_.toNat width.toNat else 0
/-- The place behind it. -/
def gX (s : ByteArray) (at_ width : Int) : Int := if gE s at_ width = 0 then at_ + width else 0

theorem g_arg {s : ByteArray} {at_ width : Int} (h : width < 1 ∨ 8 < width ∨ at_ < 0 ∨ (s.size : Int) < at_) : gE s at_ width = 2 ∧ gN s at_ width = 0 ∧ gX s at_ width = 0 := by
  have e : gE s at_ width = 2 := by unfold gE; rw [if_pos h]
  unfold gN gX
  rw [e]
  exact ⟨rfl, rfl, rfl⟩
theorem g_short {s : ByteArray} {at_ width : Int} (h : ¬ (width < 1 ∨ 8 < width ∨ at_ < 0 ∨ (s.size : Int) < at_)) (h2 : (s.size : Int) - at_ < width) : gE s at_ width = 3 ∧ gN s at_ width = 0 ∧ gX s at_ width = 0 := by
  have e : gE s at_ width = 3 := by unfold gE; rw [if_neg h, if_pos h2]
  unfold gN gX
  rw [e]
  exact ⟨rfl, rfl, rfl⟩
theorem g_ok {s : ByteArray} {at_ width : Int} (h : ¬ (width < 1 ∨ 8 < width ∨ at_ < 0 ∨ (s.size : Int) < at_)) (h2 : ¬ (s.size : Int) - at_ < width) :
    gE s at_ width = 0 ∧ gN s at_ width = num s at_.toNat width.toNat ∧ gX s at_ width = at_ + width := by
  have e : gE s at_ width = 0 := by unfold gE; rw [if_neg h, if_neg h2]
  unfold gN gX
  rw [e]
  exact ⟨rfl, rfl, rfl⟩

end Go.Proofs.YtkelipedpjmmaaaDoor.M

namespace Go.Proofs.YtkelipedpjmmaaaDoor.M

/-- The error of a Text; 0: none. -/
def tE (s : ByteArray) : Int := if 65535 < s.size then 5 else 0
/-- The bytes of a Text. -/
def tB (s : ByteArray) : ByteArray := if 65535 < s.size then ⟨#[]⟩ else beB 2 (s.size : Int) ++ s
theorem t_long {s : ByteArray} (h : 65535 < s.size) : tE s = 5 ∧ tB s = ⟨#[]⟩ := by unfold tE tB; rw [if_pos h, if_pos h]; exact ⟨rfl, rfl⟩
theorem t_ok {s : ByteArray} (h : ¬ 65535 < s.size) : tE s = 0 ∧ tB s = beB 2 (s.size : Int) ++ s := by unfold tE tB; rw [if_neg h, if_neg h]; exact ⟨rfl, rfl⟩

/-- The error of a GetText; 0: none. -/
def xE (s : ByteArray) (at_ : Int) : Int := if gE s at_ 2 ≠ 0 then gE s at_ 2 else if (s.size : Int) - gX s at_ 2 < gN s at_ 2 then 3 else 0
/-- The text of a GetText. -/
def xB (s : ByteArray) (at_ : Int) : ByteArray := if xE s at_ = 0 then s.extract (gX s at_ 2).toNat ((gX s at_ 2).toNat + (gN s at_ 2).toNat) else ⟨#[]⟩
/-- The place behind it. -/
def xX (s : ByteArray) (at_ : Int) : Int := if xE s at_ = 0 then gX s at_ 2 + gN s at_ 2 else 0
theorem x_err {s : ByteArray} {at_ : Int} (h : gE s at_ 2 ≠ 0) : xE s at_ = gE s at_ 2 ∧ xB s at_ = ⟨#[]⟩ ∧ xX s at_ = 0 := by
  have e : xE s at_ = gE s at_ 2 := by unfold xE; rw [if_pos h]
  refine ⟨e, ?_, ?_⟩
  · unfold xB; rw [e, if_neg h]
  · unfold xX; rw [e, if_neg h]
theorem x_short {s : ByteArray} {at_ : Int} (h : gE s at_ 2 = 0) (h2 : (s.size : Int) - gX s at_ 2 < gN s at_ 2) : xE s at_ = 3 ∧ xB s at_ = ⟨#[]⟩ ∧ xX s at_ = 0 := by
  have e : xE s at_ = 3 := by unfold xE; rw [if_neg (by omega), if_pos h2]
  refine ⟨e, ?_, ?_⟩
  · unfold xB; rw [e, if_neg (by decide)]
  · unfold xX; rw [e, if_neg (by decide)]
theorem x_ok {s : ByteArray} {at_ : Int} (h : gE s at_ 2 = 0) (h2 : ¬ (s.size : Int) - gX s at_ 2 < gN s at_ 2) :
    xE s at_ = 0 ∧ xB s at_ = s.extract (gX s at_ 2).toNat ((gX s at_ 2).toNat + (gN s at_ 2).toNat) ∧ xX s at_ = gX s at_ 2 + gN s at_ 2 := by
  have e : xE s at_ = 0 := by unfold xE; rw [if_neg (by omega), if_neg h2]
  refine ⟨e, ?_, ?_⟩
  · unfold xB; rw [e, if_pos rfl]
  · unfold xX; rw [e, if_pos rfl]
/-- What a Get of two bytes that went well says. -/
theorem g_two {s : ByteArray} {at_ : Int} (h : gE s at_ 2 = 0) : 0 ≤ gN s at_ 2 ∧ gN s at_ 2 < 65536 ∧ 0 ≤ gX s at_ 2 ∧ gX s at_ 2 ≤ (s.size : Int) := by
  by_cases c0 : (2 : Int) < 1 ∨ 8 < (2 : Int) ∨ at_ < 0 ∨ (s.size : Int) < at_
  · have := (g_arg c0).1; omega
  · by_cases c1 : (s.size : Int) - at_ < 2
    · have := (g_short c0 c1).1; omega
    · obtain ⟨_, e2, e3⟩ := g_ok c0 c1
      have h1 := num_range s at_.toNat (2 : Int).toNat
      have e : (256 : Int) ^ (2 : Int).toNat = 65536 := by decide
      omega

end Go.Proofs.YtkelipedpjmmaaaDoor.M

namespace Go.Proofs.YtkelipedpjmmaaaDoor.M

theorem size_app (a b : ByteArray) : (a ++ b).size = a.size + b.size := by simp

theorem bt_left {a : ByteArray} (b : ByteArray) {j : Nat} (h : j < a.size) : bt (a ++ b) j = bt a j := by
  unfold bt
  rw [dif_pos h, dif_pos (by rw [size_app]; omega), ByteArray.getElem_append_left h]
theorem bt_right (a b : ByteArray) {j : Nat} (h : a.size ≤ j) : bt (a ++ b) j = bt b (j - a.size) := by
  unfold bt
  by_cases c : j < (a ++ b).size
  · have c' : j - a.size < b.size := by rw [size_app] at c; omega
    rw [dif_pos c, dif_pos c', ByteArray.getElem_append_right h]
  · have c' : ¬ j - a.size < b.size := by rw [size_app] at c; omega
    rw [dif_neg c, dif_neg c']

/-- The number at a place, in what stands ahead of the rest. -/
theorem num_left (a b : ByteArray) (p : Nat) : ∀ k, p + k ≤ a.size → num (a ++ b) p k = num a p k
  | 0, _ => rfl
  | k + 1, h => by
    show num (a ++ b) p k * 256 + bt (a ++ b) (p + k) = num a p k * 256 + bt a (p + k)
    rw [num_left a b p k (by omega), bt_left b (by omega)]
/-- The number at the head of what stands behind. -/
theorem num_right (a b : ByteArray) : ∀ k, num (a ++ b) a.size k = num b 0 k
  | 0 => rfl
  | k + 1 => by
    show num (a ++ b) a.size k * 256 + bt (a ++ b) (a.size + k) = num b 0 k * 256 + bt b (0 + k)
    rw [num_right a b k, bt_right a b (by omega)]
    congr 2
    omega

theorem be_get : ∀ (w : Nat) (x : Int) (j : Nat) (h : j < (be w x).length), ((be w x)[j].toNat : Int) = sh x (w - 1 - j) % 256
  | 0, _, j, h => by simp [be] at h
  | w + 1, x, 0, _ => by
    simp [be]
    omega
  | w + 1, x, j + 1, h => by
    have h' : j < (be w x).length := by simp [be] at h; exact h
    have e : (be (w + 1) x)[j + 1] = (be w x)[j] := by simp [be]
    rw [e, be_get w x j h', show w + 1 - 1 - (j + 1) = w - 1 - j by omega]
theorem bt_be {w j : Nat} (x : Int) (h : j < w) : bt (beB w x) j = sh x (w - 1 - j) % 256 := by
  have hl : j < (be w x).length := by rw [be_length]; exact h
  unfold bt
  rw [dif_pos (by rw [beB_size]; exact h)]
  exact be_get w x j hl

theorem sh_nonneg {x : Int} (h : 0 ≤ x) : ∀ i, 0 ≤ sh x i
  | 0 => h
  | i + 1 => by have := sh_nonneg h i; show 0 ≤ sh x i / 256; omega
theorem mod_more {y : Int} (h : 0 ≤ y) (P : Nat) : (y / 256 % (P : Int)) * 256 + y % 256 = y % ((P : Int) * 256) := by
  obtain ⟨Y, rfl⟩ := Int.eq_ofNat_of_zero_le h
  have e : Y / 256 % P * 256 + Y % 256 = Y % (P * 256) := by rw [Nat.mul_comm P, Nat.mod_mul]; omega
  have e2 : ((Y / 256 % P * 256 + Y % 256 : Nat) : Int) = ((Y % (P * 256) : Nat) : Int) := by rw [e]
  simpa [Int.natCast_emod, Int.natCast_mul] using e2
theorem num_be {w : Nat} {x : Int} (hx : 0 ≤ x) : ∀ k, k ≤ w → num (beB w x) 0 k = sh x (w - k) % ((256 ^ k : Nat) : Int)
  | 0, _ => by simp [num]
  | k + 1, h => by
    show num (beB w x) 0 k * 256 + bt (beB w x) (0 + k) = _
    have hs : sh x (w - k) = sh x (w - (k + 1)) / 256 := by
      rw [show w - k = (w - (k + 1)) + 1 by omega]; rfl
    rw [num_be hx k (by omega), Nat.zero_add, bt_be x (by omega), show w - 1 - k = w - (k + 1) by omega, hs, mod_more (sh_nonneg hx _), Nat.pow_succ, Int.natCast_mul]
    rfl
theorem num_whole {w : Nat} {x : Int} (hx : 0 ≤ x) : num (beB w x) 0 w = x % ((256 ^ w : Nat) : Int) := by
  rw [num_be hx w (Nat.le_refl _), Nat.sub_self]
  rfl

/-- The lowest bits are the lowest bytes. -/
theorem bits_whole {x : Int} (hx : 0 ≤ x) {w : Nat} (hw : w ≤ 8) : (bitsN x 0 (8 * (w : Int)) : Int) = x % ((256 ^ w : Nat) : Int) := by
  obtain ⟨X, rfl⟩ := Int.eq_ofNat_of_zero_le hx
  have e : bitsN (X : Int) 0 (8 * (w : Int)) = X % 256 ^ w := by
    have hc : cOf (8 * (w : Int)) = 8 * w := by unfold cOf; omega
    have hp : (256 : Nat) ^ w = 2 ^ (8 * w) := by rw [Nat.pow_mul]
    rw [hp]
    apply Nat.eq_of_testBit_eq
    intro j
    unfold bitsN
    rw [testBit_valN, hc, Nat.testBit_mod_two_pow]
    have e2 : gB (X : Int) 0 j = X.testBit j := by
      unfold gB bitB
      rw [Int.zero_add, Int.toNat_natCast, Int.toNat_natCast, decide_eq_true (show (0 : Int) ≤ (j : Int) by omega), Bool.true_and]
    rw [e2]
  rw [e]
  rfl

/-- A Get that goes well. -/
theorem get_ok {s : ByteArray} {a w : Nat} (h1 : 1 ≤ w) (h2 : w ≤ 8) (h3 : a + w ≤ s.size) :
    gE s (a : Int) (w : Int) = 0 ∧ gN s (a : Int) (w : Int) = num s a w ∧ gX s (a : Int) (w : Int) = ((a + w : Nat) : Int) := by
  obtain ⟨e1, e2, e3⟩ := g_ok (s := s) (at_ := (a : Int)) (width := (w : Int)) (by omega) (by omega)
  rw [Int.toNat_natCast, Int.toNat_natCast] at e2
  exact ⟨e1, e2, by omega⟩

/-- What is laid behind a beginning is read there. -/
theorem get_back {p r : ByteArray} {w : Nat} {x : Int} (hx : 0 ≤ x) (h1 : 1 ≤ w) (h2 : w ≤ 8) :
    gE (p ++ beB w x ++ r) (p.size : Int) (w : Int) = 0 ∧ gN (p ++ beB w x ++ r) (p.size : Int) (w : Int) = x % ((256 ^ w : Nat) : Int) ∧
      gX (p ++ beB w x ++ r) (p.size : Int) (w : Int) = (((p ++ beB w x).size : Nat) : Int) := by
  have hz : (p ++ beB w x).size = p.size + w := by rw [size_app, beB_size]
  obtain ⟨e1, e2, e3⟩ := get_ok (s := p ++ beB w x ++ r) (a := p.size) h1 h2 (by rw [size_app, hz]; omega)
  refine ⟨e1, ?_, ?_⟩
  · rw [e2, num_left _ _ _ _ (by rw [hz]; exact Nat.le_refl _), num_right, num_whole hx]
  · rw [e3, hz]

theorem extract_mid (p t r : ByteArray) : (p ++ t ++ r).extract p.size (p.size + t.size) = t := by
  apply ByteArray.ext
  rw [ByteArray.data_extract, ByteArray.data_append, ByteArray.data_append]
  have hp : p.size = p.data.size := rfl
  have ht : t.size = t.data.size := rfl
  have e1 : p.data.extract p.size (p.size + t.size) = #[] := by
    apply Array.eq_empty_of_size_eq_zero
    rw [Array.size_extract]
    omega
  have e2 : t.data.extract 0 t.size = t.data := by rw [ht]; exact Array.extract_size
  rw [hp, ht]
  simp [Array.extract_append]
  rw [e1, e2]
  simp

/-- A text laid behind a beginning is read there. -/
theorem text_back {p t r : ByteArray} (ht : t.size ≤ 65535) :
    xE (p ++ tB t ++ r) (p.size : Int) = 0 ∧ xB (p ++ tB t ++ r) (p.size : Int) = t ∧ xX (p ++ tB t ++ r) (p.size : Int) = (((p ++ tB t).size : Nat) : Int) := by
  have hb : tB t = beB 2 (t.size : Int) ++ t := (t_ok (by omega)).2
  have ha : p ++ tB t ++ r = p ++ beB 2 (t.size : Int) ++ (t ++ r) := by rw [hb]; simp [ByteArray.append_assoc]
  have hc : p ++ tB t ++ r = p ++ beB 2 (t.size : Int) ++ t ++ r := by rw [hb]; simp [ByteArray.append_assoc]
  have hz : (p ++ beB 2 (t.size : Int)).size = p.size + 2 := by rw [size_app, beB_size]
  obtain ⟨e1, e2, e3⟩ := get_back (p := p) (r := t ++ r) (w := 2) (x := (t.size : Int)) (by omega) (by omega) (by omega)
  rw [← ha] at e1 e2 e3
  have e2' : gN (p ++ tB t ++ r) (p.size : Int) 2 = (t.size : Int) := by
    have h : gN (p ++ tB t ++ r) (p.size : Int) ((2 : Nat) : Int) = (t.size : Int) := by rw [e2]; simp; omega
    exact h
  have e1' : gE (p ++ tB t ++ r) (p.size : Int) 2 = 0 := e1
  have e3' : gX (p ++ tB t ++ r) (p.size : Int) 2 = (((p ++ beB 2 (t.size : Int)).size : Nat) : Int) := e3
  have hs : (p ++ tB t ++ r).size = p.size + 2 + t.size + r.size := by rw [hc, size_app, size_app, hz]
  obtain ⟨f1, f2, f3⟩ := x_ok e1' (by rw [e2', e3', hz, hs]; omega)
  refine ⟨f1, ?_, ?_⟩
  · rw [f2, e2', e3', Int.toNat_natCast, Int.toNat_natCast, hc]
    exact extract_mid _ _ _
  · rw [f3, e2', e3', hz, hb, size_app, size_app, beB_size]
    omega

end Go.Proofs.YtkelipedpjmmaaaDoor.M

namespace Go.Proofs.YtkelipedpjmmaaaDoor.M

/-- The byte at a place, as a plain number; behind the end: nought. -/
def bx (s : ByteArray) (j : Nat) : Nat := (bt s j).toNat
theorem bx_int (s : ByteArray) (j : Nat) : (bx s j : Int) = bt s j := by have := (bt_range s j).1; unfold bx; omega
theorem bx_lt (s : ByteArray) (j : Nat) : bx s j < 256 := by have := bt_range s j; unfold bx; omega
theorem bx_none {s : ByteArray} {j : Nat} (h : ¬ j < s.size) : bx s j = 0 := by unfold bx bt; rw [dif_neg h]; rfl
theorem bx_get {s : ByteArray} {j : Nat} (h : j < s.size) : bx s j = (s[j]'h).toNat := by unfold bx bt; rw [dif_pos h]; simp

theorem ext_bx {a b : ByteArray} (h : a.size = b.size) (hb : ∀ j, j < a.size → bx a j = bx b j) : a = b := by
  apply ByteArray.ext
  apply Array.ext h
  intro i h1 h2
  have h3 := hb i h1
  rw [bx_get (show i < a.size from h1), bx_get (show i < b.size from h2)] at h3
  exact UInt8.toNat.inj h3

theorem i64_xor_nat (a b : Nat) (ha : a < 9223372036854775808) (hb : b < 9223372036854775808) : bits .xor .i64 (a : Int) (b : Int) = ((a ^^^ b : Nat) : Int) := by
  have hx : a ^^^ b < 2 ^ 63 := Nat.xor_lt_two_pow (by omega) (by omega)
  show IntKind.i64.wrap ((BitVec.ofInt 64 (a : Int) ^^^ BitVec.ofInt 64 (b : Int)).toNat : Int) = _
  rw [BitVec.toNat_xor, ofInt_u64 a (by omega), ofInt_u64 b (by omega), IntKind.wrap_i64]
  omega
theorem i64_or_nat (a b : Nat) (ha : a < 9223372036854775808) (hb : b < 9223372036854775808) : bits .or .i64 (a : Int) (b : Int) = ((a ||| b : Nat) : Int) := by
  have hx : a ||| b < 2 ^ 63 := Nat.or_lt_two_pow (by omega) (by omega)
  show IntKind.i64.wrap ((BitVec.ofInt 64 (a : Int) ||| BitVec.ofInt 64 (b : Int)).toNat : Int) = _
  rw [BitVec.toNat_or, ofInt_u64 a (by omega), ofInt_u64 b (by omega), IntKind.wrap_i64]
  omega

/-- The lengths and the first i bytes of two texts, xored and gathered. -/
def dif (a b : ByteArray) : Nat → Nat
  | 0 => a.size ^^^ b.size
  | i + 1 => dif a b i ||| (bx a i ^^^ bx b i)
theorem xor_byte {x y : Nat} (hx : x < 256) (hy : y < 256) : x ^^^ y < 256 := Nat.xor_lt_two_pow (n := 8) hx hy
theorem dif_lt {a b : ByteArray} (ha : a.size ≤ 281474976710656) (hb : b.size ≤ 281474976710656) : ∀ i, dif a b i < 9223372036854775808
  | 0 => Nat.xor_lt_two_pow (n := 63) (by omega) (by omega)
  | i + 1 => by
    have := xor_byte (bx_lt a i) (bx_lt b i)
    exact Nat.or_lt_two_pow (n := 63) (dif_lt ha hb i) (by omega)
theorem xor_zero {x y : Nat} : x ^^^ y = 0 ↔ x = y := by
  constructor
  · intro h
    have h2 : x ^^^ (x ^^^ y) = x ^^^ 0 := by rw [h]
    rw [← Nat.xor_assoc, Nat.xor_self, Nat.zero_xor, Nat.xor_zero] at h2
    exact h2.symm
  · rintro rfl
    exact Nat.xor_self _
theorem or_zero {x y : Nat} : x ||| y = 0 ↔ x = 0 ∧ y = 0 := by
  constructor
  · intro h
    have h1 : x ≤ x ||| y := Nat.left_le_or
    have h2 : y ≤ x ||| y := Nat.right_le_or
    omega
  · rintro ⟨rfl, rfl⟩
    rfl
theorem dif_zero (a b : ByteArray) : ∀ i, dif a b i = 0 ↔ a.size = b.size ∧ ∀ j, j < i → bx a j = bx b j
  | 0 => by
    show a.size ^^^ b.size = 0 ↔ _
    rw [xor_zero]
    exact ⟨fun h => ⟨h, fun j hj => absurd hj (Nat.not_lt_zero _)⟩, fun h => h.1⟩
  | i + 1 => by
    show dif a b i ||| (bx a i ^^^ bx b i) = 0 ↔ _
    rw [or_zero, dif_zero a b i, xor_zero]
    constructor
    · rintro ⟨⟨h1, h2⟩, h3⟩
      refine ⟨h1, fun j hj => ?_⟩
      by_cases e : j = i
      · rw [e]; exact h3
      · exact h2 j (by omega)
    · rintro ⟨h1, h2⟩
      exact ⟨⟨h1, fun j hj => h2 j (by omega)⟩, h2 i (by omega)⟩
theorem dif_same {a b : ByteArray} {n : Nat} (hn : a.size ≤ n) : dif a b n = 0 ↔ a = b := by
  rw [dif_zero]
  constructor
  · rintro ⟨h1, h2⟩
    exact ext_bx h1 fun j hj => h2 j (by omega)
  · rintro rfl
    exact ⟨rfl, fun _ _ => rfl⟩

/-- A text with one byte put in another's place. -/
def setC (s : ByteArray) (i : Nat) (v : UInt8) : ByteArray := ⟨(s.data.toList.set i v).toArray⟩
theorem setC_size (s : ByteArray) (i : Nat) (v : UInt8) : (setC s i v).size = s.size := by
  show (s.data.toList.set i v).toArray.size = s.data.size
  simp
theorem setC_other {s : ByteArray} {i : Nat} {v : UInt8} (hi : i < s.size) (hv : ¬ v = s[i]'hi) : ¬ s = setC s i v := by
  intro h
  have h1 : s.data.toList[i]'(by simpa using hi) = (s.data.toList.set i v)[i]'(by simpa using hi) := by
    have h2 : s.data.toList = s.data.toList.set i v := by
      have := congrArg (fun x : ByteArray => x.data.toList) h
      simpa [setC] using this
    exact List.getElem_of_eq h2 _
  rw [List.getElem_set_self] at h1
  apply hv
  rw [← h1]
  show _ = s.data[i]'_
  simp
theorem app_other (a : ByteArray) : ¬ a = a ++ ⟨#[0]⟩ := by
  intro h
  have := congrArg ByteArray.size h
  rw [ByteArray.size_append] at this
  have e : (⟨#[0]⟩ : ByteArray).size = 1 := rfl
  omega
theorem pre_other (a : ByteArray) : ¬ (⟨#[0]⟩ ++ a : ByteArray) = a := by
  intro h
  have := congrArg ByteArray.size h
  rw [ByteArray.size_append] at this
  have e : (⟨#[0]⟩ : ByteArray).size = 1 := rfl
  omega

end Go.Proofs.YtkelipedpjmmaaaDoor.M

namespace Go.Proofs.YtkelipedpjmmaaaDoor.M

/-- An array of words, of bytes: its cells. -/
def c32 (l : List Nat) : Array Value := (l.map fun n : Nat => Value.int .u32 (n : Int)).toArray
def c8 (l : List Nat) : Array Value := (l.map fun n : Nat => Value.int .u8 (n : Int)).toArray

theorem c32_size (l : List Nat) : (c32 l).size = l.length := by simp [c32]
theorem c8_size (l : List Nat) : (c8 l).size = l.length := by simp [c8]
theorem c32_get (l : List Nat) (i : Nat) (h : i < l.length) : (c32 l)[i]? = some (.int .u32 ((l.getD i 0 : Nat) : Int)) := by simp [c32, h, List.getD]
theorem c8_get (l : List Nat) (i : Nat) (h : i < l.length) : (c8 l)[i]? = some (.int .u8 ((l.getD i 0 : Nat) : Int)) := by simp [c8, h, List.getD]
theorem c32_set (l : List Nat) (i v : Nat) : (c32 l).setIfInBounds i (.int .u32 (v : Int)) = c32 (l.set i v) := by
  unfold c32
  rw [List.map_set]
  simp
theorem c8_set (l : List Nat) (i v : Nat) : (c8 l).setIfInBounds i (.int .u8 (v : Int)) = c8 (l.set i v) := by
  unfold c8
  rw [List.map_set]
  simp
theorem c32_one (l : List Nat) : (c32 l).all (·.oneCell') = true := by
  rw [Array.all_eq_true_iff_forall_mem]
  intro v hv
  simp only [c32, List.mem_toArray, List.mem_map] at hv
  obtain ⟨n, _, rfl⟩ := hv
  rfl
theorem c8_one (l : List Nat) : (c8 l).all (·.oneCell') = true := by
  rw [Array.all_eq_true_iff_forall_mem]
  intro v hv
  simp only [c8, List.mem_toArray, List.mem_map] at hv
  obtain ⟨n, _, rfl⟩ := hv
  rfl

/-- Each number fits 32 bits. -/
def W32 (l : List Nat) : Prop := ∀ i, l.getD i 0 < 4294967296
theorem getD_set (l : List Nat) (i j v : Nat) (h : i < l.length) : (l.set i v).getD j 0 = if j = i then v else l.getD j 0 := by
  simp only [List.getD, List.getElem?_set]
  by_cases e : i = j
  · subst e
    simp [h]
  · have e' : ¬ j = i := fun x => e x.symm
    simp [e, e']
theorem W32.set {l : List Nat} (h : W32 l) (i v : Nat) (hv : v < 4294967296) : W32 (l.set i v) := by
  intro j
  by_cases hi : i < l.length
  · rw [getD_set l i j v hi]
    split
    · exact hv
    · exact h j
  · rw [List.set_eq_of_length_le (by omega)]
    exact h j
theorem eight {l : List Nat} (h : l.length = 8) : ∃ a b c d e f g i, l = [a, b, c, d, e, f, g, i] := by
  match l, h with
  | [a, b, c, d, e, f, g, i], _ => exact ⟨a, b, c, d, e, f, g, i, rfl⟩

/-- Turned to the right. -/
def rr (x n : Nat) : Nat := x / 2 ^ n + x % 2 ^ n * 2 ^ (32 - n)

theorem rr_rot {x : Nat} (h : x < 4294967296) (n : Nat) (hn : n ≤ 32) (h0 : 0 < n) : rotN (x : Int) (32 - n) = rr x n := by
  have h1 := rot_code (x := (x : Int)) (by omega) (by omega) (32 - n) (by omega)
  rw [wrapMul32, divPow] at h1
  have e1 : 32 - (32 - n) = n := by omega
  rw [e1] at h1
  have q2 : x / 2 ^ n < 2 ^ (32 - n) := by
    rw [Nat.div_lt_iff_lt_mul (Nat.pow_pos (by decide)), ← Nat.pow_add, show 32 - n + n = 32 by omega]
    exact h
  have q3 : 2 ^ (32 - n) ≤ 4294967296 := Nat.pow_le_pow_right (n := 2) (by decide) (show 32 - n ≤ 32 by omega)
  have q1 : x * 2 ^ (32 - n) % 4294967296 < 4294967296 := Nat.mod_lt _ (by decide)
  rw [u32_or_nat _ _ q1 (by omega)] at h1
  have e2 : x * 2 ^ (32 - n) % 4294967296 = x % 2 ^ n * 2 ^ (32 - n) := by
    have e3 : (4294967296 : Nat) = 2 ^ n * 2 ^ (32 - n) := by
      rw [← Nat.pow_add, show n + (32 - n) = 32 by omega]
    rw [e3, Nat.mul_mod_mul_right]
  rw [e2, Nat.mul_comm, ← Nat.two_pow_add_eq_or_of_lt q2, Nat.mul_comm] at h1
  unfold rr
  omega
theorem rr_lt {x : Nat} (h : x < 4294967296) (n : Nat) (hn : n ≤ 32) (h0 : 0 < n) : rr x n < 4294967296 := by
  rw [← rr_rot h n hn h0]
  exact rotN_lt _ _
theorem bOf_neg (n : Nat) (hn : n < 32) (h0 : 0 < n) : bOf (-(n : Int)) = 32 - n := by
  unfold bOf
  omega

theorem xor_lt {a b : Nat} (ha : a < 4294967296) (hb : b < 4294967296) : a ^^^ b < 4294967296 := Nat.xor_lt_two_pow (n := 32) ha hb
theorem and_lt {a b : Nat} (hb : b < 4294967296) : a &&& b < 4294967296 := Nat.and_lt_two_pow (n := 32) a hb

/-- The sum of 32 bits. -/
def ad (x y : Nat) : Nat := (x + y) % 4294967296
theorem ad_lt (x y : Nat) : ad x y < 4294967296 := Nat.mod_lt _ (by decide)
def sg0 (x : Nat) : Nat := rr x 7 ^^^ rr x 18 ^^^ x / 8
def sg1 (x : Nat) : Nat := rr x 17 ^^^ rr x 19 ^^^ x / 1024
def bs0 (x : Nat) : Nat := rr x 2 ^^^ rr x 13 ^^^ rr x 22
def bs1 (x : Nat) : Nat := rr x 6 ^^^ rr x 11 ^^^ rr x 25
def chs (x y z : Nat) : Nat := (x &&& y) ^^^ ((4294967295 - x) &&& z)
def maj (x y z : Nat) : Nat := (x &&& y) ^^^ (x &&& z) ^^^ (y &&& z)

theorem sg0_lt {x : Nat} (h : x < 4294967296) : sg0 x < 4294967296 := xor_lt (xor_lt (rr_lt h 7 (by decide) (by decide)) (rr_lt h 18 (by decide) (by decide))) (by omega)
theorem sg1_lt {x : Nat} (h : x < 4294967296) : sg1 x < 4294967296 := xor_lt (xor_lt (rr_lt h 17 (by decide) (by decide)) (rr_lt h 19 (by decide) (by decide))) (by omega)
theorem bs0_lt {x : Nat} (h : x < 4294967296) : bs0 x < 4294967296 := xor_lt (xor_lt (rr_lt h 2 (by decide) (by decide)) (rr_lt h 13 (by decide) (by decide))) (rr_lt h 22 (by decide) (by decide))
theorem bs1_lt {x : Nat} (h : x < 4294967296) : bs1 x < 4294967296 := xor_lt (xor_lt (rr_lt h 6 (by decide) (by decide)) (rr_lt h 11 (by decide) (by decide))) (rr_lt h 25 (by decide) (by decide))
theorem chs_lt {x y z : Nat} (hy : y < 4294967296) (hz : z < 4294967296) : chs x y z < 4294967296 := xor_lt (and_lt hy) (and_lt hz)
theorem maj_lt {x y z : Nat} (hy : y < 4294967296) (hz : z < 4294967296) : maj x y z < 4294967296 := xor_lt (xor_lt (and_lt hy) (and_lt hz)) (and_lt hz)

/-- The first i bytes of word t of a block. -/
def wdk (b : List Nat) (t : Nat) : Nat → Nat
  | 0 => 0
  | i + 1 => ad (wdk b t i * 256) (b.getD (4 * t + i) 0)
/-- The word that is made of those ahead of it. -/
def nx (l : List Nat) (t : Nat) : Nat := ad (ad (ad (sg1 (l.getD (t - 2) 0)) (l.getD (t - 7) 0)) (sg0 (l.getD (t - 15) 0))) (l.getD (t - 16) 0)
def wS (b : List Nat) (t : Nat) (l : List Nat) : List Nat := l.set t (if t < 16 then wdk b t 4 else nx l t)
/-- The words, up to the t-th, noughts behind them. -/
def sch (b : List Nat) : Nat → List Nat
  | 0 => List.replicate 64 0
  | t + 1 => wS b t (sch b t)

def rnd (s : List Nat) (k w : Nat) : List Nat :=
  match s with
  | [a, b, c, d, e, f, g, h] => [ad (ad (ad (ad (ad h (bs1 e)) (chs e f g)) k) w) (ad (bs0 a) (maj a b c)), a, b, c, ad d (ad (ad (ad (ad h (bs1 e)) (chs e f g)) k) w), e, f, g]
  | _ => []
def rds (ks ws s : List Nat) : Nat → List Nat
  | 0 => s
  | t + 1 => rnd (rds ks ws s t) (ks.getD t 0) (ws.getD t 0)
def adS (s : List Nat) (i : Nat) (v : List Nat) : List Nat := v.set i (ad (v.getD i 0) (s.getD i 0))
def adl (v s : List Nat) : Nat → List Nat
  | 0 => v
  | i + 1 => adS s i (adl v s i)
/-- The state behind a block. -/
def blk (ks s b : List Nat) : List Nat := adl (rds ks (sch b 64) s 64) s 8

theorem wdk_lt (b : List Nat) (t : Nat) : ∀ i, wdk b t i < 4294967296
  | 0 => (by decide : (0 : Nat) < 4294967296)
  | _ + 1 => ad_lt _ _
theorem nx_lt (l : List Nat) (t : Nat) : nx l t < 4294967296 := ad_lt _ _
theorem sch_len (b : List Nat) : ∀ t, (sch b t).length = 64
  | 0 => by simp [sch]
  | t + 1 => by simp [sch, wS, sch_len b t]
theorem sch_W (b : List Nat) : ∀ t, W32 (sch b t)
  | 0 => by
    intro i
    simp only [sch, List.getD, List.getElem?_replicate]
    split <;> simp
  | t + 1 => by
    refine (sch_W b t).set t _ ?_
    split
    · exact wdk_lt _ _ _
    · exact nx_lt _ _
theorem rnd_len (s : List Nat) (h : s.length = 8) (k w : Nat) : (rnd s k w).length = 8 := by
  obtain ⟨a, b, c, d, e, f, g, i, rfl⟩ := eight h
  rfl
theorem rds_len (ks ws s : List Nat) (h : s.length = 8) : ∀ t, (rds ks ws s t).length = 8
  | 0 => h
  | t + 1 => rnd_len _ (rds_len ks ws s h t) _ _
theorem W32_eight {a b c d e f g h : Nat} : W32 [a, b, c, d, e, f, g, h] ↔ a < 4294967296 ∧ b < 4294967296 ∧ c < 4294967296 ∧ d < 4294967296 ∧ e < 4294967296 ∧ f < 4294967296 ∧ g < 4294967296 ∧ h < 4294967296 := by
  constructor
  · intro k
    exact ⟨k 0, k 1, k 2, k 3, k 4, k 5, k 6, k 7⟩
  · rintro ⟨h0, h1, h2, h3, h4, h5, h6, h7⟩ i
    match i with
    | 0 => exact h0
    | 1 => exact h1
    | 2 => exact h2
    | 3 => exact h3
    | 4 => exact h4
    | 5 => exact h5
    | 6 => exact h6
    | 7 => exact h7
    | n + 8 => simp [List.getD]
theorem rnd_W (s : List Nat) (h : s.length = 8) (hw : W32 s) (k w : Nat) : W32 (rnd s k w) := by
  obtain ⟨a, b, c, d, e, f, g, i, rfl⟩ := eight h
  obtain ⟨h0, h1, h2, h3, h4, h5, h6, h7⟩ := W32_eight.1 hw
  exact W32_eight.2 ⟨ad_lt _ _, h0, h1, h2, ad_lt _ _, h4, h5, h6⟩
theorem rds_W (ks ws s : List Nat) (h : s.length = 8) (hw : W32 s) : ∀ t, W32 (rds ks ws s t)
  | 0 => hw
  | t + 1 => rnd_W _ (rds_len ks ws s h t) (rds_W ks ws s h hw t) _ _
theorem adl_len (v s : List Nat) : ∀ i, (adl v s i).length = v.length
  | 0 => rfl
  | i + 1 => by simp [adl, adS, adl_len v s i]
theorem adl_W (v s : List Nat) (hv : W32 v) : ∀ i, W32 (adl v s i)
  | 0 => hv
  | i + 1 => (adl_W v s hv i).set _ _ (ad_lt _ _)
theorem blk_len (ks s b : List Nat) (h : s.length = 8) : (blk ks s b).length = 8 := by
  unfold blk
  rw [adl_len, rds_len _ _ _ h]
theorem blk_W (ks s b : List Nat) (h : s.length = 8) (hw : W32 s) : W32 (blk ks s b) := adl_W _ _ (rds_W _ _ _ h hw _) _

/-- The state ahead of the first block; the rounds' numbers. -/
def beg : List Nat := [1779033703, 3144134277, 1013904242, 2773480762, 1359893119, 2600822924, 528734635, 1541459225]
def rns : List Nat := [1116352408, 1899447441, 3049323471, 3921009573, 961987163, 1508970993, 2453635748, 2870763221, 3624381080, 310598401, 607225278, 1426881987, 1925078388, 2162078206, 2614888103, 3248222580, 3835390401, 4022224774, 264347078, 604807628, 770255983, 1249150122, 1555081692, 1996064986, 2554220882, 2821834349, 2952996808, 3210313671, 3336571891, 3584528711, 113926993, 338241895, 666307205, 773529912, 1294757372, 1396182291, 1695183700, 1986661051, 2177026350, 2456956037, 2730485921, 2820302411, 3259730800, 3345764771, 3516065817, 3600352804, 4094571909, 275423344, 430227734, 506948616, 659060556, 883997877, 958139571, 1322822218, 1537002063, 1747873779, 1955562222, 2024104815, 2227730452, 2361852424, 2428436474, 2756734187, 3204031479, 3329325298]
theorem beg_len : beg.length = 8 := rfl
theorem rns_len : rns.length = 64 := rfl
theorem beg_W : W32 beg := W32_eight.2 (by decide)
theorem W32_of_all {l : List Nat} (h : l.all (fun x => decide (x < 4294967296)) = true) : W32 l := by
  intro i
  simp only [List.getD]
  cases e : l[i]? with
  | none => simp
  | some x =>
    have := (List.all_eq_true.1 h) x (List.mem_of_getElem? e)
    simpa using this
theorem rns_W : W32 rns := W32_of_all (by decide)

/-- The block of "abc", whole. -/
def abcB : List Nat := [97, 98, 99, 128] ++ List.replicate 59 0 ++ [24]
theorem abc : blk rns beg abcB = [3128432319, 2399260650, 1094795486, 1571693091, 2953011619, 2518121116, 3021012833, 4060091821] := by decide +kernel

end Go.Proofs.YtkelipedpjmmaaaDoor.M

namespace Go.Proofs.YtkelipedpjmmaaaDoor.M

/-- How many noughts; the bytes behind a text of n. -/
def npad (n : Nat) : Nat := (64 - (n + 9) % 64) % 64
def pdT (n : Nat) : List UInt8 := be 8 ((8 * (n : Int)) % 18446744073709551616)
def pd (n : Nat) : List UInt8 := 128 :: (List.replicate (npad n) 0 ++ pdT n)
def pdB (n : Nat) : ByteArray := ⟨(pd n).toArray⟩

theorem npad_lt (n : Nat) : npad n < 64 := Nat.mod_lt _ (by decide)
theorem pd_length (n : Nat) : (pd n).length = 9 + npad n := by
  simp [pd, pdT, be_length]
  omega
theorem pdB_size (n : Nat) : (pdB n).size = 9 + npad n := by
  show (pd n).toArray.size = _
  simp [pd_length]
theorem pd_whole (n : Nat) : (n + (pd n).length) % 64 = 0 := by
  rw [pd_length]
  unfold npad
  omega
theorem repeat0 (c : Nat) : Lib.repeatL [0] c = List.replicate c 0 := by
  induction c with
  | zero => rfl
  | succ c ih => simp [Lib.repeatL, ih, List.replicate_succ]
/-- As the code puts it together. -/
theorem pd_code (n : Nat) : (⟨#[128]⟩ ++ (⟨(Lib.repeatL [0] (npad n)).toArray⟩ : ByteArray)) ++ beB 8 ((8 * (n : Int)) % 18446744073709551616) = pdB n := by
  apply ByteArray.ext
  simp [pdB, pd, pdT, beB, repeat0]
/-- The document's text behind i rounds. -/
def pz (i : Nat) : ByteArray := ⟨(128 :: List.replicate i 0).toArray⟩
theorem pz_size (i : Nat) : (pz i).size = i + 1 := by
  show (128 :: List.replicate i (0 : UInt8)).toArray.size = _
  simp
theorem pz_next (i : Nat) : pz i ++ ⟨#[0]⟩ = pz (i + 1) := by
  apply ByteArray.ext
  simp [pz, List.replicate_succ']
theorem pz_code (n : Nat) : pz (npad n) ++ beB 8 ((8 * (n : Int)) % 18446744073709551616) = pdB n := by
  apply ByteArray.ext
  simp [pz, pdB, pd, pdT, beB]

/-- A state's bytes: of its first i words. -/
def tx (l : List Nat) : Nat → List UInt8
  | 0 => []
  | i + 1 => tx l i ++ be 4 ((l.getD i 0 : Nat) : Int)
def txB (l : List Nat) (i : Nat) : ByteArray := ⟨(tx l i).toArray⟩
theorem tx_length (l : List Nat) : ∀ i, (tx l i).length = 4 * i
  | 0 => rfl
  | i + 1 => by simp [tx, tx_length l i, be_length]; omega
theorem txB_size (l : List Nat) (i : Nat) : (txB l i).size = 4 * i := by
  show (tx l i).toArray.size = _
  simp [tx_length]
theorem txB_next (l : List Nat) (i : Nat) : txB l i ++ beB 4 ((l.getD i 0 : Nat) : Int) = txB l (i + 1) := by
  apply ByteArray.ext
  simp [txB, tx, beB]

end Go.Proofs.YtkelipedpjmmaaaDoor.M

namespace Go.Proofs.YtkelipedpjmmaaaDoor.M

/-- Block i of some bytes; what stands behind i blocks. -/
def bkL (l : List UInt8) (i : Nat) : List Nat := ((l.drop (64 * i)).take 64).map UInt8.toNat
def tl (T : ByteArray) (i : Nat) : ByteArray := ⟨(T.data.toList.drop (64 * i)).toArray⟩
/-- The state behind i blocks. -/
def whl (ks s : List Nat) (l : List UInt8) : Nat → List Nat
  | 0 => s
  | i + 1 => blk ks (whl ks s l i) (bkL l i)

theorem bkL_len (l : List UInt8) (i : Nat) (h : 64 * i + 64 ≤ l.length) : (bkL l i).length = 64 := by
  simp [bkL]
  omega
theorem bkL_byte (l : List UInt8) (i j : Nat) : (bkL l i).getD j 0 < 256 := by
  unfold bkL
  simp only [List.getD, List.getElem?_map]
  cases ((l.drop (64 * i)).take 64)[j]? with
  | none => simp
  | some x =>
    have := x.toNat_lt
    simpa using this
theorem whl_len (ks s : List Nat) (l : List UInt8) (h : s.length = 8) : ∀ i, (whl ks s l i).length = 8
  | 0 => h
  | i + 1 => blk_len _ _ _ (whl_len ks s l h i)
theorem whl_W (ks s : List Nat) (l : List UInt8) (h : s.length = 8) (hW : W32 s) : ∀ i, W32 (whl ks s l i)
  | 0 => hW
  | i + 1 => blk_W _ _ _ (whl_len ks s l h i) (whl_W ks s l h hW i)
theorem size_list (T : ByteArray) : T.size = T.data.toList.length := by
  show T.data.size = _
  simp
theorem tl_size (T : ByteArray) (i : Nat) : (tl T i).size = T.size - 64 * i := by
  rw [size_list, size_list]
  simp [tl]
theorem tl_zero (T : ByteArray) : tl T 0 = T := by
  apply ByteArray.ext
  simp [tl]
theorem tl_next (T : ByteArray) (i : Nat) : (tl T i).extract 64 (tl T i).size = tl T (i + 1) := by
  apply ByteArray.ext
  have hs := tl_size T i
  rw [size_list] at hs
  have h1 : (tl T i).size = (T.data.toList.drop (64 * i)).length := by rw [size_list]; simp [tl]
  rw [h1]
  simp only [ByteArray.data_extract]
  apply Array.toList_inj.1
  simp [tl, List.drop_drop]
  rw [show 64 * (i + 1) = 64 * i + 64 by omega, List.take_of_length_le (by simp; omega)]
theorem bk_tl (T : ByteArray) (i : Nat) : bkL (tl T i).data.toList 0 = bkL T.data.toList i := by
  simp [bkL, tl]
/-- Blocks of a beginning are blocks of the whole. -/
theorem bkL_app (a c : List UInt8) (i : Nat) (h : 64 * i + 64 ≤ a.length) : bkL (a ++ c) i = bkL a i := by
  unfold bkL
  rw [List.drop_append_of_le_length (by omega), List.take_append_of_le_length (by simp; omega)]
theorem bkL_drop (a : List UInt8) (n i : Nat) : bkL (a.drop (64 * n)) i = bkL a (n + i) := by
  unfold bkL
  rw [List.drop_drop, show 64 * n + 64 * i = 64 * (n + i) by omega]
theorem whl_app (ks s : List Nat) (a c : List UInt8) : ∀ i, 64 * i ≤ a.length → whl ks s (a ++ c) i = whl ks s a i
  | 0, _ => rfl
  | i + 1, h => by
    show blk ks (whl ks s (a ++ c) i) (bkL (a ++ c) i) = blk ks (whl ks s a i) (bkL a i)
    rw [whl_app ks s a c i (by omega), bkL_app a c i (by omega)]
theorem whl_add (ks s : List Nat) (a : List UInt8) (n : Nat) : ∀ i, whl ks (whl ks s a n) (a.drop (64 * n)) i = whl ks s a (n + i)
  | 0 => rfl
  | i + 1 => by
    show blk ks (whl ks (whl ks s a n) (a.drop (64 * n)) i) (bkL (a.drop (64 * n)) i) = blk ks (whl ks s a (n + i)) (bkL a (n + i))
    rw [whl_add ks s a n i, bkL_drop]
/-- In two goes, or in one. -/
theorem whl_two (ks s : List Nat) (a c : List UInt8) (n m : Nat) (hn : 64 * n ≤ a.length) : whl ks (whl ks s a n) (a.drop (64 * n) ++ c) m = whl ks s (a ++ c) (n + m) := by
  rw [← whl_app ks s a c n hn, ← List.drop_append_of_le_length hn, whl_add]

/-- The digest of a text. -/
def allB (T : ByteArray) : ByteArray := T ++ pdB T.size
def nBl (T : ByteArray) : Nat := (allB T).size / 64
def dig (T : ByteArray) : ByteArray := txB (whl rns beg (allB T).data.toList (nBl T)) 8
theorem allB_list (T : ByteArray) : (allB T).data.toList = T.data.toList ++ pd T.size := by simp [allB, pdB]
theorem allB_size (T : ByteArray) : (allB T).size = T.size + (pd T.size).length := by
  rw [size_list, allB_list, List.length_append, ← size_list]
theorem allB_whole (T : ByteArray) : (allB T).size = 64 * nBl T := by
  have := pd_whole T.size
  rw [← allB_size] at this
  unfold nBl
  omega
theorem dig_size (T : ByteArray) : (dig T).size = 32 := txB_size _ _
/-- As the code goes. -/
theorem dig_code (T : ByteArray) (R : ByteArray) (hR : R = tl T (T.size / 64) ++ pdB T.size) :
    whl rns (whl rns beg T.data.toList (T.size / 64)) R.data.toList (R.size / 64) = whl rns beg (allB T).data.toList (nBl T) ∧ R.size % 64 = 0 := by
  have hl : R.data.toList = T.data.toList.drop (64 * (T.size / 64)) ++ pd T.size := by
    rw [hR]
    simp [tl, pdB]
  have hs : R.size = T.size - 64 * (T.size / 64) + (pd T.size).length := by
    rw [size_list, hl, List.length_append, List.length_drop, ← size_list]
  have hw := pd_whole T.size
  constructor
  · rw [hl, whl_two _ _ _ _ _ _ (by rw [← size_list]; omega), allB_list]
    congr 1
    rw [hs]
    unfold nBl
    rw [allB_size]
    omega
  · omega

theorem abc_dig : dig ⟨#[97, 98, 99]⟩ = ⟨#[186, 120, 22, 191, 143, 1, 207, 234, 65, 65, 64, 222, 93, 174, 34, 35, 176, 3, 97, 163, 150, 23, 122, 156, 180, 16, 255, 97, 242, 0, 21, 173]⟩ := by decide +kernel

end Go.Proofs.YtkelipedpjmmaaaDoor.M

namespace Go.Proofs.YtkelipedpjmmaaaDoor.M

/-- The key, or its digest. -/
def ky (K : ByteArray) : ByteArray := if 64 < K.size then dig K else K
theorem ky_long {K : ByteArray} (h : 64 < K.size) : ky K = dig K := if_pos h
theorem ky_short {K : ByteArray} (h : ¬ 64 < K.size) : ky K = K := if_neg h
theorem ky_size (K : ByteArray) : (ky K).size ≤ 64 := by
  by_cases h : 64 < K.size
  · rw [ky_long h, dig_size]; decide
  · rw [ky_short h]; omega
/-- The bytes that a key is laid as, as numbers; the first i of them as a text. -/
def ms (Y : ByteArray) (m : Nat) : List Nat := (List.range 64).map fun j => bx Y j ^^^ m
def lyL (Y : ByteArray) (m : Nat) : Nat → List UInt8
  | 0 => []
  | i + 1 => lyL Y m i ++ [UInt8.ofNat (bx Y i ^^^ m)]
def lyB (Y : ByteArray) (m i : Nat) : ByteArray := ⟨(lyL Y m i).toArray⟩
def lay (K : ByteArray) (m : Nat) : ByteArray := lyB (ky K) m 64
def tag (K T : ByteArray) : ByteArray := dig (lay K 92 ++ dig (lay K 54 ++ T))

theorem ms_len (Y : ByteArray) (m : Nat) : (ms Y m).length = 64 := by simp [ms]
theorem ms_get (Y : ByteArray) (m : Nat) {j : Nat} (h : j < 64) : (ms Y m).getD j 0 = bx Y j ^^^ m := by
  simp [ms, List.getD, h]
theorem lyL_len (Y : ByteArray) (m : Nat) : ∀ i, (lyL Y m i).length = i
  | 0 => rfl
  | i + 1 => by simp [lyL, lyL_len Y m i]
theorem lyB_size (Y : ByteArray) (m i : Nat) : (lyB Y m i).size = i := by
  show (lyL Y m i).toArray.size = i
  simp [lyL_len]
theorem lay_size (K : ByteArray) (m : Nat) : (lay K m).size = 64 := lyB_size _ _ _
theorem tag_size (K T : ByteArray) : (tag K T).size = 32 := dig_size _
theorem lyB_next (Y : ByteArray) (m i : Nat) : lyB Y m i ++ ⟨#[UInt8.ofNat (bx Y i ^^^ m)]⟩ = lyB Y m (i + 1) := by
  apply ByteArray.ext
  simp [lyB, lyL]
theorem lyL_get (Y : ByteArray) (m : Nat) : ∀ i j, j < i → (lyL Y m i)[j]? = some (UInt8.ofNat (bx Y j ^^^ m))
  | 0, _, h => absurd h (Nat.not_lt_zero _)
  | i + 1, j, h => by
    have hl := lyL_len Y m i
    show (lyL Y m i ++ [UInt8.ofNat (bx Y i ^^^ m)])[j]? = _
    by_cases e : j < i
    · rw [List.getElem?_append_left (by omega)]
      exact lyL_get Y m i j e
    · obtain rfl : j = i := by omega
      rw [List.getElem?_append_right (by omega), hl, Nat.sub_self]
      rfl
theorem lyL_same {Y Z : ByteArray} (m : Nat) (h : ∀ j, bx Y j = bx Z j) : ∀ i, lyL Y m i = lyL Z m i
  | 0 => rfl
  | i + 1 => by
    show lyL Y m i ++ _ = lyL Z m i ++ _
    rw [lyL_same m h i, h i]
theorem of_byte {x m : Nat} (hx : x < 256) (hm : m < 256) : ((UInt8.ofNat (x ^^^ m)).toNat : Int) = ((x ^^^ m : Nat) : Int) := by
  have h := xor_byte hx hm
  rw [UInt8.toNat_ofNat', Nat.mod_eq_of_lt (by omega)]

/-- A long key tags as its digest does. -/
theorem tag_long {K : ByteArray} (h : 64 < K.size) (T : ByteArray) : tag (dig K) T = tag K T := by
  have e : ky (dig K) = ky K := by rw [ky_long h, ky_short (by rw [dig_size]; decide)]
  unfold tag lay
  rw [e]
/-- Noughts behind a text. -/
def zsB (k : Nat) : ByteArray := ⟨(List.replicate k (0 : UInt8)).toArray⟩
theorem zsB_size (k : Nat) : (zsB k).size = k := by
  show (List.replicate k (0 : UInt8)).toArray.size = k
  simp
theorem bx_zeros (K : ByteArray) (k j : Nat) : bx (K ++ zsB k) j = bx K j := by
  have hs : (K ++ zsB k).size = K.size + k := by rw [ByteArray.size_append, zsB_size]
  by_cases h : j < K.size
  · rw [bx_get h, bx_get (by omega)]
    congr 1
    exact ByteArray.getElem_append_left h
  · rw [bx_none h]
    by_cases h2 : j < (K ++ zsB k).size
    · rw [bx_get h2, ByteArray.getElem_append_right (by omega)]
      have e : ∀ (i : Nat) (hi : i < (zsB k).size), (zsB k)[i]'hi = 0 := fun i hi => by
        show (List.replicate k (0 : UInt8)).toArray[i]'_ = 0
        simp
      rw [e]
      rfl
    · exact bx_none h2
theorem tag_zeros {K : ByteArray} {k : Nat} (h : K.size + k ≤ 64) (T : ByteArray) : tag (K ++ zsB k) T = tag K T := by
  have hs : (K ++ zsB k).size = K.size + k := by rw [ByteArray.size_append, zsB_size]
  have e : ∀ m, lay (K ++ zsB k) m = lay K m := fun m => by
    unfold lay lyB
    rw [ky_short (by omega), ky_short (by omega), lyL_same m (bx_zeros K k) 64]
  unfold tag
  rw [e, e]

theorem quick_tag : tag ⟨#[107, 101, 121]⟩ ⟨#[84, 104, 101, 32, 113, 117, 105, 99, 107, 32, 98, 114, 111, 119, 110, 32, 102, 111, 120, 32, 106, 117, 109, 112, 115, 32, 111, 118, 101, 114, 32, 116, 104, 101, 32, 108, 97, 122, 121, 32, 100, 111, 103]⟩ =
    ⟨#[247, 188, 131, 244, 48, 83, 132, 36, 177, 50, 152, 230, 170, 111, 177, 67, 239, 77, 89, 161, 73, 70, 23, 89, 151, 71, 157, 188, 45, 26, 60, 216]⟩ := by decide +kernel

end Go.Proofs.YtkelipedpjmmaaaDoor.M
