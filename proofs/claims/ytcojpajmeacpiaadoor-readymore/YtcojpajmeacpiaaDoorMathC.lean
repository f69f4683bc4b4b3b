/-
  Plain facts on bits: a number made bit by bit ('valN'), what shifts, masks and turns of it come to, told bit by bit. Nothing is asked but the bounds that each fact names.
-/
import Derived.WalkKit
import Derived.Test.YtcojpajmeacpiaaDoorMathB
namespace Go.Proofs.YtcojpajmeacpiaaDoor.M

/-- The number whose bit j is f j, for the lowest c bits. -/
def valN : Nat → (Nat → Bool) → Nat
  | 0, _ => 0
  | c + 1, f => (f 0).toNat + 2 * valN c fun j => f (j + 1)

theorem bool_le (b : Bool) : b.toNat ≤ 1 := by cases b <;> decide

theorem testBit_valN : ∀ (c : Nat) (f : Nat → Bool) (j : Nat), (valN c f).testBit j = (decide (j < c) && f j)
  | 0, f, j => by simp [valN]
  | c + 1, f, 0 => by
    unfold valN
    rw [Nat.testBit_zero]
    have : ((f 0).toNat + 2 * valN c fun j => f (j + 1)) % 2 = (f 0).toNat := by have := bool_le (f 0); omega
    rw [this]
    cases f 0 <;> simp
  | c + 1, f, j + 1 => by
    unfold valN
    rw [Nat.testBit_succ]
    have : ((f 0).toNat + 2 * valN c fun j => f (j + 1)) / 2 = valN c fun j => f (j + 1) := by have := bool_le (f 0); omega
    rw [this, testBit_valN c]
    simp

theorem valN_lt : ∀ (c : Nat) (f : Nat → Bool), valN c f < 2 ^ c
  | 0, _ => by simp [valN]
  | c + 1, f => by
    have h := valN_lt c fun j => f (j + 1)
    have := bool_le (f 0)
    unfold valN
    rw [Nat.pow_succ]
    omega

theorem valN_le64 {c : Nat} (f : Nat → Bool) (h : c ≤ 64) : valN c f < 18446744073709551616 :=
  Nat.lt_of_lt_of_le (valN_lt c f) (by have := Nat.pow_le_pow_right (n := 2) (by decide) h; simpa using this)

/-- One bit more below. -/
theorem valN_step (c i : Nat) (f : Nat → Bool) : valN (c + 1) (fun j => f (i + j)) = 2 * valN c (fun j => f (i + 1 + j)) + (f i).toNat := by
  show (f (i + 0)).toNat + 2 * valN c (fun j => f (i + (j + 1))) = _
  have e : (fun j => f (i + (j + 1))) = fun j => f (i + 1 + j) := by funext j; congr 1; omega
  rw [e, Nat.add_zero]
  omega

/-- n without its i lowest bits. -/
def hv (n : Int) : Nat → Int
  | 0 => n
  | i + 1 => hv n i / 2
theorem hv_nat (N : Nat) : ∀ i, hv (N : Int) i = ((N / 2 ^ i : Nat) : Int)
  | 0 => by simp [hv]
  | i + 1 => by
    show hv (N : Int) i / 2 = _
    rw [hv_nat N i, Nat.pow_succ, ← Nat.div_div_eq_div_mul]
    omega
theorem hv_range {n : Int} (h0 : 0 ≤ n) (h1 : n < 18446744073709551616) : ∀ i, 0 ≤ hv n i ∧ hv n i < 18446744073709551616
  | 0 => ⟨h0, h1⟩
  | i + 1 => by have := hv_range h0 h1 i; show 0 ≤ hv n i / 2 ∧ hv n i / 2 < _; omega

/-- The bit at a place; where there is none: false. -/
def bitB (n at_ : Int) : Bool := decide (0 ≤ at_) && n.toNat.testBit at_.toNat
theorem bitB_neg {n a : Int} (h : a < 0) : bitB n a = false := by unfold bitB; simp; omega
theorem bitB_big {n a : Int} (h0 : 0 ≤ n) (h1 : n < 18446744073709551616) (h : 63 < a) : bitB n a = false := by
  unfold bitB
  have : n.toNat < 2 ^ a.toNat := Nat.lt_of_lt_of_le (m := 2 ^ 64) (by omega) (Nat.pow_le_pow_right (by decide) (by omega))
  simp [Nat.testBit_lt_two_pow this]
theorem hv_bit {n : Int} (h0 : 0 ≤ n) (a : Nat) : hv n a % 2 = ((bitB n (a : Int)).toNat : Int) := by
  obtain ⟨N, rfl⟩ := Int.eq_ofNat_of_zero_le h0
  rw [hv_nat]
  unfold bitB
  simp only [Int.toNat_natCast]
  have e : decide ((0 : Int) ≤ (a : Int)) = true := by simp
  rw [e, Bool.true_and, Nat.testBit_eq_decide_div_mod_eq]
  generalize N / 2 ^ a = q
  rcases (show q % 2 = 0 ∨ q % 2 = 1 by omega) with h | h
  · rw [h]; simp; omega
  · rw [h]; simp; omega

theorem wrapMul (N a : Nat) : IntKind.u64.wrap ((N : Int) * 2 ^ a) = ((N * 2 ^ a % 18446744073709551616 : Nat) : Int) := by
  rw [IntKind.wrap_u64]
  simp [Int.natCast_emod, Int.natCast_mul, Int.natCast_pow]
theorem wrapMul32 (N a : Nat) : IntKind.u32.wrap ((N : Int) * 2 ^ a) = ((N * 2 ^ a % 4294967296 : Nat) : Int) := by
  rw [IntKind.wrap_u32]
  simp [Int.natCast_emod, Int.natCast_mul, Int.natCast_pow]
theorem divPow (N a : Nat) : (N : Int) / 2 ^ a = ((N / 2 ^ a : Nat) : Int) := by
  simp [Int.natCast_ediv, Int.natCast_pow]

/-- How many bits a count asks for. -/
def cOf (count : Int) : Nat := (max 0 (min count 64)).toNat
/-- The bit j places behind a place. -/
def gB (n from_ : Int) (j : Nat) : Bool := bitB n (from_ + (j : Int))
/-- Some of a number's bits. -/
def bitsN (n from_ count : Int) : Nat := valN (cOf count) (gB n from_)
theorem bitsN_eq (n from_ count : Int) : bitsN n from_ count = valN (cOf count - 0) fun j => gB n from_ (0 + j) := by
  unfold bitsN
  congr 1
  funext j
  rw [Nat.zero_add]

theorem bitsN_none {n from_ count : Int} (h : count < 1) : bitsN n from_ count = 0 := by
  have e : cOf count = 0 := by unfold cOf; omega
  unfold bitsN
  rw [e]
  rfl
theorem valN_false : ∀ (c : Nat) (f : Nat → Bool), (∀ j, j < c → f j = false) → valN c f = 0
  | 0, _, _ => rfl
  | c + 1, f, h => by
    unfold valN
    rw [h 0 (by omega), valN_false c _ fun j hj => h (j + 1) (by omega)]
    rfl
theorem bitsN_out {n from_ count : Int} (h0 : 0 ≤ n) (h1 : n < 18446744073709551616) (h : from_ ≤ -64 ∨ 64 ≤ from_) : bitsN n from_ count = 0 := by
  apply valN_false
  intro j hj
  unfold gB
  have hc : cOf count ≤ 64 := by unfold cOf; omega
  rcases h with h | h
  · exact bitB_neg (by omega)
  · exact bitB_big h0 h1 (by omega)
theorem bitsN_lt (n from_ count : Int) : bitsN n from_ count < 18446744073709551616 := valN_le64 _ (by unfold cOf; omega)

/-- Shifted up, then cut. -/
theorem bits_up {n from_ count : Int} (h0 : 0 ≤ n) (h : from_ < 0) (u : Nat) (hu : u + cOf count = 64) :
    IntKind.u64.wrap (IntKind.u64.wrap (n * 2 ^ (-from_).toNat) * 2 ^ u) / 2 ^ u = (bitsN n from_ count : Int) := by
  obtain ⟨N, rfl⟩ := Int.eq_ofNat_of_zero_le h0
  rw [wrapMul, wrapMul, divPow]
  congr 1
  apply Nat.eq_of_testBit_eq
  intro j
  unfold bitsN
  have e64 : (18446744073709551616 : Nat) = 2 ^ 64 := by decide
  rw [testBit_valN, gB, Nat.testBit_div_two_pow, e64, Nat.testBit_mod_two_pow, Nat.mul_comm _ (2 ^ u), Nat.testBit_two_pow_mul, Nat.testBit_mod_two_pow, Nat.mul_comm N, Nat.testBit_two_pow_mul]
  have hj : j + u - u = j := by omega
  rw [hj]
  by_cases c1 : j < cOf count
  · have d1 : decide (j + u < 64) = true := decide_eq_true (by omega)
    have d2 : decide (j + u ≥ u) = true := decide_eq_true (by omega)
    have d3 : decide (j < 64) = true := decide_eq_true (by omega)
    rw [decide_eq_true c1]
    by_cases c2 : (-from_).toNat ≤ j
    · have e : (from_ + (j : Int)).toNat = j - (-from_).toNat := by omega
      have d4 : decide (j ≥ (-from_).toNat) = true := decide_eq_true c2
      have d5 : decide (0 ≤ from_ + (j : Int)) = true := decide_eq_true (by omega)
      unfold bitB
      simp only [d1, d2, d3, d4, d5, e, Int.toNat_natCast, Bool.true_and]
    · have e : from_ + (j : Int) < 0 := by omega
      have d4 : decide (j ≥ (-from_).toNat) = false := decide_eq_false c2
      rw [bitB_neg e]
      simp only [d1, d2, d3, d4, Bool.true_and, Bool.false_and]
  · have d1 : decide (j + u < 64) = false := decide_eq_false (by omega)
    rw [decide_eq_false c1, d1, Bool.false_and, Bool.false_and]

/-- Shifted down, then cut. -/
theorem bits_down {n from_ count : Int} (h0 : 0 ≤ n) (h : 0 ≤ from_) (u : Nat) (hu : u + cOf count = 64) :
    IntKind.u64.wrap (n / 2 ^ from_.toNat * 2 ^ u) / 2 ^ u = (bitsN n from_ count : Int) := by
  obtain ⟨N, rfl⟩ := Int.eq_ofNat_of_zero_le h0
  rw [divPow, wrapMul, divPow]
  congr 1
  apply Nat.eq_of_testBit_eq
  intro j
  unfold bitsN
  have e64 : (18446744073709551616 : Nat) = 2 ^ 64 := by decide
  rw [testBit_valN, gB, Nat.testBit_div_two_pow, e64, Nat.testBit_mod_two_pow, Nat.mul_comm _ (2 ^ u), Nat.testBit_two_pow_mul, Nat.testBit_div_two_pow]
  have hj : j + u - u = j := by omega
  rw [hj]
  by_cases c1 : j < cOf count
  · have d1 : decide (j + u < 64) = true := decide_eq_true (by omega)
    have d2 : decide (j + u ≥ u) = true := decide_eq_true (by omega)
    have e : (from_ + (j : Int)).toNat = j + from_.toNat := by omega
    have d5 : decide (0 ≤ from_ + (j : Int)) = true := decide_eq_true (by omega)
    unfold bitB
    simp only [decide_eq_true c1, d1, d2, d5, e, Int.toNat_natCast, Bool.true_and]
  · have d1 : decide (j + u < 64) = false := decide_eq_false (by omega)
    rw [decide_eq_false c1, d1, Bool.false_and, Bool.false_and]

end Go.Proofs.YtcojpajmeacpiaaDoor.M
