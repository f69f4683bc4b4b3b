/-
  Plain facts on a word of 32 bits whose bits are moved around, told bit by bit. Nothing is asked but the bounds that each fact names.
-/
import Derived.WalkKit
import Derived.Laws.BitsAllLaws
import Derived.Test.YtpmmffihibhlhaaDoorMathC
namespace Go.Proofs.YtpmmffihibhlhaaDoor.M

/-- Where the bit that comes to place j stood. -/
def rB (x : Int) (b j : Nat) : Bool := x.toNat.testBit ((j + 32 - b) % 32)
/-- The word, moved around by b. -/
def rotN (x : Int) (b : Nat) : Nat := valN 32 (rB x b)
/-- By how much a number moves. -/
def bOf (by_ : Int) : Nat := (by_ % 32).toNat
theorem bOf_lt (by_ : Int) : bOf by_ < 32 := by unfold bOf; omega
theorem rotN_lt (x : Int) (b : Nat) : rotN x b < 4294967296 := valN_lt 32 _

theorem and31 (k : Int) : bits .and .u64 (IntKind.u64.wrap k) 31 = (bOf k : Int) := by
  rw [IntKind.wrap_u64, u64_and _ 31 (by omega) (by omega) (by decide) (by decide)]
  have : (31 : Int).toNat = 31 := rfl
  rw [this, nat_mask5]
  unfold bOf
  omega

theorem tmod32 (k : Int) : (0 ≤ k ∧ k.tmod 32 = k % 32) ∨ (k < 0 ∧ k.tmod 32 = -((-k) % 32)) := by
  by_cases h : 0 ≤ k
  · exact .inl ⟨h, Int.tmod_eq_emod_of_nonneg h⟩
  · refine .inr ⟨by omega, ?_⟩
    have e := Int.neg_tmod (-k) 32
    rw [Int.neg_neg, Int.tmod_eq_emod_of_nonneg (show 0 ≤ -k by omega)] at e
    exact e
theorem tmod_neg {k : Int} (h : k.tmod 32 < 0) : k.tmod 32 + 32 = (bOf k : Int) := by
  have := tmod32 k
  unfold bOf
  omega
theorem tmod_pos {k : Int} (h : ¬ k.tmod 32 < 0) : k.tmod 32 = (bOf k : Int) := by
  have := tmod32 k
  unfold bOf
  omega
/-- Back by as much. -/
theorem bOf_back (k : Int) : (bOf k + bOf (-(k.tmod 32))) % 32 = 0 := by
  have := tmod32 k
  unfold bOf
  omega
theorem tmod_range (k : Int) : -32 < k.tmod 32 ∧ k.tmod 32 < 32 := by
  have := tmod32 k
  omega

/-- What the code comes to. -/
theorem rot_code {x : Int} (h0 : 0 ≤ x) (h1 : x < 4294967296) (b : Nat) (hb : b < 32) :
    bits .or .u32 (IntKind.u32.wrap (x * 2 ^ b)) (x / 2 ^ (32 - b)) = (rotN x b : Int) := by
  obtain ⟨N, rfl⟩ := Int.eq_ofNat_of_zero_le h0
  have hN : N < 2 ^ 32 := by omega
  rw [wrapMul32, divPow]
  have q1 : N * 2 ^ b % 4294967296 < 4294967296 := Nat.mod_lt _ (by decide)
  have q2 : N / 2 ^ (32 - b) < 4294967296 := Nat.lt_of_le_of_lt (Nat.div_le_self _ _) (by omega)
  rw [u32_or_nat _ _ q1 q2]
  refine congrArg Nat.cast ?_
  apply Nat.eq_of_testBit_eq
  intro j
  unfold rotN
  have e32 : (4294967296 : Nat) = 2 ^ 32 := by decide
  rw [testBit_valN, rB, Nat.testBit_or, Nat.testBit_div_two_pow, e32, Nat.testBit_mod_two_pow, Nat.mul_comm N, Nat.testBit_two_pow_mul, Int.toNat_natCast]
  by_cases c1 : j < 32
  · rw [decide_eq_true c1, Bool.true_and, Bool.true_and]
    by_cases c2 : b ≤ j
    · have e : (j + 32 - b) % 32 = j - b := by omega
      have z : N.testBit (j + (32 - b)) = false := Nat.testBit_lt_two_pow (Nat.lt_of_lt_of_le hN (Nat.pow_le_pow_right (by decide) (by omega)))
      rw [e, z, decide_eq_true (show j ≥ b from c2), Bool.true_and, Bool.or_false]
    · have e : (j + 32 - b) % 32 = j + (32 - b) := by omega
      rw [e, decide_eq_false (show ¬ j ≥ b from c2), Bool.false_and, Bool.false_or]
  · have z : N.testBit (j + (32 - b)) = false := Nat.testBit_lt_two_pow (Nat.lt_of_lt_of_le hN (Nat.pow_le_pow_right (by decide) (by omega)))
    rw [decide_eq_false c1, z, Bool.false_and, Bool.false_and, Bool.or_false]

/-- Moved on and back. -/
theorem rot_back {x : Int} (h0 : 0 ≤ x) (h1 : x < 4294967296) (b c : Nat) (hb : b < 32) (hc : c < 32) (hs : (b + c) % 32 = 0) :
    (rotN (rotN x b : Int) c : Int) = x := by
  obtain ⟨N, rfl⟩ := Int.eq_ofNat_of_zero_le h0
  have hN : N < 2 ^ 32 := by omega
  refine congrArg Nat.cast ?_
  apply Nat.eq_of_testBit_eq
  intro j
  unfold rotN
  rw [testBit_valN, rB, Int.toNat_natCast, testBit_valN, rB, Int.toNat_natCast]
  by_cases c1 : j < 32
  · have e : ((j + 32 - c) % 32 + 32 - b) % 32 = j := by omega
    rw [decide_eq_true c1, decide_eq_true (show (j + 32 - c) % 32 < 32 by omega), e, Bool.true_and, Bool.true_and]
  · have z : N.testBit j = false := Nat.testBit_lt_two_pow (Nat.lt_of_lt_of_le hN (Nat.pow_le_pow_right (by decide) (by omega)))
    rw [decide_eq_false c1, z, Bool.false_and]

theorem rotN_eq (x : Int) (b : Nat) : rotN x b = valN (32 - 0) fun j => rB x b (0 + j) := by
  unfold rotN
  have e : (fun j => rB x b (0 + j)) = rB x b := by funext j; rw [Nat.zero_add]
  rw [e]

/-- The bit that the document's loop asks for. -/
theorem rB_bit {x : Int} (b d : Nat) (hb : b < 32) (hd : d < 32) (a : Int) (ha : a = if (d : Int) - (b : Int) < 0 then (d : Int) - (b : Int) + 32 else (d : Int) - (b : Int)) : bitB x a = rB x b d := by
  unfold bitB rB
  split at ha
  · rw [decide_eq_true (show 0 ≤ a by omega), show a.toNat = (d + 32 - b) % 32 by omega, Bool.true_and]
  · rw [decide_eq_true (show 0 ≤ a by omega), show a.toNat = (d + 32 - b) % 32 by omega, Bool.true_and]

end Go.Proofs.YtpmmffihibhlhaaDoor.M
