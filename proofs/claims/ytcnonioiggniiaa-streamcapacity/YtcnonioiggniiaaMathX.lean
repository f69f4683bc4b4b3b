/-
  Plain facts on CRC-32C: the state behind a bit, a byte, a text ('stp', 'cb', 'ct'); what the code's words come to; two texts side by side; that unlike states, and unlike bytes, stay unlike. Nothing is asked but the bounds that each fact names.
-/
import Derived.WalkKit
import Derived.Laws.BitsAllLaws
import Derived.Test.YtcnonioiggniiaaMathK
namespace Go.Proofs.Ytcnonioiggniiaa.M

/-- The state behind one bit. -/
def stp (c b : Nat) : Nat := if c % 2 = b % 2 then c / 2 else c / 2 ^^^ 2197175160
/-- The state behind the i lowest bits of a byte. -/
def cb (c x : Nat) : Nat → Nat
  | 0 => c
  | i + 1 => stp (cb c x i) (x / 2 ^ i)
/-- The byte at a place, as a Nat. -/
def bn (s : ByteArray) (j : Nat) : Nat := (bt s j).toNat
theorem bn_int (s : ByteArray) (j : Nat) : (bn s j : Int) = bt s j := by have := (bt_range s j).1; unfold bn; omega
theorem bn_lt (s : ByteArray) (j : Nat) : bn s j < 256 := by have := bt_range s j; unfold bn; omega
/-- The state behind i bytes of a text. -/
def ct (c : Nat) (s : ByteArray) : Nat → Nat
  | 0 => c
  | i + 1 => cb (ct c s i) (bn s i) 8
/-- The check sum of a text. -/
def crc (s : ByteArray) : Nat := 4294967295 - ct 4294967295 s s.size

theorem xor_lt {a b : Nat} (h1 : a < 4294967296) (h2 : b < 4294967296) : a ^^^ b < 4294967296 := Nat.xor_lt_two_pow (n := 32) h1 h2
theorem stp_lt {c : Nat} (b : Nat) (h : c < 4294967296) : stp c b < 4294967296 := by
  unfold stp
  split
  · omega
  · exact xor_lt (by omega) (by decide)
theorem cb_lt {c : Nat} (x : Nat) (h : c < 4294967296) : ∀ i, cb c x i < 4294967296
  | 0 => h
  | i + 1 => stp_lt _ (cb_lt x h i)
theorem ct_lt {c : Nat} (s : ByteArray) (h : c < 4294967296) : ∀ i, ct c s i < 4294967296
  | 0 => h
  | i + 1 => cb_lt _ (ct_lt s h i) 8
theorem crc_lt (s : ByteArray) : crc s < 4294967296 := by unfold crc; omega

theorem not_u32 (x : Int) (h0 : 0 ≤ x) (h1 : x < 4294967296) :
    bits .xor .u32 IntKind.u32.max x = 4294967295 - x := by
  obtain ⟨a, rfl⟩ := Int.eq_ofNat_of_zero_le h0
  have ha : a < 4294967296 := by omega
  have e0 : IntKind.u32.max = 4294967295 := by decide
  rw [e0]
  show IntKind.u32.wrap ((BitVec.ofInt 32 (4294967295) ^^^ BitVec.ofInt 32 (a : Int)).toNat : Int) = _
  have e : BitVec.ofInt 32 (4294967295) = BitVec.allOnes 32 := by decide
  rw [e, BitVec.allOnes_xor, BitVec.toNat_not, ofInt_u32 a ha, IntKind.wrap_u32]
  omega

theorem xor_mod2 (a b : Nat) : (a ^^^ b) % 2 = (a + b) % 2 := by
  have h := Nat.testBit_xor a b 0
  rw [Nat.testBit_zero, Nat.testBit_zero, Nat.testBit_zero] at h
  generalize hx : (a ^^^ b) = x at h ⊢
  rcases (show a % 2 = 0 ∨ a % 2 = 1 by omega) with ha | ha <;> rcases (show b % 2 = 0 ∨ b % 2 = 1 by omega) with hb | hb <;> rcases (show x % 2 = 0 ∨ x % 2 = 1 by omega) with hc | hc <;> rw [ha, hb, hc] at h <;> first | omega | exact absurd h (by decide)

/-- The bit that the code looks at. -/
theorem out_bit {c y : Nat} (h1 : c < 4294967296) (h2 : y < 4294967296) : bits .and .u32 (bits .xor .u32 (c : Int) (y : Int)) 1 = if c % 2 = y % 2 then 0 else 1 := by
  rw [u32_xor_nat c y h1 h2]
  rw [u32_and _ 1 (by omega) (by have := xor_lt h1 h2; omega) (by decide) (by decide)]
  have : (1 : Int).toNat = 1 := rfl
  rw [this, nat_mask1, Int.toNat_natCast, xor_mod2]
  split <;> omega
theorem out_same {c y : Nat} (h1 : c < 4294967296) (h2 : y < 4294967296) (h : c % 2 = y % 2) : bits .and .u32 (bits .xor .u32 (c : Int) (y : Int)) 1 = 0 := by rw [out_bit h1 h2, if_pos h]
theorem out_other {c y : Nat} (h1 : c < 4294967296) (h2 : y < 4294967296) (h : ¬ c % 2 = y % 2) : bits .and .u32 (bits .xor .u32 (c : Int) (y : Int)) 1 = 1 := by rw [out_bit h1 h2, if_neg h]
theorem stp_same {c b : Nat} (h : c % 2 = b % 2) : ((stp c b : Nat) : Int) = (c : Int) / 2 := by unfold stp; rw [if_pos h]; omega
theorem stp_other {c b : Nat} (h1 : c < 4294967296) (h : ¬ c % 2 = b % 2) : ((stp c b : Nat) : Int) = bits .xor .u32 ((c : Int) / 2) 2197175160 := by
  unfold stp
  rw [if_neg h, show (c : Int) / 2 = ((c / 2 : Nat) : Int) by omega]
  exact (u32_xor_nat (c / 2) 2197175160 (by omega) (by decide)).symm

/-- A text behind another one. -/
theorem ct_left (c : Nat) (a b : ByteArray) : ∀ i, i ≤ a.size → ct c (a ++ b) i = ct c a i
  | 0, _ => rfl
  | i + 1, h => by
    show cb (ct c (a ++ b) i) (bn (a ++ b) i) 8 = cb (ct c a i) (bn a i) 8
    rw [ct_left c a b i (by omega)]
    unfold bn
    rw [bt_left b (by omega)]
theorem ct_right (c : Nat) (a b : ByteArray) : ∀ i, ct c (a ++ b) (a.size + i) = ct (ct c a a.size) b i
  | 0 => ct_left c a b a.size (Nat.le_refl _)
  | i + 1 => by
    show cb (ct c (a ++ b) (a.size + i)) (bn (a ++ b) (a.size + i)) 8 = cb (ct (ct c a a.size) b i) (bn b i) 8
    rw [ct_right c a b i]
    unfold bn
    rw [bt_right a b (by omega), Nat.add_sub_cancel_left]
theorem ct_app (c : Nat) (a b : ByteArray) : ct c (a ++ b) (a ++ b).size = ct (ct c a a.size) b b.size := by
  rw [size_app]
  exact ct_right c a b b.size

/-- Unlike states stay unlike behind the same bit. -/
theorem stp_inj {c d b : Nat} (hc : c < 4294967296) (hd : d < 4294967296) (h : stp c b = stp d b) : c = d := by
  have key : ∀ x : Nat, x < 2147483648 → 2147483648 ≤ x ^^^ 2197175160 := fun x hx => by
    have h1 : (x ^^^ 2197175160).testBit 31 = true := by
      rw [Nat.testBit_xor, Nat.testBit_lt_two_pow (x := x) (i := 31) hx]
      decide
    exact Nat.ge_two_pow_of_testBit h1
  unfold stp at h
  by_cases h1 : c % 2 = b % 2
  · by_cases h2 : d % 2 = b % 2
    · rw [if_pos h1, if_pos h2] at h; omega
    · rw [if_pos h1, if_neg h2] at h
      have := key (d / 2) (by omega)
      omega
  · by_cases h2 : d % 2 = b % 2
    · rw [if_neg h1, if_pos h2] at h
      have := key (c / 2) (by omega)
      omega
    · rw [if_neg h1, if_neg h2] at h
      have h3 : (c / 2 ^^^ 2197175160) ^^^ 2197175160 = (d / 2 ^^^ 2197175160) ^^^ 2197175160 := by rw [h]
      rw [Nat.xor_assoc, Nat.xor_assoc, Nat.xor_self, Nat.xor_zero, Nat.xor_zero] at h3
      omega
theorem cb_inj {c d x : Nat} (hc : c < 4294967296) (hd : d < 4294967296) : ∀ i, cb c x i = cb d x i → c = d
  | 0, h => h
  | i + 1, h => cb_inj hc hd i (stp_inj (cb_lt x hc i) (cb_lt x hd i) h)
theorem ct_inj {c d : Nat} (s : ByteArray) (hc : c < 4294967296) (hd : d < 4294967296) : ∀ i, ct c s i = ct d s i → c = d
  | 0, h => h
  | i + 1, h => ct_inj s hc hd i (cb_inj (ct_lt s hc i) (ct_lt s hd i) 8 h)

end Go.Proofs.Ytcnonioiggniiaa.M
