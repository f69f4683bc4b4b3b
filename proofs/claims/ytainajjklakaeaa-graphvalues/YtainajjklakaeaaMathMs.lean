/-
  Plain facts on the bytes of two texts: what their lengths and bytes, xored and gathered, come to is nought just if they are the same. Nothing is asked but the bounds that each fact names.
-/
import Derived.WalkKit
import Derived.Laws.BitsAllLaws
import Derived.Laws.BitsLemmas
import Derived.Test.YtainajjklakaeaaMathG
namespace Go.Proofs.Ytainajjklakaeaa.M

/-- The byte at a place, as a plain number; behind the end: nought. -/
def bx (s : ByteArray) (j : Nat) : Nat := (bt s j).toNat
theorem bx_int (s : ByteArray) (j : Nat) : (bx s j : Int) = bt s j := by have := (bt_range s j).1; unfold bx; omega
theorem bx_lt (s : ByteArray) (j : Nat) : bx s j < 256 := by have := bt_range s j; unfold bx; omega
theorem bx_none {s : ByteArray} {j : Nat} (h : ¬ j < s.size) : bx s j = 0 := by unfold bx bt; rw [dif_neg h]; rfl
theorem bx_get {s : ByteArray} {j : Nat} (h : j < s.size) : bx s j = (s[j]'h).toNat := by unfold bx bt; rw [dif_pos h]; simp

theorem ext_bx {a b : ByteArray} (h : a.size = b.size) (hb : ∀ j, j < a.size → bx a j = bx b j) : a = b := by
  apply ByteArray.ext
  apply Array.ext h
  intro i h1 h2
  have h3 := hb i h1
  rw [bx_get (show i < a.size from h1), bx_get (show i < b.size from h2)] at h3
  exact UInt8.toNat.inj h3

theorem i64_xor_nat (a b : Nat) (ha : a < 9223372036854775808) (hb : b < 9223372036854775808) : bits .xor .i64 (a : Int) (b : Int) = ((a ^^^ b : Nat) : Int) := by
  have hx : a ^^^ b < 2 ^ 63 := Nat.xor_lt_two_pow (by omega) (by omega)
  show IntKind.i64.wrap ((BitVec.ofInt 64 (a : Int) ^^^ BitVec.ofInt 64 (b : Int)).toNat : Int) = _
  rw [BitVec.toNat_xor, ofInt_u64 a (by omega), ofInt_u64 b (by omega), IntKind.wrap_i64]
  omega
theorem i64_or_nat (a b : Nat) (ha : a < 9223372036854775808) (hb : b < 9223372036854775808) : bits .or .i64 (a : Int) (b : Int) = ((a ||| b : Nat) : Int) := by
  have hx : a ||| b < 2 ^ 63 := Nat.or_lt_two_pow (by omega) (by omega)
  show IntKind.i64.wrap ((BitVec.ofInt 64 (a : Int) ||| BitVec.ofInt 64 (b : Int)).toNat : Int) = _
  rw [BitVec.toNat_or, ofInt_u64 a (by omega), ofInt_u64 b (by omega), IntKind.wrap_i64]
  omega

/-- The lengths and the first i bytes of two texts, xored and gathered. -/
def dif (a b : ByteArray) : Nat → Nat
  | 0 => a.size ^^^ b.size
  | i + 1 => dif a b i ||| (bx a i ^^^ bx b i)
theorem xor_byte {x y : Nat} (hx : x < 256) (hy : y < 256) : x ^^^ y < 256 := Nat.xor_lt_two_pow (n := 8) hx hy
theorem dif_lt {a b : ByteArray} (ha : a.size ≤ 281474976710656) (hb : b.size ≤ 281474976710656) : ∀ i, dif a b i < 9223372036854775808
  | 0 => Nat.xor_lt_two_pow (n := 63) (by omega) (by omega)
  | i + 1 => by
    have := xor_byte (bx_lt a i) (bx_lt b i)
    exact Nat.or_lt_two_pow (n := 63) (dif_lt ha hb i) (by omega)
theorem xor_zero {x y : Nat} : x ^^^ y = 0 ↔ x = y := by
  constructor
  · intro h
    have h2 : x ^^^ (x ^^^ y) = x ^^^ 0 := by rw [h]
    rw [← Nat.xor_assoc, Nat.xor_self, Nat.zero_xor, Nat.xor_zero] at h2
    exact h2.symm
  · rintro rfl
    exact Nat.xor_self _
theorem or_zero {x y : Nat} : x ||| y = 0 ↔ x = 0 ∧ y = 0 := by
  constructor
  · intro h
    have h1 : x ≤ x ||| y := Nat.left_le_or
    have h2 : y ≤ x ||| y := Nat.right_le_or
    omega
  · rintro ⟨rfl, rfl⟩
    rfl
theorem dif_zero (a b : ByteArray) : ∀ i, dif a b i = 0 ↔ a.size = b.size ∧ ∀ j, j < i → bx a j = bx b j
  | 0 => by
    show a.size ^^^ b.size = 0 ↔ _
    rw [xor_zero]
    exact ⟨fun h => ⟨h, fun j hj => absurd hj (Nat.not_lt_zero _)⟩, fun h => h.1⟩
  | i + 1 => by
    show dif a b i ||| (bx a i ^^^ bx b i) = 0 ↔ _
    rw [or_zero, dif_zero a b i, xor_zero]
    constructor
    · rintro ⟨⟨h1, h2⟩, h3⟩
      refine ⟨h1, fun j hj => ?_⟩
      by_cases e : j = i
      · rw [e]; exact h3
      · exact h2 j (by omega)
    · rintro ⟨h1, h2⟩
      exact ⟨⟨h1, fun j hj => h2 j (by omega)⟩, h2 i (by omega)⟩
theorem dif_same {a b : ByteArray} {n : Nat} (hn : a.size ≤ n) : dif a b n = 0 ↔ a = b := by
  rw [dif_zero]
  constructor
  · rintro ⟨h1, h2⟩
    exact ext_bx h1 fun j hj => h2 j (by omega)
  · rintro rfl
    exact ⟨rfl, fun _ _ => rfl⟩

/-- A text with one byte put in another's place. -/
def setC (s : ByteArray) (i : Nat) (v : UInt8) : ByteArray := ⟨(s.data.toList.set i v).toArray⟩
theorem setC_size (s : ByteArray) (i : Nat) (v : UInt8) : (setC s i v).size = s.size := by
  show (s.data.toList.set i v).toArray.size = s.data.size
  simp
theorem setC_other {s : ByteArray} {i : Nat} {v : UInt8} (hi : i < s.size) (hv : ¬ v = s[i]'hi) : ¬ s = setC s i v := by
  intro h
  have h1 : s.data.toList[i]'(by simpa using hi) = (s.data.toList.set i v)[i]'(by simpa using hi) := by
    have h2 : s.data.toList = s.data.toList.set i v := by
      have := congrArg (fun x : ByteArray => x.data.toList) h
      simpa [setC] using this
    exact List.getElem_of_eq h2 _
  rw [List.getElem_set_self] at h1
  apply hv
  rw [← h1]
  show _ = s.data[i]'_
  simp
theorem app_other (a : ByteArray) : ¬ a = a ++ ⟨#[0]⟩ := by
  intro h
  have := congrArg ByteArray.size h
  rw [ByteArray.size_append] at this
  have e : (⟨#[0]⟩ : ByteArray).size = 1 := rfl
  omega
theorem pre_other (a : ByteArray) : ¬ (⟨#[0]⟩ ++ a : ByteArray) = a := by
  intro h
  have := congrArg ByteArray.size h
  rw [ByteArray.size_append] at this
  have e : (⟨#[0]⟩ : ByteArray).size = 1 := rfl
  omega

end Go.Proofs.Ytainajjklakaeaa.M
