/-
  Plain facts on what a key is laid as, and on tags. Nothing is asked but the bounds that each fact names.
-/
import Derived.WalkKit
import Derived.Test.YtpmmffihibhlhaaDoorMathMs
import Derived.Test.YtpmmffihibhlhaaDoorMathWh
namespace Go.Proofs.YtpmmffihibhlhaaDoor.M

/-- The key, or its digest. -/
def ky (K : ByteArray) : ByteArray := if 64 < K.size then dig K else K
theorem ky_long {K : ByteArray} (h : 64 < K.size) : ky K = dig K := if_pos h
theorem ky_short {K : ByteArray} (h : ¬ 64 < K.size) : ky K = K := if_neg h
theorem ky_size (K : ByteArray) : (ky K).size ≤ 64 := by
  by_cases h : 64 < K.size
  · rw [ky_long h, dig_size]; decide
  · rw [ky_short h]; omega
/-- The bytes that a key is laid as, as numbers; the first i of them as a text. -/
def ms (Y : ByteArray) (m : Nat) : List Nat := (List.range 64).map fun j => bx Y j ^^^ m
def lyL (Y : ByteArray) (m : Nat) : Nat → List UInt8
  | 0 => []
  | i + 1 => lyL Y m i ++ [UInt8.ofNat (bx Y i ^^^ m)]
def lyB (Y : ByteArray) (m i : Nat) : ByteArray := ⟨(lyL Y m i).toArray⟩
def lay (K : ByteArray) (m : Nat) : ByteArray := lyB (ky K) m 64
def tag (K T : ByteArray) : ByteArray := dig (lay K 92 ++ dig (lay K 54 ++ T))

theorem ms_len (Y : ByteArray) (m : Nat) : (ms Y m).length = 64 := by simp [ms]
theorem ms_get (Y : ByteArray) (m : Nat) {j : Nat} (h : j < 64) : (ms Y m).getD j 0 = bx Y j ^^^ m := by
  simp [ms, List.getD, h]
theorem lyL_len (Y : ByteArray) (m : Nat) : ∀ i, (lyL Y m i).length = i
  | 0 => rfl
  | i + 1 => by simp [lyL, lyL_len Y m i]
theorem lyB_size (Y : ByteArray) (m i : Nat) : (lyB Y m i).size = i := by
  show (lyL Y m i).toArray.size = i
  simp [lyL_len]
theorem lay_size (K : ByteArray) (m : Nat) : (lay K m).size = 64 := lyB_size _ _ _
theorem tag_size (K T : ByteArray) : (tag K T).size = 32 := dig_size _
theorem lyB_next (Y : ByteArray) (m i : Nat) : lyB Y m i ++ ⟨#[UInt8.ofNat (bx Y i ^^^ m)]⟩ = lyB Y m (i + 1) := by
  apply ByteArray.ext
  simp [lyB, lyL]
theorem lyL_get (Y : ByteArray) (m : Nat) : ∀ i j, j < i → (lyL Y m i)[j]? = some (UInt8.ofNat (bx Y j ^^^ m))
  | 0, _, h => absurd h (Nat.not_lt_zero _)
  | i + 1, j, h => by
    have hl := lyL_len Y m i
    show (lyL Y m i ++ [UInt8.ofNat (bx Y i ^^^ m)])[j]? = _
    by_cases e : j < i
    · rw [List.getElem?_append_left (by omega)]
      exact lyL_get Y m i j e
    · obtain rfl : j = i := by omega
      rw [List.getElem?_append_right (by omega), hl, Nat.sub_self]
      rfl
theorem lyL_same {Y Z : ByteArray} (m : Nat) (h : ∀ j, bx Y j = bx Z j) : ∀ i, lyL Y m i = lyL Z m i
  | 0 => rfl
  | i + 1 => by
    show lyL Y m i ++ _ = lyL Z m i ++ _
    rw [lyL_same m h i, h i]
theorem of_byte {x m : Nat} (hx : x < 256) (hm : m < 256) : ((UInt8.ofNat (x ^^^ m)).toNat : Int) = ((x ^^^ m : Nat) : Int) := by
  have h := xor_byte hx hm
  rw [UInt8.toNat_ofNat', Nat.mod_eq_of_lt (by omega)]

/-- A long key tags as its digest does. -/
theorem tag_long {K : ByteArray} (h : 64 < K.size) (T : ByteArray) : tag (dig K) T = tag K T := by
  have e : ky (dig K) = ky K := by rw [ky_long h, ky_short (by rw [dig_size]; decide)]
  unfold tag lay
  rw [e]
/-- Noughts behind a text. -/
def zsB (k : Nat) : ByteArray := ⟨(List.replicate k (0 : UInt8)).toArray⟩
theorem zsB_size (k : Nat) : (zsB k).size = k := by
  show (List.replicate k (0 : UInt8)).toArray.size = k
  simp
theorem bx_zeros (K : ByteArray) (k j : Nat) : bx (K ++ zsB k) j = bx K j := by
  have hs : (K ++ zsB k).size = K.size + k := by rw [ByteArray.size_append, zsB_size]
  by_cases h : j < K.size
  · rw [bx_get h, bx_get (by omega)]
    congr 1
    exact ByteArray.getElem_append_left h
  · rw [bx_none h]
    by_cases h2 : j < (K ++ zsB k).size
    · rw [bx_get h2, ByteArray.getElem_append_right (by omega)]
      have e : ∀ (i : Nat) (hi : i < (zsB k).size), (zsB k)[i]'hi = 0 := fun i hi => by
        show (List.replicate k (0 : UInt8)).toArray[i]'_ = 0
        simp
      rw [e]
      rfl
    · exact bx_none h2
theorem tag_zeros {K : ByteArray} {k : Nat} (h : K.size + k ≤ 64) (T : ByteArray) : tag (K ++ zsB k) T = tag K T := by
  have hs : (K ++ zsB k).size = K.size + k := by rw [ByteArray.size_append, zsB_size]
  have e : ∀ m, lay (K ++ zsB k) m = lay K m := fun m => by
    unfold lay lyB
    rw [ky_short (by omega), ky_short (by omega), lyL_same m (bx_zeros K k) 64]
  unfold tag
  rw [e, e]

theorem quick_tag : tag ⟨#[107, 101, 121]⟩ ⟨#[84, 104, 101, 32, 113, 117, 105, 99, 107, 32, 98, 114, 111, 119, 110, 32, 102, 111, 120, 32, 106, 117, 109, 112, 115, 32, 111, 118, 101, 114, 32, 116, 104, 101, 32, 108, 97, 122, 121, 32, 100, 111, 103]⟩ =
    ⟨#[247, 188, 131, 244, 48, 83, 132, 36, 177, 50, 152, 230, 170, 111, 177, 67, 239, 77, 89, 161, 73, 70, 23, 89, 151, 71, 157, 188, 45, 26, 60, 216]⟩ := by decide +kernel

end Go.Proofs.YtpmmffihibhlhaaDoor.M
