/-
  Plain facts on a text's blocks, and on going block by block through a text and what stands behind it. Nothing is asked but the bounds that each fact names.
-/
import Derived.WalkKit
import Derived.Test.YtpmmffihibhlhaaDoorMathU
namespace Go.Proofs.YtpmmffihibhlhaaDoor.M

/-- Block i of some bytes; what stands behind i blocks. -/
def bkL (l : List UInt8) (i : Nat) : List Nat := ((l.drop (64 * i)).take 64).map UInt8.toNat
def tl (T : ByteArray) (i : Nat) : ByteArray := ⟨(T.data.toList.drop (64 * i)).toArray⟩
/-- The state behind i blocks. -/
def whl (ks s : List Nat) (l : List UInt8) : Nat → List Nat
  | 0 => s
  | i + 1 => blk ks (whl ks s l i) (bkL l i)

theorem bkL_len (l : List UInt8) (i : Nat) (h : 64 * i + 64 ≤ l.length) : (bkL l i).length = 64 := by
  simp [bkL]
  omega
theorem bkL_byte (l : List UInt8) (i j : Nat) : (bkL l i).getD j 0 < 256 := by
  unfold bkL
  simp only [List.getD, List.getElem?_map]
  cases ((l.drop (64 * i)).take 64)[j]? with
  | none => simp
  | some x =>
    have := x.toNat_lt
    simpa using this
theorem whl_len (ks s : List Nat) (l : List UInt8) (h : s.length = 8) : ∀ i, (whl ks s l i).length = 8
  | 0 => h
  | i + 1 => blk_len _ _ _ (whl_len ks s l h i)
theorem whl_W (ks s : List Nat) (l : List UInt8) (h : s.length = 8) (hW : W32 s) : ∀ i, W32 (whl ks s l i)
  | 0 => hW
  | i + 1 => blk_W _ _ _ (whl_len ks s l h i) (whl_W ks s l h hW i)
theorem size_list (T : ByteArray) : T.size = T.data.toList.length := by
  show T.data.size = _
  simp
theorem tl_size (T : ByteArray) (i : Nat) : (tl T i).size = T.size - 64 * i := by
  rw [size_list, size_list]
  simp [tl]
theorem tl_zero (T : ByteArray) : tl T 0 = T := by
  apply ByteArray.ext
  simp [tl]
theorem tl_next (T : ByteArray) (i : Nat) : (tl T i).extract 64 (tl T i).size = tl T (i + 1) := by
  apply ByteArray.ext
  have hs := tl_size T i
  rw [size_list] at hs
  have h1 : (tl T i).size = (T.data.toList.drop (64 * i)).length := by rw [size_list]; simp [tl]
  rw [h1]
  simp only [ByteArray.data_extract]
  apply Array.toList_inj.1
  simp [tl, List.drop_drop]
  rw [show 64 * (i + 1) = 64 * i + 64 by omega, List.take_of_length_le (by simp; omega)]
theorem bk_tl (T : ByteArray) (i : Nat) : bkL (tl T i).data.toList 0 = bkL T.data.toList i := by
  simp [bkL, tl]
/-- Blocks of a beginning are blocks of the whole. -/
theorem bkL_app (a c : List UInt8) (i : Nat) (h : 64 * i + 64 ≤ a.length) : bkL (a ++ c) i = bkL a i := by
  unfold bkL
  rw [List.drop_append_of_le_length (by omega), List.take_append_of_le_length (by simp; omega)]
theorem bkL_drop (a : List UInt8) (n i : Nat) : bkL (a.drop (64 * n)) i = bkL a (n + i) := by
  unfold bkL
  rw [List.drop_drop, show 64 * n + 64 * i = 64 * (n + i) by omega]
theorem whl_app (ks s : List Nat) (a c : List UInt8) : ∀ i, 64 * i ≤ a.length → whl ks s (a ++ c) i = whl ks s a i
  | 0, _ => rfl
  | i + 1, h => by
    show blk ks (whl ks s (a ++ c) i) (bkL (a ++ c) i) = blk ks (whl ks s a i) (bkL a i)
    rw [whl_app ks s a c i (by omega), bkL_app a c i (by omega)]
theorem whl_add (ks s : List Nat) (a : List UInt8) (n : Nat) : ∀ i, whl ks (whl ks s a n) (a.drop (64 * n)) i = whl ks s a (n + i)
  | 0 => rfl
  | i + 1 => by
    show blk ks (whl ks (whl ks s a n) (a.drop (64 * n)) i) (bkL (a.drop (64 * n)) i) = blk ks (whl ks s a (n + i)) (bkL a (n + i))
    rw [whl_add ks s a n i, bkL_drop]
/-- In two goes, or in one. -/
theorem whl_two (ks s : List Nat) (a c : List UInt8) (n m : Nat) (hn : 64 * n ≤ a.length) : whl ks (whl ks s a n) (a.drop (64 * n) ++ c) m = whl ks s (a ++ c) (n + m) := by
  rw [← whl_app ks s a c n hn, ← List.drop_append_of_le_length hn, whl_add]

/-- The digest of a text. -/
def allB (T : ByteArray) : ByteArray := T ++ pdB T.size
def nBl (T : ByteArray) : Nat := (allB T).size / 64
def dig (T : ByteArray) : ByteArray := txB (whl rns beg (allB T).data.toList (nBl T)) 8
theorem allB_list (T : ByteArray) : (allB T).data.toList = T.data.toList ++ pd T.size := by simp [allB, pdB]
theorem allB_size (T : ByteArray) : (allB T).size = T.size + (pd T.size).length := by
  rw [size_list, allB_list, List.length_append, ← size_list]
theorem allB_whole (T : ByteArray) : (allB T).size = 64 * nBl T := by
  have := pd_whole T.size
  rw [← allB_size] at this
  unfold nBl
  omega
theorem dig_size (T : ByteArray) : (dig T).size = 32 := txB_size _ _
/-- As the code goes. -/
theorem dig_code (T : ByteArray) (R : ByteArray) (hR : R = tl T (T.size / 64) ++ pdB T.size) :
    whl rns (whl rns beg T.data.toList (T.size / 64)) R.data.toList (R.size / 64) = whl rns beg (allB T).data.toList (nBl T) ∧ R.size % 64 = 0 := by
  have hl : R.data.toList = T.data.toList.drop (64 * (T.size / 64)) ++ pd T.size := by
    rw [hR]
    simp [tl, pdB]
  have hs : R.size = T.size - 64 * (T.size / 64) + (pd T.size).length := by
    rw [size_list, hl, List.length_append, List.length_drop, ← size_list]
  have hw := pd_whole T.size
  constructor
  · rw [hl, whl_two _ _ _ _ _ _ (by rw [← size_list]; omega), allB_list]
    congr 1
    rw [hs]
    unfold nBl
    rw [allB_size]
    omega
  · omega

theorem abc_dig : dig ⟨#[97, 98, 99]⟩ = ⟨#[186, 120, 22, 191, 143, 1, 207, 234, 65, 65, 64, 222, 93, 174, 34, 35, 176, 3, 97, 163, 150, 23, 122, 156, 180, 16, 255, 97, 242, 0, 21, 173]⟩ := by decide +kernel

end Go.Proofs.YtpmmffihibhlhaaDoor.M
