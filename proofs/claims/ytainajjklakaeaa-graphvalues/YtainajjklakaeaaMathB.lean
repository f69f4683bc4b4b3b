/-
  Plain facts on numbers written as bytes, the highest first: 'sh n i' is n without its i lowest bytes, 'be i n' are its i lowest bytes. Nothing is asked but the bounds that each fact names.
-/
import Derived.WalkKit
import Derived.Test.YtainajjklakaeaaMathA
namespace Go.Proofs.Ytainajjklakaeaa.M

/-- n without its i lowest bytes. -/
def sh (n : Int) : Nat → Int
  | 0 => n
  | i + 1 => sh n i / 256
/-- The i lowest bytes of n, the highest first. -/
def be : Nat → Int → List UInt8
  | 0, _ => []
  | i + 1, n => UInt8.ofNat (sh n i % 256).toNat :: be i n
/-- The same as a text. -/
def beB (i : Nat) (n : Int) : ByteArray := ⟨(be i n).toArray⟩

theorem sh_range {n : Int} (h0 : 0 ≤ n) (h1 : n < 18446744073709551616) : ∀ i, 0 ≤ sh n i ∧ sh n i < 18446744073709551616
  | 0 => ⟨h0, h1⟩
  | i + 1 => by have := sh_range h0 h1 i; show 0 ≤ sh n i / 256 ∧ sh n i / 256 < _; omega
theorem be_length : ∀ (i : Nat) (n : Int), (be i n).length = i
  | 0, _ => rfl
  | i + 1, n => by simp [be, be_length i n]
theorem beB_size (i : Nat) (n : Int) : (beB i n).size = i := by
  show (be i n).toArray.size = i
  simp [be_length]

/-- What stands in the slice behind i rounds: noughts, then the i lowest bytes. -/
def cellsAt (k i : Nat) (n : Int) : List Value :=
  List.replicate (k - i) (.int .u8 0) ++ (be i n).map fun b => .int .u8 (b.toNat : Int)

theorem cellsAt_length {k i : Nat} (n : Int) (h : i ≤ k) : (cellsAt k i n).length = k := by
  simp [cellsAt, be_length]; omega
theorem cellsAt_zero (k : Nat) (n : Int) : cellsAt k 0 n = List.replicate k (.int .u8 0) := by simp [cellsAt, be]
theorem cellsAt_full (k : Nat) (n : Int) : cellsAt k k n = (be k n).map fun b => .int .u8 (b.toNat : Int) := by simp [cellsAt]
theorem byte_val {x : Int} (h : 0 ≤ x) (h2 : x < 256) : ((UInt8.ofNat x.toNat).toNat : Int) = x := by
  simp; omega
theorem cellsAt_set {k i : Nat} (n : Int) (h : i < k) : (cellsAt k i n).set (k - 1 - i) (.int .u8 (sh n i % 256)) = cellsAt k (i + 1) n := by
  have e : k - i = (k - 1 - i) + 1 := by omega
  have e2 : k - (i + 1) = k - 1 - i := by omega
  unfold cellsAt
  rw [e, e2]
  rw [List.set_append_left _ _ (by simp)]
  rw [List.replicate_succ', List.set_append_right _ _ (by simp)]
  simp [be]
  omega
theorem cellsAt_get {k i : Nat} (n : Int) (h : i < k) : (cellsAt k i n)[k - 1 - i]? = some (.int .u8 0) := by
  unfold cellsAt
  rw [List.getElem?_append_left (by simp; omega)]
  rw [List.getElem?_replicate, if_pos (by omega)]

/-- A text of one byte. -/
def oneB (x : Int) : ByteArray := ⟨#[UInt8.ofNat x.toNat]⟩
theorem oneB_size (x : Int) : (oneB x).size = 1 := rfl
theorem one_be (i : Nat) (n : Int) : oneB (sh n i % 256) ++ beB i n = beB (i + 1) n := by
  apply ByteArray.ext
  simp [oneB, beB, be]

theorem made_bytes (k : Nat) : (madeCells #[.int .u8 0] k).toList = List.replicate k (.int .u8 0) := by
  apply List.ext_getElem
  · simp [madeCells]
  · intro i h1 h2
    simp [madeCells, Nat.mod_one]

end Go.Proofs.Ytainajjklakaeaa.M
