/-
  Plain facts on the bytes behind a text, on the bytes of a state, and on going block by block through a text. Nothing is asked but the bounds that each fact names.
-/
import Derived.WalkKit
import Derived.Lib.Repeat
import Derived.Test.YtpmmffihibhlhaaDoorMathB
import Derived.Test.YtpmmffihibhlhaaDoorMathQ
namespace Go.Proofs.YtpmmffihibhlhaaDoor.M

/-- How many noughts; the bytes behind a text of n. -/
def npad (n : Nat) : Nat := (64 - (n + 9) % 64) % 64
def pdT (n : Nat) : List UInt8 := be 8 ((8 * (n : Int)) % 18446744073709551616)
def pd (n : Nat) : List UInt8 := 128 :: (List.replicate (npad n) 0 ++ pdT n)
def pdB (n : Nat) : ByteArray := ⟨(pd n).toArray⟩

theorem npad_lt (n : Nat) : npad n < 64 := Nat.mod_lt _ (by decide)
theorem pd_length (n : Nat) : (pd n).length = 9 + npad n := by
  simp [pd, pdT, be_length]
  omega
theorem pdB_size (n : Nat) : (pdB n).size = 9 + npad n := by
  show (pd n).toArray.size = _
  simp [pd_length]
theorem pd_whole (n : Nat) : (n + (pd n).length) % 64 = 0 := by
  rw [pd_length]
  unfold npad
  omega
theorem repeat0 (c : Nat) : Lib.repeatL [0] c = List.replicate c 0 := by
  induction c with
  | zero => rfl
  | succ c ih => simp [Lib.repeatL, ih, List.replicate_succ]
/-- As the code puts it together. -/
theorem pd_code (n : Nat) : (⟨#[128]⟩ ++ (⟨(Lib.repeatL [0] (npad n)).toArray⟩ : ByteArray)) ++ beB 8 ((8 * (n : Int)) % 18446744073709551616) = pdB n := by
  apply ByteArray.ext
  simp [pdB, pd, pdT, beB, repeat0]
/-- The document's text behind i rounds. -/
def pz (i : Nat) : ByteArray := ⟨(128 :: List.replicate i 0).toArray⟩
theorem pz_size (i : Nat) : (pz i).size = i + 1 := by
  show (128 :: List.replicate i (0 : UInt8)).toArray.size = _
  simp
theorem pz_next (i : Nat) : pz i ++ ⟨#[0]⟩ = pz (i + 1) := by
  apply ByteArray.ext
  simp [pz, List.replicate_succ']
theorem pz_code (n : Nat) : pz (npad n) ++ beB 8 ((8 * (n : Int)) % 18446744073709551616) = pdB n := by
  apply ByteArray.ext
  simp [pz, pdB, pd, pdT, beB]

/-- A state's bytes: of its first i words. -/
def tx (l : List Nat) : Nat → List UInt8
  | 0 => []
  | i + 1 => tx l i ++ be 4 ((l.getD i 0 : Nat) : Int)
def txB (l : List Nat) (i : Nat) : ByteArray := ⟨(tx l i).toArray⟩
theorem tx_length (l : List Nat) : ∀ i, (tx l i).length = 4 * i
  | 0 => rfl
  | i + 1 => by simp [tx, tx_length l i, be_length]; omega
theorem txB_size (l : List Nat) (i : Nat) : (txB l i).size = 4 * i := by
  show (tx l i).toArray.size = _
  simp [tx_length]
theorem txB_next (l : List Nat) (i : Nat) : txB l i ++ beB 4 ((l.getD i 0 : Nat) : Int) = txB l (i + 1) := by
  apply ByteArray.ext
  simp [txB, tx, beB]

end Go.Proofs.YtpmmffihibhlhaaDoor.M
