/-
  The walks of words.Text, words.GetText, of the document's two, and of the law WordsTexts: each returns the bytes, the text, the place and the error that 'tB', 'tE', 'xB', 'xX', 'xE' say, and nothing that was in memory has turned; the law returns true. Conditions: none but that each number fits its kind and that each text's length is an int.
-/
import Derived.Test.YtpmmffihibhlhaaDoorRows
import Derived.Test.YtpmmffihibhlhaaDoorMathT
import Derived.Test.YtpmmffihibhlhaaDoorPut
import Derived.Test.YtpmmffihibhlhaaDoorGet
import Derived.Test.YtpmmffihibhlhaaDoorClone
import Derived.WalkKit
import Derived.ProofKit
import Derived.OpenShut
import Derived.WalkSpells
namespace Go.Proofs.YtpmmffihibhlhaaDoor.Wt
open Go.ChangeShapes Go.WideShapes Go.ChangeAt Go.RowKit Go.Proofs.YtpmmffihibhlhaaDoor.M

theorem k2 : Wp.kOf 2 = 2 := by decide

theorem text (s : ByteArray) (w : World) (hs : s.size ≤ maxLen) :
    Calls Tryd.prog 85 #[.string s] w fun e w' => e = .returned (.tuple #[.string (tB s), .int .i64 (tE s)]) ∧ Below w.heap.size w w' := by
  unfold maxLen at hs
  by_cases c : 65535 < s.size
  · obtain ⟨e1, e2⟩ := t_long c
    rw [e1, e2]
    clear e1 e2
    go_enter Tryd.func85, Tryd.ntmps85
    go_wp2
    go_ret2
    exact ⟨rfl, Below.refl _ _⟩
  · obtain ⟨e1, e2⟩ := t_ok c
    rw [e1, e2]
    clear e1 e2
    have hz := beB_size 2 (s.size : Int)
    go_enter Tryd.func85, Tryd.ntmps85
    go_wp2_with fail
    refine (Wp.putAny _ _ _ (by omega) (by omega)).mono ?_
    rintro e w1 ⟨rfl, b1⟩
    rw [k2]
    go_wp2
    go_ret2
    exact ⟨rfl, b1⟩

theorem textRef (s : ByteArray) (w : World) (hs : s.size ≤ maxLen) :
    Calls Tryd.prog 53 #[.string s] w fun e w' => e = .returned (.tuple #[.string (tB s), .int .i64 (tE s)]) ∧ Below w.heap.size w w' := by
  unfold maxLen at hs
  by_cases c : 65535 < s.size
  · obtain ⟨e1, e2⟩ := t_long c
    rw [e1, e2]
    clear e1 e2
    go_enter Tryd.func53, Tryd.ntmps53
    go_wp2
    go_ret2
    exact ⟨rfl, Below.refl _ _⟩
  · obtain ⟨e1, e2⟩ := t_ok c
    rw [e1, e2]
    clear e1 e2
    have hz := beB_size 2 (s.size : Int)
    go_enter Tryd.func53, Tryd.ntmps53
    go_wp2_with fail
    refine (Wp.putRefAny _ _ _ (by omega) (by omega)).mono ?_
    rintro e w1 ⟨rfl, b1⟩
    rw [k2]
    go_wp2
    go_ret2
    exact ⟨rfl, b1⟩

end Go.Proofs.YtpmmffihibhlhaaDoor.Wt
