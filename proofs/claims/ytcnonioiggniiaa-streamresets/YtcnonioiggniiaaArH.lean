/-
  The walk of the law AreaSplits: it returns true, and nothing that was in memory has turned. Conditions: none but that each number fits its kind and that the text's length is an int.
-/
import Derived.Test.YtcnonioiggniiaaArG
import Derived.Deep.QuietTactic
import Derived.BigQuiet
import Derived.WalkSmall
namespace Go.Proofs.Ytcnonioiggniiaa.War
open Go.ChangeShapes Go.WideShapes Go.ChangeAt Go.RowKit Go.Proofs.Ytcnonioiggniiaa.M

/-- The first bytes of a text. -/
theorem cutL (s D : ByteArray) (j : Int) (b : Nat) (hj : j = (b : Int)) (h2 : b ≤ s.size) (hD : s.extract 0 b = D) (u : World) :
    (Instr.slice 9 (.string s) none (some (.int .i64 j)) none).run Try.prog u = .ok (.string D) u := by
  subst hj hD
  simp [Instr.slice, Instr.sliceBounds, Instr.sliceBound, asIntOf, run_underlying Try.underlying9, h2]

end Go.Proofs.Ytcnonioiggniiaa.War
