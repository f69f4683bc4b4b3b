/-
  The walks of the document's Equal, and of the law's own 'same': the first returns what 'eq1', 'eqF' say of the values that it is handed; the second returns true where the two values that it is handed read alike. Nothing that was in memory has turned. Conditions: none but that the values can be read.
-/
import Derived.Test.YtkelipedpjmmaaaDoorEqual
namespace Go.Proofs.YtkelipedpjmmaaaDoor.We
open Go.ChangeShapes Go.WideShapes Go.ChangeAt Go.RowKit Go.Proofs.YtkelipedpjmmaaaDoor.M

theorem eq1_two (n : Int) (s : ByteArray) (n' : Int) (s' : ByteArray) (b : Bool) : eq1 2 n s 2 n' s' b = b := by simp [eq1]

end Go.Proofs.YtkelipedpjmmaaaDoor.We
