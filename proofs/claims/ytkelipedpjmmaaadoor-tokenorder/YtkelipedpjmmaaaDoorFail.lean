/-
  The walks of pack.fail and pack.check: the first leaves by a panic with a fault of that number; the second does so unless the number is 0. Nothing in memory has turned. Conditions: none.
-/
import Derived.Test.YtkelipedpjmmaaaDoorRows
import Derived.WalkKit
import Derived.ProofKit
import Derived.OpenShut
import Derived.WalkSmall
namespace Go.Proofs.YtkelipedpjmmaaaDoor.Wf
open Go.ChangeShapes Go.WideShapes Go.ChangeAt Go.RowKit

/-- A fault on its way. -/
def flt (e : Int) : List PanicEntry := [{ v := .iface 80 (.agg #[.int .i64 e]), recovered := false }]

theorem fail (e : Int) (w : World) : Calls Tryd.prog 42 #[.int .i64 e] w fun x w' => x = .panicked (flt e) ∧ w = w' := by
  go_enter Tryd.func42, Tryd.ntmps42
  go_wp2_with fail
  exact ⟨rfl, rfl, rfl⟩

theorem checkOk (w : World) : Calls Tryd.prog 74 #[.int .i64 0] w fun x w' => x = .returned (.tuple #[]) ∧ w = w' := by
  go_enter Tryd.func74, Tryd.ntmps74
  go_wp2_with fail
  go_end0
  exact ⟨rfl, rfl⟩

theorem checkBad (e : Int) (w : World) (h : e ≠ 0) : Calls Tryd.prog 74 #[.int .i64 e] w fun x w' => x = .panicked (flt e) ∧ w = w' := by
  have h' : (e != 0) = true := by simpa using h
  clear h
  go_enter Tryd.func74, Tryd.ntmps74
  go_wp2_with fail
  refine (fail _ _).mono ?_
  rintro x w1 ⟨rfl, rfl⟩
  go_wp2_with fail
  exact ⟨rfl, rfl, rfl⟩

end Go.Proofs.YtkelipedpjmmaaaDoor.Wf
