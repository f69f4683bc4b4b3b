/-
  The walks of pack.fail and pack.check: the first leaves by a panic with a fault of that number; the second does so unless the number is 0. Nothing in memory has turned. Conditions: none.
-/
import Derived.Test.YtkelipedpjmmaaaGreatDoorRows
import Derived.WalkKit
import Derived.ProofKit
import Derived.OpenShut
import Derived.WalkSmall
namespace Go.Proofs.YtkelipedpjmmaaaGreatDoor.Wf
open Go.ChangeShapes Go.WideShapes Go.ChangeAt Go.RowKit

/-- A fault on its way. -/
def flt (e : Int) : List PanicEntry := [{ v := .iface 69 (.agg #[.int .i64 e]), recovered := false }]

theorem fail (e : Int) (w : World) : Calls Tryz.prog 51 #[.int .i64 e] w fun x w' => x = .panicked (flt e) ∧ w = w' := by
  go_enter Tryz.func51, Tryz.ntmps51
  go_wp2_with fail
  exact ⟨rfl, rfl, rfl⟩

theorem checkOk (w : World) : Calls Tryz.prog 76 #[.int .i64 0] w fun x w' => x = .returned (.tuple #[]) ∧ w = w' := by
  go_enter Tryz.func76, Tryz.ntmps76
  go_wp2_with fail
  go_end0
  exact ⟨rfl, rfl⟩

theorem checkBad (e : Int) (w : World) (h : e ≠ 0) : Calls Tryz.prog 76 #[.int .i64 e] w fun x w' => x = .panicked (flt e) ∧ w = w' := by
  have h' : (e != 0) = true := by simpa using h
  clear h
  go_enter Tryz.func76, Tryz.ntmps76
  go_wp2_with fail
  refine (fail _ _).mono ?_
  rintro x w1 ⟨rfl, rfl⟩
  go_wp2_with fail
  exact ⟨rfl, rfl, rfl⟩

end Go.Proofs.YtkelipedpjmmaaaGreatDoor.Wf
