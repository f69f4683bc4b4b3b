/-
  From the row's condition on the table of the rounds' numbers to its cells; a world that meets the condition. Nothing else is said.
-/
import Derived.Test.YtkelipedpjmmaaaDoorRows
import Derived.Test.YtkelipedpjmmaaaDoorAView
import Derived.Test.YtkelipedpjmmaaaDoorSBlk
import Derived.ChangeSame
import Derived.ChangeVars
import Derived.JoinedOf
import Derived.RowKit
import Derived.LaidLaws
import Derived.LaidHandle
import Derived.Stop.Joined
import Derived.Lib.LaidTab
namespace Go.Proofs.YtkelipedpjmmaaaDoor.Wv
open Go.ChangeShapes Go.WideShapes Go.ChangeAt Go.RowKit Go.Proofs.YtkelipedpjmmaaaDoor.M

def laid : List (String × DataW Unit) := [("precinct/sha.roundNumbers", Rows.laid_precinct_sha_roundNumbers)]

theorem gN : Tryd.prog.globalNamed "precinct/sha.roundNumbers" = some 0 := by kernel_rfl
theorem gT : (Tryd.prog.globals[0]?).map (·.type) = some 74 := by kernel_rfl
theorem cellsW : Tryd.prog.cellsOf 74 = 64 := by kernel_rfl

theorem tab_of_laid {W : World} (h : laidMetH Tryd.prog laid W) : Wh.Tab W := by
  have h' : laidMet Tryd.prog [("precinct/sha.roundNumbers", Lib.tabData .u32 (rns.map fun n : Nat => (n : Int)))] W := h
  have hT := Lib.tabIs_of_head gN gT Tryd.underlying74 Tryd.underlying73 cells32 cellsW h'
  intro i hi
  have := hT.cell gN i (by rw [List.length_map, rns_len]; exact hi)
  rw [this]
  have hi' : i < rns.length := by rw [rns_len]; exact hi
  simp [List.getD, hi']

/-- A world that meets the condition: the settled one, the table laid. -/
noncomputable def laidWorld (os : Os) : World :=
  { World.holding Tryd.prog os ⟨#[], #[], []⟩ with heap := (World.holding Tryd.prog os ⟨#[], #[], []⟩).heap.modify 0 fun
      | .cells _ t frozen => .cells (rns.map fun n : Nat => Value.int .u32 (n : Int)).toArray t frozen
      | o => o }
theorem laid_met (os : Os) (args : Array Value) : laidMetH Tryd.prog laid ((laidWorld os).forCall (fun _ _ => 0) ⟨#[], args, []⟩).memory := by
  have h : laidMet Tryd.prog laid ((laidWorld os).forCall (fun _ _ => 0) ⟨#[], args, []⟩).memory := laidMet_of_run' 8 (by kernel_rfl) (by kernel_rfl)
  exact h

end Go.Proofs.YtkelipedpjmmaaaDoor.Wv
