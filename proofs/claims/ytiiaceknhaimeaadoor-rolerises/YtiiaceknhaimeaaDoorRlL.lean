/-
  From the rows' conditions on the tables of masks and of names to their cells; worlds that meet them. Nothing else is said.
-/
import Derived.Test.YtiiaceknhaimeaaDoorRows
import Derived.Test.YtiiaceknhaimeaaDoorRlB
import Derived.ChangeSame
import Derived.ChangeVars
import Derived.JoinedOf
import Derived.RowKit
import Derived.LaidLaws
import Derived.LaidHandle
import Derived.Stop.Joined
import Derived.Lib.LaidTab
namespace Go.Proofs.YtiiaceknhaimeaaDoor.M
theorem wf_i64 {n : Int} (h : (Lit.int .i64 n).wf = true) : -9223372036854775808 ≤ n ∧ n < 9223372036854775808 := by
  simp [Lit.wf, IntKind.min, IntKind.max, IntKind.bits, IntKind.signed] at h
  omega
end Go.Proofs.YtiiaceknhaimeaaDoor.M

namespace Go.Proofs.YtiiaceknhaimeaaDoor.WvM
open Go.ChangeShapes Go.WideShapes Go.ChangeAt Go.RowKit Go.Proofs.YtiiaceknhaimeaaDoor.M

def laid : List (String × DataW Unit) := [("precinct/role.masks", Rows.laid_precinct_role_masks)]

theorem own : ownKnob Tryd.prog.godebug = none := by kernel_rfl
theorem gN : Tryd.prog.globalNamed "precinct/role.masks" = some 0 := by kernel_rfl
theorem gT : (Tryd.prog.globals[0]?).map (·.type) = some 40 := by kernel_rfl
theorem cellsW : Tryd.prog.cellsOf 40 = 5 := by kernel_rfl
theorem cells32 : Tryd.prog.cellsOf 26 = 1 := by kernel_rfl

theorem tab_of_laid {W : World} (h : laidMetH Tryd.prog laid W) : Wrl.TabM W := by
  have h' : laidMet Tryd.prog [("precinct/role.masks", Lib.tabData .u32 [0, 1, 7, 31, 1023])] W := h
  have hT := Lib.tabIs_of_head gN gT Tryd.underlying40 Tryd.underlying26 cells32 cellsW h'
  intro i hi
  have h1 := hT.cell gN i hi
  rw [h1]
  have hn : i = 0 ∨ i = 1 ∨ i = 2 ∨ i = 3 ∨ i = 4 := by omega
  rcases hn with rfl | rfl | rfl | rfl | rfl <;> rfl

/-- A world that meets the condition: the settled one, the table laid. -/
noncomputable def laidWorld (os : Os) : World :=
  { World.holding Tryd.prog os ⟨#[], #[], []⟩ with heap := (World.holding Tryd.prog os ⟨#[], #[], []⟩).heap.modify 0 fun
      | .cells _ t frozen => .cells #[.int .u32 0, .int .u32 1, .int .u32 7, .int .u32 31, .int .u32 1023] t frozen
      | o => o }
theorem laid_met (os : Os) (args : Array Value) : laidMetH Tryd.prog laid ((laidWorld os).forCall (fun _ _ => 0) ⟨#[], args, []⟩).memory := by
  have h : laidMet Tryd.prog laid ((laidWorld os).forCall (fun _ _ => 0) ⟨#[], args, []⟩).memory := laidMet_of_run' 8 (by kernel_rfl) (by kernel_rfl)
  exact h
end Go.Proofs.YtiiaceknhaimeaaDoor.WvM

namespace Go.Proofs.YtiiaceknhaimeaaDoor.WvN
open Go.ChangeShapes Go.WideShapes Go.ChangeAt Go.RowKit Go.Proofs.YtiiaceknhaimeaaDoor.M

def laid : List (String × DataW Unit) := [("precinct/role.names", Rows.laid_precinct_role_names)]

theorem own : ownKnob Tryd.prog.godebug = none := by kernel_rfl
theorem gN : Tryd.prog.globalNamed "precinct/role.names" = some 1 := by kernel_rfl
theorem gT : (Tryd.prog.globals[1]?).map (·.type) = some 41 := by kernel_rfl
theorem cellsW : Tryd.prog.cellsOf 41 = 10 := by kernel_rfl
theorem cellsS : Tryd.prog.cellsOf 9 = 1 := by kernel_rfl

/-- An array of texts that reads as a list of them: its cells. -/
theorem strs_of_tab {H : Type} {enc : TypeId × Value → H} {P : Program} {w : World} {base : Nat} {sp : Nat → Bool} {held : Bool} {fuel : Nat} {t e : TypeId} {n : Nat} {cs : List Value} {ss : List ByteArray} {p : List MemPlace}
    (ht : P.underlying t = some (.array n e)) (he : P.underlying e = some .string) (hce : P.cellsOf e = 1)
    (h : DataW.trod enc P w base sp held fuel t cs = some (.agg (ss.map fun s => .lit (.string s.data.toList)), p)) : ∀ i, i < ss.length → i < n → cs[i]? = some (.string (ss.getD i ⟨#[]⟩)) := by
  obtain ⟨xs, m, _, hx, hl, hxl, hall⟩ := DataW.trod_array ht h
  have hxs : xs.map (·.1) = ss.map fun s => (DataW.lit (.string s.data.toList) : DataW H) := by
    have := congrArg Prod.fst hx
    simpa using this.symm
  intro i hi hn
  have h1 := hall i hn
  obtain ⟨b, hb⟩ : ∃ b, xs[i]? = some b := ⟨xs[i]'(by omega), List.getElem?_eq_getElem (by omega)⟩
  rw [hb, hce] at h1
  obtain ⟨s, hcs, rfl, _⟩ := DataW.trod_string he h1
  have h2 : (xs.map (·.1))[i]? = some (DataW.lit (.string s.data.toList) : DataW H) := by simp [hb]
  rw [hxs] at h2
  simp only [List.getElem?_map, Option.map_eq_some_iff, DataW.lit.injEq, Lit.string.injEq] at h2
  obtain ⟨s', hs', e2⟩ := h2
  have e3 : s' = s := ByteArray.ext (Array.toList_inj.1 e2)
  subst e3
  have h4 : cs[i]? = some (.string s') := by
    have := congrArg (·[0]?) hcs
    simpa [List.getElem?_take, List.getElem?_drop] using this
  rw [h4]
  simp [List.getD, hs']

theorem tab_of_laid {W : World} (h : laidMetH Tryd.prog laid W) : Wrl.TabN W := by
  have h' : laidMet Tryd.prog [("precinct/role.names", .agg (nms.map fun s => .lit (.string s.data.toList)))] W := h
  obtain ⟨ps, ⟨g', t', cs, fuel, p, q, hg', ht', hvar, hd, _, _⟩, _⟩ := h'
  obtain rfl := Option.some.inj (gN.symm.trans hg')
  obtain rfl := Option.some.inj (gT.symm.trans ht')
  have K := strs_of_tab Tryd.underlying41 Tryd.underlying9 cellsS hd
  intro i hi
  have h1 := World.var?_cell gN hvar i
  rw [h1]
  have := K i hi hi
  rw [List.getElem?_toArray]
  exact this

/-- A world that meets the condition: the settled one, the table laid. -/
noncomputable def laidWorld (os : Os) : World :=
  { World.holding Tryd.prog os ⟨#[], #[], []⟩ with heap := (World.holding Tryd.prog os ⟨#[], #[], []⟩).heap.modify 1 fun
      | .cells _ t frozen => .cells (nms.map Value.string).toArray t frozen
      | o => o }
theorem laid_met (os : Os) (args : Array Value) : laidMetH Tryd.prog laid ((laidWorld os).forCall (fun _ _ => 0) ⟨#[], args, []⟩).memory := by
  have h : laidMet Tryd.prog laid ((laidWorld os).forCall (fun _ _ => 0) ⟨#[], args, []⟩).memory := laidMet_of_run' 8 (by kernel_rfl) (by kernel_rfl)
  exact h
end Go.Proofs.YtiiaceknhaimeaaDoor.WvN
