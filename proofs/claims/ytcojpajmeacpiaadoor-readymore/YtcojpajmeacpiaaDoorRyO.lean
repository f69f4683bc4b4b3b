/-
  From the row's condition on the library's table to its cells; a world that meets the condition; from the reading of masks and of numbers to what they hold and where they lie.
-/
import Derived.Test.YtcojpajmeacpiaaDoorRyN
namespace Go.Proofs.YtcojpajmeacpiaaDoor.Wv
open Go.ChangeShapes Go.WideShapes Go.ChangeAt Go.RowKit Go.Proofs.YtcojpajmeacpiaaDoor.M

def laid : List (String × DataW Unit) := [("math/bits.deBruijn32tab", Rows.laid_math_bits_deBruijn32tab)]
theorem own : ownKnob Tryd.prog.godebug = none := by kernel_rfl
theorem laidOut : laidOutB Tryd.prog = true := by kernel_rfl
theorem gN : Tryd.prog.globalNamed "math/bits.deBruijn32tab" = some 0 := by kernel_rfl
theorem gT : (Tryd.prog.globals[0]?).map (·.type) = some 61 := by kernel_rfl
theorem cellsW : Tryd.prog.cellsOf 61 = 32 := by kernel_rfl
theorem cells8 : Tryd.prog.cellsOf 5 = 1 := by kernel_rfl
theorem tab_of_laid {W : World} (h : laidMetH Tryd.prog laid W) : Wry.Tab W := by
  have h' : laidMet Tryd.prog [("math/bits.deBruijn32tab", Lib.tabData .u8 (Lib.deBruijn32tab.map fun n : Nat => (n : Int)))] W := h
  have hT := Lib.tabIs_of_head gN gT Tryd.underlying61 Tryd.underlying5 cells8 cellsW h'
  intro i hi
  have := hT.cell gN i (by rw [List.length_map]; exact hi)
  rw [this]
  simp [List.getD, hi]
/-- A world that meets the condition: the settled one, the table laid. -/
noncomputable def laidWorld (os : Os) : World :=
  { World.holding Tryd.prog os ⟨#[], #[], []⟩ with heap := (World.holding Tryd.prog os ⟨#[], #[], []⟩).heap.modify 0 fun
      | .cells _ t frozen => .cells (Lib.deBruijn32tab.map fun n : Nat => Value.int .u8 (n : Int)).toArray t frozen
      | o => o }
theorem laid_met (os : Os) (args : Array Value) : laidMetH Tryd.prog laid ((laidWorld os).forCall (fun _ _ => 0) ⟨#[], args, []⟩).memory := by
  have h : laidMet Tryd.prog laid ((laidWorld os).forCall (fun _ _ => 0) ⟨#[], args, []⟩).memory := laidMet_of_run' 8 (by kernel_rfl) (by kernel_rfl)
  exact h
end Go.Proofs.YtcojpajmeacpiaaDoor.Wv

namespace Go.Proofs.YtcojpajmeacpiaaDoor.Wry
open Go.ChangeShapes Go.WideShapes Go.ChangeAt Go.RowKit Go.Shelf Go.Proofs.YtcojpajmeacpiaaDoor.M

/-! ### what is read -/
theorem cI : Tryd.prog.cellsOf 3 = 1 := by kernel_rfl
theorem cU : Tryd.prog.cellsOf 28 = 1 := by kernel_rfl
theorem add_none (b off i : Nat) : (⟨b, off, none⟩ : Addr).add i = ⟨b, off + i, none⟩ := by
  unfold Addr.add
  split
  · rename_i h; rw [h, Nat.add_zero]
  · simp
theorem view_masks {H : Type} {enc : TypeId × Value → H} {W : World} {a : Option Addr} {len cap : Nat} {d : DataW H} {p : List MemPlace}
    (h : DataW.Trod enc Tryd.prog W 0 (fun _ => true) true 22 (.slice a len cap) d p) :
    ∃ M : List Nat, len = M.length ∧ MOk M ∧ M.length ≤ cap ∧ cap ≤ maxLen ∧ Ms W a M := by
  obtain ⟨fuel, hf⟩ := h
  rcases open_ints Tryd.underlying22 Tryd.underlying28 cU hf with ⟨hcs, _⟩ | ⟨ad, l, c, zs, hcs, _, hl, hm, hz, hx, hcell, hwz⟩
  · simp [Value.cells] at hcs
    obtain ⟨rfl, rfl, rfl⟩ := hcs
    exact ⟨[], rfl, fun x hx => (by cases hx), Nat.le_refl _, (by unfold maxLen; omega), .inl rfl⟩
  · simp [Value.cells] at hcs
    obtain ⟨rfl, rfl, rfl⟩ := hcs
    simp only [if_true] at hz
    have hlen : ((zs.take len).map Int.toNat).length = len := by simp; omega
    refine ⟨(zs.take len).map Int.toNat, hlen.symm, fun x hx => ?_, by rw [hlen]; exact hl, hm, ?_⟩
    · obtain ⟨v, hv, rfl⟩ := List.mem_map.1 hx
      have := wf_u32 (hwz v (List.mem_of_mem_take hv))
      omega
    · by_cases c0 : len = 0
      · subst c0; exact .inl rfl
      · obtain ⟨b, off, spot⟩ := ad
        have hc := hcell 0 (by omega)
        have hs : spot = none := by simpa [Addr.add] using World.cell?_spot hc
        subst hs
        refine .inr ⟨b, off, rfl, ?_, fun i x hi => ?_⟩
        · rw [add_none] at hc
          exact World.block_lt_of_cell? W _ hc
        · rw [List.getElem?_map] at hi
          obtain ⟨v, hv, rfl⟩ := Option.map_eq_some_iff.1 hi
          rw [List.getElem?_take] at hv
          split at hv
          · rename_i hil
            have h1 := hcell i (by omega)
            rw [add_none] at h1
            rw [h1]
            have := wf_u32 (hwz v (List.mem_of_getElem? hv))
            have e : zs.getD i 0 = v := by rw [List.getD_eq_getElem?_getD, hv]; rfl
            rw [e]
            congr 2
            omega
          · cases hv
theorem view_ints {H : Type} {enc : TypeId × Value → H} {W : World} {a : Option Addr} {len cap : Nat} {d : DataW H} {p : List MemPlace}
    (h : DataW.Trod enc Tryd.prog W 0 (fun _ => true) true 25 (.slice a len cap) d p) :
    ∃ l : List Int, len = l.length ∧ (∀ x ∈ l, -9223372036854775808 ≤ x ∧ x < 9223372036854775808) ∧ l.length ≤ cap ∧ cap ≤ maxLen ∧ Is W a l := by
  obtain ⟨fuel, hf⟩ := h
  rcases open_ints Tryd.underlying25 Tryd.underlying3 cI hf with ⟨hcs, _⟩ | ⟨ad, l, c, zs, hcs, _, hl, hm, hz, hx, hcell, hwz⟩
  · simp [Value.cells] at hcs
    obtain ⟨rfl, rfl, rfl⟩ := hcs
    exact ⟨[], rfl, fun x hx => (by cases hx), Nat.le_refl _, (by unfold maxLen; omega), .inl rfl⟩
  · simp [Value.cells] at hcs
    obtain ⟨rfl, rfl, rfl⟩ := hcs
    simp only [if_true] at hz
    have hlen : (zs.take len).length = len := by simp; omega
    refine ⟨zs.take len, hlen.symm, fun x hx => wf_i64 (hwz x (List.mem_of_mem_take hx)), by rw [hlen]; exact hl, hm, ?_⟩
    by_cases c0 : len = 0
    · subst c0; exact .inl rfl
    · obtain ⟨b, off, spot⟩ := ad
      have hc := hcell 0 (by omega)
      have hs : spot = none := by simpa [Addr.add] using World.cell?_spot hc
      subst hs
      refine .inr ⟨b, off, rfl, ?_, fun i x hi => ?_⟩
      · rw [add_none] at hc
        exact World.block_lt_of_cell? W _ hc
      · rw [List.getElem?_take] at hi
        split at hi
        · rename_i hil
          have h1 := hcell i (by omega)
          rw [add_none] at h1
          rw [h1]
          have e : zs.getD i 0 = x := by rw [List.getD_eq_getElem?_getD, hi]; rfl
          rw [e]
        · cases hi

end Go.Proofs.YtcojpajmeacpiaaDoor.Wry
