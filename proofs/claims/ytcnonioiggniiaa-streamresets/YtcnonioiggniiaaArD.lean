/-
  The walks of area.Parse and of the document's Parse: each returns what 'pOk', 'cG', 'cI', 'cD' say, and nothing that was in memory has turned. Condition: the text's length is an int.
-/
import Derived.Test.YtcnonioiggniiaaArC
import Derived.Laws.ResultCell
namespace Go.Proofs.Ytcnonioiggniiaa.War
open Go.ChangeShapes Go.WideShapes Go.ChangeAt Go.RowKit Go.Proofs.Ytcnonioiggniiaa.M

theorem heads {s : ByteArray} (h : s.size = 64) : (gE s 0 6 = 0 ∧ gN s 0 6 = pG s ∧ gX s 0 6 = 6) ∧ (gE s 6 2 = 0 ∧ gN s 6 2 = pI s ∧ gX s 6 2 = 8) ∧ (gE s 8 1 = 0 ∧ gN s 8 1 = (pN s : Int) ∧ gX s 8 1 = 9) := by
  refine ⟨?_, ?_, ?_⟩
  · exact get_ok (s := s) (a := 0) (w := 6) (by omega) (by omega) (by omega)
  · exact get_ok (s := s) (a := 6) (w := 2) (by omega) (by omega) (by omega)
  · obtain ⟨h1, h2, h3⟩ := get_ok (s := s) (a := 8) (w := 1) (by omega) (by omega) (by omega)
    exact ⟨h1, h2.trans (pN_num s), h3⟩

theorem list_ne {a b : ByteArray} (h : ¬ a = b) : (a.toList == b.toList) = false := by
  have : ¬ a.toList = b.toList := fun e => h (by
    rw [ByteArray.toList_eq, ByteArray.toList_eq] at e
    exact ByteArray.ext (Array.toList_inj.1 e))
  simpa using this

/-- A piece of a text. -/
theorem cut (s D : ByteArray) (i j : Int) (a b : Nat) (hi : i = (a : Int)) (hj : j = (b : Int)) (h1 : a ≤ b) (h2 : b ≤ s.size) (hD : s.extract a b = D) (u : World) :
    (Instr.slice 9 (.string s) (some (.int .i64 i)) (some (.int .i64 j)) none).run Try.prog u = .ok (.string D) u := by
  subst hi hj hD
  have e1 : (0 : Int) ≤ (b : Int) ∧ (b : Int) ≤ (s.size : Int) := ⟨by omega, by omega⟩
  have e2 : (0 : Int) ≤ (a : Int) ∧ (a : Int) ≤ (b : Int) := ⟨by omega, by omega⟩
  simp [Instr.slice, Instr.sliceBounds, Instr.sliceBound, asIntOf, run_underlying Try.underlying9, h1, h2]

/-- Where a cell stands in a world that grew. -/
theorem at3 {W : World} {b : Nat} {T : TypeId} {x y z : Value} (h : W.heap[b]? = some (.cells #[x, y, z] T (0, 0))) :
    W.cell? ⟨b, 0, none⟩ = some x ∧ W.cell? ⟨b, 1, none⟩ = some y ∧ W.cell? ⟨b, 2, none⟩ = some z ∧ ∀ j, W.frozen? ⟨b, j, none⟩ = false := by
  refine ⟨?_, ?_, ?_, fun j => ?_⟩ <;> simp [World.cell?, World.frozen?, h]

/-- A cell laid over a cell. -/
theorem set3 {W : World} {b : Nat} {T : TypeId} {x y z : Value} (h : W.heap[b]? = some (.cells #[x, y, z] T (0, 0))) (x' y' z' : Value) :
    (W.setCell ⟨b, 0, none⟩ x').cell? ⟨b, 0, none⟩ = some x' ∧ ((W.setCell ⟨b, 0, none⟩ x').setCell ⟨b, 1, none⟩ y').cell? ⟨b, 1, none⟩ = some y' ∧
      (((W.setCell ⟨b, 0, none⟩ x').setCell ⟨b, 1, none⟩ y').setCell ⟨b, 2, none⟩ z').cell? ⟨b, 2, none⟩ = some z' := by
  have h0 := heap_setCell_same W b 0 _ _ x' h
  have h1 := heap_setCell_same _ b 1 _ _ y' h0
  have h2 := heap_setCell_same _ b 2 _ _ z' h1
  refine ⟨?_, ?_, ?_⟩
  · simp [World.cell?, h0]
  · simp [World.cell?, h1]
  · simp [World.cell?, h2]
theorem below3 {w W : World} {b : Nat} (h : Below w.heap.size w W) (hb : w.heap.size ≤ b) (x y z : Value) : Below w.heap.size w (((W.setCell ⟨b, 0, none⟩ x).setCell ⟨b, 1, none⟩ y).setCell ⟨b, 2, none⟩ z) :=
  ((h.setCell hb _).setCell hb _).setCell hb _

end Go.Proofs.Ytcnonioiggniiaa.War
