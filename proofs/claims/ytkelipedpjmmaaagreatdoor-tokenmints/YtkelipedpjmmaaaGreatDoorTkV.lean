/-
  From the reading of claims, and of what is asked, that are values to their numbers and text. Nothing is asked but the reading.
-/
import Derived.Test.YtkelipedpjmmaaaGreatDoorRows
import Derived.Test.YtkelipedpjmmaaaGreatDoorQc
import Derived.WalkKit
import Derived.ProofKit
import Derived.OpenShut
import Derived.ShutString
import Derived.SizedLaws
namespace Go.Proofs.YtkelipedpjmmaaaGreatDoor.Wtv
open Go.ChangeShapes Go.WideShapes Go.ChangeAt Go.RowKit Go.Proofs.YtkelipedpjmmaaaGreatDoor.M

theorem cI : Tryz.prog.cellsOf 3 = 1 := by kernel_rfl
theorem cL : Tryz.prog.cellsOf 2 = 1 := by kernel_rfl
theorem cS : Tryz.prog.cellsOf 9 = 1 := by kernel_rfl

theorem list3 {α : Type} {l : List α} (h : l.length = 3) : ∃ a b c, l = [a, b, c] := by
  match l, h with
  | [a, b, c], _ => exact ⟨a, b, c, rfl⟩
theorem list4 {α : Type} {l : List α} (h : l.length = 4) : ∃ a b c d, l = [a, b, c, d] := by
  match l, h with
  | [a, b, c, d], _ => exact ⟨a, b, c, d, rfl⟩

theorem cC : Tryz.prog.cellsOf 23 = 4 := by kernel_rfl
set_option maxRecDepth 100000 in
/-- Claims that are a value. -/
theorem view_claims {H : Type} {enc : TypeId × Value → H} {W : World} {base : Nat} {v : Value} {d : DataW H} {p : List MemPlace} (ho : Value.okWide Tryz.prog W .any base 23 v)
    (h : DataW.Trod enc Tryz.prog W 0 (fun _ => true) true 23 v d p) :
    ∃ a b c e : Int, v = .agg #[.int .i64 a, .int .i64 b, .int .i64 c, .int .i64 e] ∧ I6 a ∧ I6 b ∧ I6 c ∧ I6 e := by
  obtain ⟨cs, rfl, _⟩ := okWide_struct Tryz.underlying23 ho
  obtain ⟨fuel, hf⟩ := h
  obtain ⟨xs, n', _, hx, hl, hxl, hf⟩ := DataW.trod_struct Tryz.underlying23 hf
  rw [cC] at hl
  have hl2 : cs.toList.length = 4 := by simpa [Value.cells] using hl
  obtain ⟨v0, v1, v2, v3, he⟩ := list4 hl2
  have he' : cs = #[v0, v1, v2, v3] := by rw [← Array.toArray_toList (xs := cs), he]
  subst he'
  have g0 : DataW.trod enc Tryz.prog W 0 (fun _ => true) true n' 3 (([v0, v1, v2, v3].drop 0).take (Tryz.prog.cellsOf 3)) = xs[0]? := hf 0 _ rfl
  have g1 : DataW.trod enc Tryz.prog W 0 (fun _ => true) true n' 3 (([v0, v1, v2, v3].drop 1).take (Tryz.prog.cellsOf 3)) = xs[1]? := hf 1 _ rfl
  have g2 : DataW.trod enc Tryz.prog W 0 (fun _ => true) true n' 2 (([v0, v1, v2, v3].drop 2).take (Tryz.prog.cellsOf 2)) = xs[2]? := hf 2 _ rfl
  have g3 : DataW.trod enc Tryz.prog W 0 (fun _ => true) true n' 2 (([v0, v1, v2, v3].drop 3).take (Tryz.prog.cellsOf 2)) = xs[3]? := hf 3 _ rfl
  obtain ⟨x0, x1, x2, x3, rfl⟩ := list4 hxl
  simp only [cI, cL, List.drop_zero, List.take_succ_cons, List.take_zero, List.drop_succ_cons, List.getElem?_cons_zero, List.getElem?_cons_succ] at g0 g1 g2 g3
  obtain ⟨y0, e0, _, w0⟩ := DataW.trod_int Tryz.underlying3 g0
  obtain ⟨y1, e1, _, w1⟩ := DataW.trod_int Tryz.underlying3 g1
  obtain ⟨y2, e2, _, w2⟩ := DataW.trod_int Tryz.underlying2 g2
  obtain ⟨y3, e3, _, w3⟩ := DataW.trod_int Tryz.underlying2 g3
  simp only [List.cons.injEq, and_true] at e0 e1 e2 e3
  subst e0 e1 e2 e3
  exact ⟨y0, y1, y2, y3, rfl, M.wf_i64 w0, M.wf_i64 w1, M.wf_i64 w2, M.wf_i64 w3⟩

end Go.Proofs.YtkelipedpjmmaaaGreatDoor.Wtv
