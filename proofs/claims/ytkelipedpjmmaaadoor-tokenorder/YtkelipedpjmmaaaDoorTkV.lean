/-
  From the reading of claims, and of what is asked, that are values to their numbers and text. Nothing is asked but the reading.
-/
import Derived.Test.YtkelipedpjmmaaaDoorRows
import Derived.Test.YtkelipedpjmmaaaDoorQc
import Derived.WalkKit
import Derived.ProofKit
import Derived.OpenShut
import Derived.ShutString
import Derived.SizedLaws
namespace Go.Proofs.YtkelipedpjmmaaaDoor.Wtv
open Go.ChangeShapes Go.WideShapes Go.ChangeAt Go.RowKit Go.Proofs.YtkelipedpjmmaaaDoor.M

theorem cI : Tryd.prog.cellsOf 3 = 1 := by kernel_rfl
theorem cL : Tryd.prog.cellsOf 2 = 1 := by kernel_rfl
theorem cS : Tryd.prog.cellsOf 9 = 1 := by kernel_rfl

theorem list3 {α : Type} {l : List α} (h : l.length = 3) : ∃ a b c, l = [a, b, c] := by
  match l, h with
  | [a, b, c], _ => exact ⟨a, b, c, rfl⟩
theorem list4 {α : Type} {l : List α} (h : l.length = 4) : ∃ a b c d, l = [a, b, c, d] := by
  match l, h with
  | [a, b, c, d], _ => exact ⟨a, b, c, d, rfl⟩

theorem cC : Tryd.prog.cellsOf 39 = 4 := by kernel_rfl
set_option maxRecDepth 100000 in
/-- Claims that are a value. -/
theorem view_claims {H : Type} {enc : TypeId × Value → H} {W : World} {base : Nat} {v : Value} {d : DataW H} {p : List MemPlace} (ho : Value.okWide Tryd.prog W .any base 39 v)
    (h : DataW.Trod enc Tryd.prog W 0 (fun _ => true) true 39 v d p) :
    ∃ a b c e : Int, v = .agg #[.int .i64 a, .int .i64 b, .int .i64 c, .int .i64 e] ∧ I6 a ∧ I6 b ∧ I6 c ∧ I6 e := by
  obtain ⟨cs, rfl, _⟩ := okWide_struct Tryd.underlying39 ho
  obtain ⟨fuel, hf⟩ := h
  obtain ⟨xs, n', _, hx, hl, hxl, hf⟩ := DataW.trod_struct Tryd.underlying39 hf
  rw [cC] at hl
  have hl2 : cs.toList.length = 4 := by simpa [Value.cells] using hl
  obtain ⟨v0, v1, v2, v3, he⟩ := list4 hl2
  have he' : cs = #[v0, v1, v2, v3] := by rw [← Array.toArray_toList (xs := cs), he]
  subst he'
  have g0 : DataW.trod enc Tryd.prog W 0 (fun _ => true) true n' 3 (([v0, v1, v2, v3].drop 0).take (Tryd.prog.cellsOf 3)) = xs[0]? := hf 0 _ rfl
  have g1 : DataW.trod enc Tryd.prog W 0 (fun _ => true) true n' 3 (([v0, v1, v2, v3].drop 1).take (Tryd.prog.cellsOf 3)) = xs[1]? := hf 1 _ rfl
  have g2 : DataW.trod enc Tryd.prog W 0 (fun _ => true) true n' 2 (([v0, v1, v2, v3].drop 2).take (Tryd.prog.cellsOf 2)) = xs[2]? := hf 2 _ rfl
  have g3 : DataW.trod enc Tryd.prog W 0 (fun _ => true) true n' 2 (([v0, v1, v2, v3].drop 3).take (Tryd.prog.cellsOf 2)) = xs[3]? := hf 3 _ rfl
  obtain ⟨x0, x1, x2, x3, rfl⟩ := list4 hxl
  simp only [cI, cL, List.drop_zero, List.take_succ_cons, List.take_zero, List.drop_succ_cons, List.getElem?_cons_zero, List.getElem?_cons_succ] at g0 g1 g2 g3
  obtain ⟨y0, e0, _, w0⟩ := DataW.trod_int Tryd.underlying3 g0
  obtain ⟨y1, e1, _, w1⟩ := DataW.trod_int Tryd.underlying3 g1
  obtain ⟨y2, e2, _, w2⟩ := DataW.trod_int Tryd.underlying2 g2
  obtain ⟨y3, e3, _, w3⟩ := DataW.trod_int Tryd.underlying2 g3
  simp only [List.cons.injEq, and_true] at e0 e1 e2 e3
  subst e0 e1 e2 e3
  exact ⟨y0, y1, y2, y3, rfl, M.wf_i64 w0, M.wf_i64 w1, M.wf_i64 w2, M.wf_i64 w3⟩

theorem cA : Tryd.prog.cellsOf 33 = 3 := by kernel_rfl
set_option maxRecDepth 100000 in
/-- What is asked, that is a value. -/
theorem view_asked {H : Type} {enc : TypeId × Value → H} {W : World} {base : Nat} {v : Value} {d : DataW H} {p : List MemPlace} (ho : Value.okWide Tryd.prog W .any base 33 v)
    (h : DataW.Trod enc Tryd.prog W 0 (fun _ => true) true 33 v d p) (hw : ∀ x ∈ d.weights Tryd.prog 33, x ≤ reachBytes) :
    ∃ (k : ByteArray) (n e : Int), v = .agg #[.string k, .int .i64 n, .int .i64 e] ∧ k.size ≤ 140737488351232 ∧ I6 n ∧ I6 e := by
  obtain ⟨cs, rfl, _⟩ := okWide_struct Tryd.underlying33 ho
  obtain ⟨fuel, hf⟩ := h
  obtain ⟨xs, n', _, hx, hl, hxl, hf⟩ := DataW.trod_struct Tryd.underlying33 hf
  rw [cA] at hl
  have hl2 : cs.toList.length = 3 := by simpa [Value.cells] using hl
  obtain ⟨v0, v1, v2, he⟩ := list3 hl2
  have he' : cs = #[v0, v1, v2] := by rw [← Array.toArray_toList (xs := cs), he]
  subst he'
  have g0 : DataW.trod enc Tryd.prog W 0 (fun _ => true) true n' 9 (([v0, v1, v2].drop 0).take (Tryd.prog.cellsOf 9)) = xs[0]? := hf 0 _ rfl
  have g1 : DataW.trod enc Tryd.prog W 0 (fun _ => true) true n' 2 (([v0, v1, v2].drop 1).take (Tryd.prog.cellsOf 2)) = xs[1]? := hf 1 _ rfl
  have g2 : DataW.trod enc Tryd.prog W 0 (fun _ => true) true n' 2 (([v0, v1, v2].drop 2).take (Tryd.prog.cellsOf 2)) = xs[2]? := hf 2 _ rfl
  obtain ⟨x0, x1, x2, rfl⟩ := list3 hxl
  simp only [cL, cS, List.drop_zero, List.take_succ_cons, List.take_zero, List.drop_succ_cons, List.getElem?_cons_zero, List.getElem?_cons_succ] at g0 g1 g2
  have hD : d = .agg [x0.1, x1.1, x2.1] := by simp only [Prod.mk.injEq] at hx; exact hx.1
  obtain ⟨s, e0, ex0, _⟩ := DataW.trod_string Tryd.underlying9 g0
  obtain ⟨y1, e1, _, w1⟩ := DataW.trod_int Tryd.underlying2 g1
  obtain ⟨y2, e2, _, w2⟩ := DataW.trod_int Tryd.underlying2 g2
  simp only [List.cons.injEq, and_true] at e0 e1 e2
  subst e0 e1 e2
  refine ⟨s, y1, y2, rfl, ?_, M.wf_i64 w1, M.wf_i64 w2⟩
  have := hw s.size (by
    rw [hD]
    simp only [DataW.weights, Tryd.underlying33, List.map_cons, List.map_nil, DataW.weightsEach, List.mem_append]
    left
    rw [ex0]
    simp only [DataW.weights, List.mem_singleton]
    exact Array.length_toList.symm)
  unfold reachBytes at this
  omega

end Go.Proofs.YtkelipedpjmmaaaDoor.Wtv
