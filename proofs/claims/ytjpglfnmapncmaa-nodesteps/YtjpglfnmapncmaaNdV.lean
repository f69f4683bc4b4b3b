/-
  What a law's state of a node, what a step is asked with, and slices of numbers and of bools read as: cells of memory. Nothing is asked but what each fact names.
-/
import Derived.Test.YtjpglfnmapncmaaNdA
import Derived.SizedLaws
import Derived.Deep.Fields
import Derived.Deep.Light
namespace Go.Proofs.Ytjpglfnmapncmaa.Wnv
open Go.ChangeShapes Go.WideShapes Go.ChangeAt Go.RowKit Go.Proofs.Ytjpglfnmapncmaa.M

theorem cI : Try.prog.cellsOf 3 = 1 := by kernel_rfl
theorem cL : Try.prog.cellsOf 2 = 1 := by kernel_rfl
theorem cB : Try.prog.cellsOf 4 = 1 := by kernel_rfl
theorem cS : Try.prog.cellsOf 23 = 4 := by kernel_rfl
theorem list4 {α : Type} {l : List α} (h : l.length = 4) : ∃ a b c d, l = [a, b, c, d] := by
  match l, h with
  | [a, b, c, d], _ => exact ⟨a, b, c, d, rfl⟩
theorem list5 {α : Type} {l : List α} (h : l.length = 5) : ∃ a b c d e, l = [a, b, c, d, e] := by
  match l, h with
  | [a, b, c, d, e], _ => exact ⟨a, b, c, d, e, rfl⟩
theorem add_none (b off i : Nat) : (⟨b, off, none⟩ : Addr).add i = ⟨b, off + i, none⟩ := by
  unfold Addr.add
  split
  · rename_i h; rw [h, Nat.add_zero]
  · simp

set_option maxRecDepth 100000 in
/-- A state. -/
theorem view_state {H : Type} {enc : TypeId × Value → H} {W : World} {base : Nat} {v : Value} {d : DataW H} {p : List MemPlace} (ho : Value.okWide Try.prog W .any base 23 v)
    (h : DataW.Trod enc Try.prog W 0 (fun _ => true) true 23 v d p) :
    ∃ s : NS, v = .agg #[.int .i64 s.p, .int .i64 s.t, .int .i64 s.u, .int .i64 s.a] ∧ s.Ok := by
  obtain ⟨cs, rfl, _⟩ := okWide_struct Try.underlying23 ho
  obtain ⟨fuel, hf⟩ := h
  obtain ⟨xs, n', _, hx, hl, hxl, hf⟩ := DataW.trod_struct Try.underlying23 hf
  rw [cS] at hl
  have hl2 : cs.toList.length = 4 := by simpa [Value.cells] using hl
  obtain ⟨v0, v1, v2, v3, he⟩ := list4 hl2
  have he' : cs = #[v0, v1, v2, v3] := by rw [← Array.toArray_toList (xs := cs), he]
  subst he'
  have g0 : DataW.trod enc Try.prog W 0 (fun _ => true) true n' 3 (([v0, v1, v2, v3].drop 0).take (Try.prog.cellsOf 3)) = xs[0]? := hf 0 _ rfl
  have g1 : DataW.trod enc Try.prog W 0 (fun _ => true) true n' 3 (([v0, v1, v2, v3].drop 1).take (Try.prog.cellsOf 3)) = xs[1]? := hf 1 _ rfl
  have g2 : DataW.trod enc Try.prog W 0 (fun _ => true) true n' 2 (([v0, v1, v2, v3].drop 2).take (Try.prog.cellsOf 2)) = xs[2]? := hf 2 _ rfl
  have g3 : DataW.trod enc Try.prog W 0 (fun _ => true) true n' 2 (([v0, v1, v2, v3].drop 3).take (Try.prog.cellsOf 2)) = xs[3]? := hf 3 _ rfl
  obtain ⟨x0, x1, x2, x3, rfl⟩ := list4 hxl
  simp only [cI, cL, List.drop_zero, List.take_succ_cons, List.take_zero, List.drop_succ_cons, List.getElem?_cons_zero, List.getElem?_cons_succ] at g0 g1 g2 g3
  obtain ⟨y0, e0, _, w0⟩ := DataW.trod_int Try.underlying3 g0
  obtain ⟨y1, e1, _, w1⟩ := DataW.trod_int Try.underlying3 g1
  obtain ⟨y2, e2, _, w2⟩ := DataW.trod_int Try.underlying2 g2
  obtain ⟨y3, e3, _, w3⟩ := DataW.trod_int Try.underlying2 g3
  simp only [List.cons.injEq, and_true] at e0 e1 e2 e3
  subst e0 e1 e2 e3
  exact ⟨⟨y0, y1, y2, y3⟩, rfl, ⟨wf_i64 w0, wf_i64 w1, wf_i64 w2, wf_i64 w3⟩⟩

theorem cA : Try.prog.cellsOf 25 = 5 := by kernel_rfl
/-- What a step is asked with: now, lease, try, tries. -/
structure As where
  n : Int
  l : Int
  y : Int
  z : Int
  ok : Bool
structure As.Ok (x : As) : Prop where
  n : I6 x.n
  l : I6 x.l
  y : I6 x.y
  z : I6 x.z
set_option maxRecDepth 100000 in
theorem view_asked {H : Type} {enc : TypeId × Value → H} {W : World} {base : Nat} {v : Value} {d : DataW H} {p : List MemPlace} (ho : Value.okWide Try.prog W .any base 25 v)
    (h : DataW.Trod enc Try.prog W 0 (fun _ => true) true 25 v d p) :
    ∃ x : As, v = .agg #[.int .i64 x.n, .int .i64 x.l, .int .i64 x.y, .int .i64 x.z, .bool x.ok] ∧ x.Ok := by
  obtain ⟨cs, rfl, _⟩ := okWide_struct Try.underlying25 ho
  obtain ⟨fuel, hf⟩ := h
  obtain ⟨xs, n', _, hx, hl, hxl, hf⟩ := DataW.trod_struct Try.underlying25 hf
  rw [cA] at hl
  have hl2 : cs.toList.length = 5 := by simpa [Value.cells] using hl
  obtain ⟨v0, v1, v2, v3, v4, he⟩ := list5 hl2
  have he' : cs = #[v0, v1, v2, v3, v4] := by rw [← Array.toArray_toList (xs := cs), he]
  subst he'
  have g0 : DataW.trod enc Try.prog W 0 (fun _ => true) true n' 2 (([v0, v1, v2, v3, v4].drop 0).take (Try.prog.cellsOf 2)) = xs[0]? := hf 0 _ rfl
  have g1 : DataW.trod enc Try.prog W 0 (fun _ => true) true n' 2 (([v0, v1, v2, v3, v4].drop 1).take (Try.prog.cellsOf 2)) = xs[1]? := hf 1 _ rfl
  have g2 : DataW.trod enc Try.prog W 0 (fun _ => true) true n' 3 (([v0, v1, v2, v3, v4].drop 2).take (Try.prog.cellsOf 3)) = xs[2]? := hf 2 _ rfl
  have g3 : DataW.trod enc Try.prog W 0 (fun _ => true) true n' 3 (([v0, v1, v2, v3, v4].drop 3).take (Try.prog.cellsOf 3)) = xs[3]? := hf 3 _ rfl
  have g4 : DataW.trod enc Try.prog W 0 (fun _ => true) true n' 4 (([v0, v1, v2, v3, v4].drop 4).take (Try.prog.cellsOf 4)) = xs[4]? := hf 4 _ rfl
  obtain ⟨x0, x1, x2, x3, x4, rfl⟩ := list5 hxl
  simp only [cI, cL, cB, List.drop_zero, List.take_succ_cons, List.take_zero, List.drop_succ_cons, List.getElem?_cons_zero, List.getElem?_cons_succ] at g0 g1 g2 g3 g4
  obtain ⟨y0, e0, _, w0⟩ := DataW.trod_int Try.underlying2 g0
  obtain ⟨y1, e1, _, w1⟩ := DataW.trod_int Try.underlying2 g1
  obtain ⟨y2, e2, _, w2⟩ := DataW.trod_int Try.underlying3 g2
  obtain ⟨y3, e3, _, w3⟩ := DataW.trod_int Try.underlying3 g3
  obtain ⟨y4, e4, _⟩ := DataW.trod_bool Try.underlying4 g4
  simp only [List.cons.injEq, and_true] at e0 e1 e2 e3 e4
  subst e0 e1 e2 e3 e4
  exact ⟨⟨y0, y1, y2, y3, y4⟩, rfl, ⟨wf_i64 w0, wf_i64 w1, wf_i64 w2, wf_i64 w3⟩⟩

/-- Numbers, bools, that lie in memory. -/
def Lgs (W : World) (a : Option Addr) (n : Nat) (z : Nat → Int) : Prop :=
  (∀ i, I6 (z i)) ∧ (n = 0 ∨ ∃ b o, a = some ⟨b, o, none⟩ ∧ b < W.heap.size ∧ ∀ i, i < n → W.cell? ⟨b, o + i, none⟩ = some (.int .i64 (z i)))
def Bls (W : World) (a : Option Addr) (n : Nat) (z : Nat → Bool) : Prop :=
  n = 0 ∨ ∃ b o, a = some ⟨b, o, none⟩ ∧ b < W.heap.size ∧ ∀ i, i < n → W.cell? ⟨b, o + i, none⟩ = some (.bool (z i))
theorem Lgs.below {W W' : World} {a : Option Addr} {n : Nat} {z : Nat → Int} (h : Lgs W a n z) (b : Below W.heap.size W W') : Lgs W' a n z :=
  ⟨h.1, h.2.imp id fun ⟨g, o, e, hg, hc⟩ => ⟨g, o, e, Nat.lt_of_lt_of_le hg b.size, fun i hi => (b.cell hg).trans (hc i hi)⟩⟩
theorem Bls.below {W W' : World} {a : Option Addr} {n : Nat} {z : Nat → Bool} (h : Bls W a n z) (b : Below W.heap.size W W') : Bls W' a n z :=
  h.imp id fun ⟨g, o, e, hg, hc⟩ => ⟨g, o, e, Nat.lt_of_lt_of_le hg b.size, fun i hi => (b.cell hg).trans (hc i hi)⟩

set_option maxRecDepth 100000 in
theorem view_longs {H : Type} {enc : TypeId × Value → H} {W : World} {a : Option Addr} {len cap : Nat} {d : DataW H} {p : List MemPlace}
    (h : DataW.Trod enc Try.prog W 0 (fun _ => true) true 49 (.slice a len cap) d p) :
    len ≤ cap ∧ cap ≤ maxLen ∧ ∃ z, Lgs W a len z := by
  obtain ⟨fuel, hf⟩ := h
  rcases open_ints Try.underlying49 Try.underlying2 cL hf with ⟨hcs, _⟩ | ⟨ad, l, c, zs, hcs, _, hl, hm, hz, hx, hcell, hwz⟩
  · simp [Value.cells] at hcs
    obtain ⟨rfl, rfl, rfl⟩ := hcs
    exact ⟨Nat.le_refl _, by unfold maxLen; omega, fun _ => 0, fun _ => (show I6 0 from ⟨by decide, by decide⟩), .inl rfl⟩
  · simp [Value.cells] at hcs
    obtain ⟨rfl, rfl, rfl⟩ := hcs
    simp only [if_true] at hz
    refine ⟨hl, hm, fun i => zs.getD i 0, fun i => ?_, ?_⟩
    · show I6 (zs.getD i 0)
      rw [List.getD_eq_getElem?_getD]
      cases he : zs[i]? with
      | none => exact ⟨by decide, by decide⟩
      | some v => exact wf_i64 (hwz v (List.mem_of_getElem? he))
    · by_cases c0 : len = 0
      · exact .inl c0
      · obtain ⟨b, off, spot⟩ := ad
        have hc := hcell 0 (by omega)
        have hs : spot = none := by simpa [Addr.add] using World.cell?_spot hc
        subst hs
        refine .inr ⟨b, off, rfl, ?_, fun i hi => ?_⟩
        · rw [add_none] at hc
          exact World.block_lt_of_cell? W _ hc
        · have h1 := hcell i (by omega)
          rw [add_none] at h1
          exact h1

set_option maxRecDepth 100000 in
theorem view_bools {H : Type} {enc : TypeId × Value → H} {W : World} {a : Option Addr} {len cap : Nat} {d : DataW H} {p : List MemPlace}
    (h : DataW.Trod enc Try.prog W 0 (fun _ => true) true 54 (.slice a len cap) d p) :
    len ≤ cap ∧ cap ≤ maxLen ∧ ∃ z, Bls W a len z := by
  obtain ⟨fuel, hf⟩ := h
  rcases Deep.open_slice Try.underlying54 hf with ⟨hcs, _⟩ | ⟨ad, l, c, m, n, D, Pl, hcs, _, hl, hmx, hm, hx, hcell⟩
  · simp [Value.cells] at hcs
    obtain ⟨_, rfl, rfl⟩ := hcs
    exact ⟨Nat.le_refl _, Nat.zero_le _, fun _ => false, .inl rfl⟩
  · simp [Value.cells] at hcs
    obtain ⟨rfl, rfl, rfl⟩ := hcs
    refine ⟨hl, hmx, ?_⟩
    simp only [if_true] at hm
    subst hm
    rw [cB] at hcell
    obtain ⟨b, off, spot⟩ := ad
    have hone : ∀ i, i < len → ∃ y : Bool, W.cell? ((⟨b, off, spot⟩ : Addr).add i) = some (.bool y) := fun i hi => by
      obtain ⟨cs', h1, h2⟩ := hcell i (by omega)
      obtain ⟨y, rfl, _⟩ := DataW.trod_bool Try.underlying4 h2
      rw [Nat.mul_one] at h1
      have hr : List.range 1 = [0] := rfl
      simp only [World.cells?, Nat.zero_le, if_true, hr] at h1
      simp [List.mapM_cons, Option.bind_eq_some_iff] at h1
      exact ⟨y, h1⟩
    by_cases c0 : len = 0
    · exact ⟨fun _ => false, .inl c0⟩
    · have hs : spot = none := by
        obtain ⟨y, h1⟩ := hone 0 (by omega)
        simpa [Addr.add] using World.cell?_spot h1
      subst hs
      refine ⟨fun i => if hi : i < len then Classical.choose (hone i hi) else false, .inr ⟨b, off, rfl, ?_, fun i hi => ?_⟩⟩
      · obtain ⟨y, h1⟩ := hone 0 (by omega)
        rw [add_none] at h1
        exact World.block_lt_of_cell? W _ h1
      · simp only [dif_pos hi]
        have h1 := Classical.choose_spec (hone i hi)
        generalize Classical.choose (hone i hi) = y at h1
        rw [add_none] at h1
        exact h1

end Go.Proofs.Ytjpglfnmapncmaa.Wnv
