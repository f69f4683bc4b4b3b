/-
  From the reading of steps (a slice of them), as an argument of a law, to what lies in memory: each number fits its kind, each text is of at most 2^47 bytes, each slice of texts or numbers lies there. No Go text is in sight.
-/
import Derived.Test.YthmholgfnjpgbaaGreatActV
import Derived.Test.YthmholgfnjpgbaaGreatArL
namespace Go.Proofs.YthmholgfnjpgbaaGreat.Wsp
open Go.ChangeShapes Go.WideShapes Go.ChangeAt Go.RowKit Go.Proofs.YthmholgfnjpgbaaGreat.M Go.Proofs.YthmholgfnjpgbaaGreat.Wv

/-- A step. -/
structure Sv where
  what : Int
  body : ByteArray
  ba : Option Addr
  bn : Nat
  bc : Nat
  y : Nat → ByteArray
  on : Av
structure Sv.ok (W : World) (A : Sv) : Prop where
  what : I64 A.what
  body : A.body.size ≤ 140737488355328
  y : ∀ i, (A.y i).size ≤ maxLen
  bc : A.bn ≤ A.bc
  mx : A.bc ≤ maxLen
  lie : War.Lies W A.ba A.bn A.y
  on : A.on.ok W
def Sv.cells (A : Sv) : List Value := [.int .i64 A.what, .string A.body, .slice A.ba A.bn A.bc, .int .i64 A.on.act, .int .i64 A.on.reg, .int .i64 A.on.sec, .int .i64 A.on.num, .string A.on.data, .slice A.on.ka A.on.K.length A.on.kc]

theorem cellsT : Tryz.prog.cellsOf 45 = 9 := by kernel_rfl
theorem cT : Tryz.prog.cellsOf 31 = 1 := by kernel_rfl

theorem list9 {α : Type} {l : List α} (h : l.length = 9) : ∃ a b c d e f g i j, l = [a, b, c, d, e, f, g, i, j] := by
  match l, h with
  | [a, b, c, d, e, f, g, i, j], _ => exact ⟨a, b, c, d, e, f, g, i, j, rfl⟩
theorem list4 {α : Type} {l : List α} (h : l.length = 4) : ∃ a b c d, l = [a, b, c, d] := by
  match l, h with
  | [a, b, c, d], _ => exact ⟨a, b, c, d, rfl⟩

set_option maxRecDepth 100000 in
/-- A slice of texts that is read. -/
theorem view_texts {H : Type} {enc : TypeId × Value → H} {W : World} {n : Nat} {v : Value} {D : DataW H} {p : List MemPlace}
    (h : DataW.trod enc Tryz.prog W 0 (fun _ => true) true n 31 [v] = some (D, p)) :
    ∃ a len cap y, v = .slice a len cap ∧ (∀ i, (y i).size ≤ maxLen) ∧ len ≤ cap ∧ cap ≤ maxLen ∧ War.Lies W a len y := by
  have hv : ∃ a len cap, v = .slice a len cap := by
    rcases open_strings Tryz.underlying31 Tryz.underlying9 Wv.cS h with ⟨hcs, _⟩ | ⟨ad, l, c, ss, hcs, _⟩
    · simp at hcs
      exact ⟨none, 0, 0, hcs⟩
    · simp at hcs
      exact ⟨some ad, l, c, hcs⟩
  obtain ⟨a, len, cap, rfl⟩ := hv
  obtain ⟨y, h1, h2, h3, h4⟩ := War.view_strs (W := W) (a := a) (len := len) (cap := cap) (d := D) (p := p) ⟨n, h⟩
  exact ⟨a, len, cap, y, rfl, h1, h2, h3, h4⟩

set_option maxRecDepth 100000 in
/-- One step. -/
theorem view_step {H : Type} {enc : TypeId × Value → H} {W : World} {n : Nat} {cs : List Value} {D : DataW H} {p : List MemPlace} (h : DataW.trod enc Tryz.prog W 0 (fun _ => true) true n 45 cs = some (D, p)) (hw : ∀ x ∈ D.weights Tryz.prog 45, x ≤ reachBytes) :
    ∃ A : Sv, cs = A.cells ∧ A.ok W := by
  obtain ⟨xs, n', _, hx, hl, hxl, hf⟩ := DataW.trod_struct Tryz.underlying45 h
  rw [cellsT] at hl
  obtain ⟨v0, v1, v2, v3, v4, v5, v6, v7, v8, rfl⟩ := list9 hl
  have g0 : DataW.trod enc Tryz.prog W 0 (fun _ => true) true n' 3 (([v0, v1, v2, v3, v4, v5, v6, v7, v8].drop 0).take (Tryz.prog.cellsOf 3)) = xs[0]? := hf 0 _ rfl
  have g1 : DataW.trod enc Tryz.prog W 0 (fun _ => true) true n' 9 (([v0, v1, v2, v3, v4, v5, v6, v7, v8].drop 1).take (Tryz.prog.cellsOf 9)) = xs[1]? := hf 1 _ rfl
  have g2 : DataW.trod enc Tryz.prog W 0 (fun _ => true) true n' 31 (([v0, v1, v2, v3, v4, v5, v6, v7, v8].drop 2).take (Tryz.prog.cellsOf 31)) = xs[2]? := hf 2 _ rfl
  have g3 : DataW.trod enc Tryz.prog W 0 (fun _ => true) true n' 43 (([v0, v1, v2, v3, v4, v5, v6, v7, v8].drop 3).take (Tryz.prog.cellsOf 43)) = xs[3]? := hf 3 _ rfl
  obtain ⟨x0, x1, x2, x3, rfl⟩ := list4 hxl
  simp only [Wv.cI, Wv.cS, cT, cellsA, List.drop_zero, List.take_succ_cons, List.take_zero, List.drop_succ_cons, List.getElem?_cons_zero, List.getElem?_cons_succ] at g0 g1 g2 g3
  have hD : D = .agg [x0.1, x1.1, x2.1, x3.1] := by simp only [Prod.mk.injEq] at hx; exact hx.1
  obtain ⟨y0, e0, _, w0⟩ := DataW.trod_int Tryz.underlying3 g0
  obtain ⟨s, e1, ex1, _⟩ := DataW.trod_string Tryz.underlying9 g1
  obtain ⟨ba, bn, bc, y, e2, hy, hb, hm, hL⟩ := view_texts (D := x2.1) (p := x2.2) g2
  obtain ⟨A, e3, hA⟩ := view_act (D := x3.1) (p := x3.2) g3 (fun x hxm => hw x (by
    rw [hD]
    simp only [DataW.weights, Tryz.underlying45, List.map_cons, List.map_nil, DataW.weightsEach, List.mem_append]
    right; right; right; left
    exact hxm))
  simp only [List.cons.injEq, and_true] at e0 e1
  simp only [Av.cells, List.cons.injEq, and_true] at e3
  obtain ⟨q3, q4, q5, q6, q7, q8⟩ := e3
  subst e0 e1 e2 q3 q4 q5 q6 q7 q8
  refine ⟨⟨y0, s, ba, bn, bc, y, A⟩, rfl, ⟨wf_i64 w0, ?_, hy, hb, hm, hL, hA⟩⟩
  have := hw s.size (by
    rw [hD]
    simp only [DataW.weights, Tryz.underlying45, List.map_cons, List.map_nil, DataW.weightsEach, List.mem_append]
    right; left
    rw [ex1]
    simp only [DataW.weights, List.mem_singleton]
    exact Array.length_toList.symm)
  unfold reachBytes at this
  show s.size ≤ _
  omega

/-- Nine cells, one behind the other. -/
theorem cells9 {W : World} {b off : Nat} {spot : Option Nat} {v0 v1 v2 v3 v4 v5 v6 v7 v8 : Value} (h : W.cells? 0 ⟨b, off, spot⟩ 9 = some [v0, v1, v2, v3, v4, v5, v6, v7, v8]) : spot = none ∧ ∀ t v, [v0, v1, v2, v3, v4, v5, v6, v7, v8][t]? = some v → W.cell? ⟨b, off + t, none⟩ = some v := by
  have hr : List.range 9 = [0, 1, 2, 3, 4, 5, 6, 7, 8] := rfl
  simp only [World.cells?, Nat.zero_le, if_true, hr] at h
  simp [List.mapM_cons, Option.bind_eq_some_iff] at h
  obtain ⟨h0, h1, h2, h3, h4, h5, h6, h7, h8⟩ := h
  have hs : spot = none := by simpa [Addr.add] using World.cell?_spot h0
  subst hs
  rw [add_none] at h0 h1 h2 h3 h4 h5 h6 h7 h8
  refine ⟨rfl, fun t v hv => ?_⟩
  match t, hv with
  | 0, hv => simp at hv; subst hv; exact h0
  | 1, hv => simp at hv; subst hv; exact h1
  | 2, hv => simp at hv; subst hv; exact h2
  | 3, hv => simp at hv; subst hv; exact h3
  | 4, hv => simp at hv; subst hv; exact h4
  | 5, hv => simp at hv; subst hv; exact h5
  | 6, hv => simp at hv; subst hv; exact h6
  | 7, hv => simp at hv; subst hv; exact h7
  | 8, hv => simp at hv; subst hv; exact h8
  | t + 9, hv => simp at hv

/-- Steps that lie in memory. -/
def Steps (W : World) (a : Option Addr) (len : Nat) (A : Nat → Sv) : Prop :=
  (∀ i, i < len → (A i).ok W) ∧ (len = 0 ∨ ∃ b o, a = some ⟨b, o, none⟩ ∧ b < W.heap.size ∧ ∀ i, i < len → ∀ t v, (A i).cells[t]? = some v → W.cell? ⟨b, o + i * 9 + t, none⟩ = some v)
def noS : Sv := ⟨0, ⟨#[]⟩, none, 0, 0, fun _ => ⟨#[]⟩, ⟨0, 0, 0, 0, ⟨#[]⟩, none, [], 0⟩⟩

set_option maxRecDepth 100000 in
theorem view_steps {H : Type} {enc : TypeId × Value → H} {W : World} {a : Option Addr} {len cap : Nat} {d : DataW H} {p : List MemPlace}
    (h : DataW.Trod enc Tryz.prog W 0 (fun _ => true) true 22 (.slice a len cap) d p) (hw : ∀ x ∈ d.weights Tryz.prog 22, x ≤ reachBytes) :
    len ≤ cap ∧ cap ≤ maxLen ∧ ∃ A, Steps W a len A := by
  obtain ⟨fuel, hf⟩ := h
  rcases Deep.open_slice Tryz.underlying22 hf with ⟨hcs, _⟩ | ⟨ad, l, c, m, n, D, Pl, hcs, _, hl, hmx, hm, hx, hcell⟩
  · simp [Value.cells] at hcs
    obtain ⟨_, rfl, rfl⟩ := hcs
    exact ⟨Nat.le_refl _, Nat.zero_le _, fun _ => noS, fun i hi => absurd hi (by omega), .inl rfl⟩
  · simp [Value.cells] at hcs
    obtain ⟨rfl, rfl, rfl⟩ := hcs
    refine ⟨hl, hmx, ?_⟩
    simp only [if_true] at hm
    subst hm
    rw [cellsT] at hcell
    obtain ⟨b, off, spot⟩ := ad
    simp only [Prod.mk.injEq] at hx
    obtain ⟨hd, _⟩ := hx
    have hone : ∀ i, i < len → ∃ A : Sv, W.cells? 0 ((⟨b, off, spot⟩ : Addr).add (i * 9)) 9 = some A.cells ∧ A.ok W := fun i hi => by
      obtain ⟨cs', h1, h2⟩ := hcell i (by omega)
      obtain ⟨A, rfl, hA⟩ := view_step h2 (fun x hxm => hw x (by
        rw [hd]
        simp only [DataW.weights, Tryz.underlying22, List.mem_cons, List.mem_append]
        right; left
        exact mem_all (List.mem_map.2 ⟨i, by simp [hi], rfl⟩) hxm))
      exact ⟨A, h1, hA⟩
    refine ⟨fun i => if hi : i < len then Classical.choose (hone i hi) else noS, fun i hi => ?_, ?_⟩
    · simp only [dif_pos hi]
      exact (Classical.choose_spec (hone i hi)).2
    · by_cases c0 : len = 0
      · exact .inl c0
      · right
        have hs : spot = none := by
          obtain ⟨A, h1, _⟩ := hone 0 (by omega)
          rw [Nat.zero_mul, add_0] at h1
          exact (cells9 h1).1
        subst hs
        have key : ∀ i (hi : i < len), ∀ t v, (Classical.choose (hone i hi)).cells[t]? = some v → W.cell? ⟨b, off + i * 9 + t, none⟩ = some v := fun i hi t v hv => by
          have h1 := (Classical.choose_spec (hone i hi)).1
          generalize Classical.choose (hone i hi) = A at h1 hv
          rw [add_none] at h1
          exact (cells9 h1).2 t v hv
        refine ⟨b, off, rfl, ?_, fun i hi t v hv => ?_⟩
        · exact World.block_lt_of_cell? W _ (key 0 (by omega) 0 _ rfl)
        · simp only [dif_pos hi] at hv
          exact key i hi t v hv

end Go.Proofs.YthmholgfnjpgbaaGreat.Wsp
