/-
  A workflow that is read, as an argument of a law: its nodes lie in memory, each with its Deps, each number fits its kind, each text is of at most 2^47 bytes. No Go text is in sight.
-/
import Derived.Test.YtainajjklakaeaaGpI
import Derived.Deep.Slices
import Derived.SizedLaws
namespace Go.Proofs.Ytainajjklakaeaa.Wgv
open Go.ChangeShapes Go.WideShapes Go.ChangeAt Go.RowKit Go.Proofs.Ytainajjklakaeaa.M Go.Proofs.Ytainajjklakaeaa.Wgp

theorem wf64 {x : Int} (h : (Lit.int .i64 x).wf = true) : -9223372036854775808 ≤ x ∧ x < 9223372036854775808 := by
  simp [Lit.wf, IntKind.min, IntKind.max, IntKind.bits, IntKind.signed] at h
  omega
theorem cN : Try.prog.cellsOf 55 = 6 := by kernel_rfl
theorem cF : Try.prog.cellsOf 24 = 2 := by kernel_rfl
theorem cI : Try.prog.cellsOf 3 = 1 := by kernel_rfl
theorem cJ : Try.prog.cellsOf 2 = 1 := by kernel_rfl
theorem cS : Try.prog.cellsOf 9 = 1 := by kernel_rfl
theorem cD : Try.prog.cellsOf 53 = 1 := by kernel_rfl
theorem cM : Try.prog.cellsOf 22 = 1 := by kernel_rfl

theorem add_none (b off i : Nat) : (⟨b, off, none⟩ : Addr).add i = ⟨b, off + i, none⟩ := by
  unfold Addr.add
  split
  · rename_i h; rw [h, Nat.add_zero]
  · simp
theorem add_0 (a : Addr) : a.add 0 = a := by
  unfold Addr.add
  rfl
theorem list2 {α : Type} {l : List α} (h : l.length = 2) : ∃ a b, l = [a, b] := by
  match l, h with
  | [a, b], _ => exact ⟨a, b, rfl⟩
theorem list6 {α : Type} {l : List α} (h : l.length = 6) : ∃ a b c d e f, l = [a, b, c, d, e, f] := by
  match l, h with
  | [a, b, c, d, e, f], _ => exact ⟨a, b, c, d, e, f, rfl⟩
theorem cells1 {W : World} {b off : Nat} {spot : Option Nat} {v : Value} (h : W.cells? 0 ⟨b, off, spot⟩ 1 = some [v]) : spot = none ∧ W.cell? ⟨b, off, none⟩ = some v := by
  have hr : List.range 1 = [0] := rfl
  simp only [World.cells?, Nat.zero_le, if_true, hr] at h
  simp [List.mapM_cons, Option.bind_eq_some_iff] at h
  have hs : spot = none := by simpa [Addr.add] using World.cell?_spot h
  subst hs
  rw [add_none] at h
  exact ⟨rfl, h⟩
theorem cells6 {W : World} {b off : Nat} {spot : Option Nat} {v0 v1 v2 v3 v4 v5 : Value} (h : W.cells? 0 ⟨b, off, spot⟩ 6 = some [v0, v1, v2, v3, v4, v5]) :
    spot = none ∧ W.cell? ⟨b, off, none⟩ = some v0 ∧ W.cell? ⟨b, off + 1, none⟩ = some v1 ∧ W.cell? ⟨b, off + 2, none⟩ = some v2 ∧ W.cell? ⟨b, off + 3, none⟩ = some v3 ∧ W.cell? ⟨b, off + 4, none⟩ = some v4 ∧ W.cell? ⟨b, off + 5, none⟩ = some v5 := by
  have hr : List.range 6 = [0, 1, 2, 3, 4, 5] := rfl
  simp only [World.cells?, Nat.zero_le, if_true, hr] at h
  simp [List.mapM_cons, Option.bind_eq_some_iff] at h
  obtain ⟨h0, h1, h2, h3, h4, h5⟩ := h
  have hs : spot = none := by simpa [Addr.add] using World.cell?_spot h0
  subst hs
  rw [add_none] at h0 h1 h2 h3 h4 h5
  exact ⟨rfl, h0, h1, h2, h3, h4, h5⟩
theorem mem_all {H : Type} {P : Program} {e : TypeId} : ∀ {l : List (DataW H)} {d : DataW H} {n : Nat}, d ∈ l → n ∈ d.weights P e → n ∈ DataW.weightsAll P e l
  | [], _, _, h, _ => by cases h
  | x :: r, d, n, h, hn => by
    simp only [DataW.weightsAll, List.mem_append]
    rcases List.mem_cons.1 h with rfl | h
    · exact .inl hn
    · exact .inr (mem_all h hn)
theorem choose_list {α : Type} {P : Nat → α → Prop} : ∀ {n : Nat}, (∀ i, i < n → ∃ x, P i x) → ∃ L : List α, L.length = n ∧ ∀ (i : Nat) x, L[i]? = some x → P i x
  | 0, _ => ⟨[], rfl, fun i x hx => by simp at hx⟩
  | n + 1, h => by
    obtain ⟨L, h1, h2⟩ := choose_list (n := n) (fun i hi => h i (by omega))
    obtain ⟨y, hy⟩ := h n (by omega)
    refine ⟨L ++ [y], by simp [h1], fun i x hx => ?_⟩
    by_cases c : i < n
    · rw [List.getElem?_append_left (by omega)] at hx
      exact h2 i x hx
    · have hi := (List.getElem?_eq_some_iff.1 hx).1
      rw [List.length_append, List.length_singleton] at hi
      have e : i = n := by omega
      subst e
      rw [List.getElem?_append_right (by omega), h1, Nat.sub_self] at hx
      simp at hx
      subst hx
      exact hy

/-- Texts that lie from a place on. -/
def Lw (W : World) (a : Option Addr) (l : List ByteArray) : Prop := l = [] ∨ ∃ b off, a = some ⟨b, off, none⟩ ∧ b < W.heap.size ∧ ∀ (i : Nat) s, l[i]? = some s → W.cell? ⟨b, off + i, none⟩ = some (.string s)
theorem Lw.below {w w' : World} {a : Option Addr} {l : List ByteArray} (h : Lw w a l) (b : Below w.heap.size w w') : Lw w' a l := by
  rcases h with h | ⟨g, o, h1, h2, h3⟩
  · exact .inl h
  · exact .inr ⟨g, o, h1, Nat.lt_of_lt_of_le h2 b.size, fun i s hs => (b.cell (p := ⟨g, o + i, none⟩) h2).trans (h3 i s hs)⟩

set_option maxRecDepth 100000 in
theorem view_deps {H : Type} {enc : TypeId × Value → H} {W : World} {n : Nat} {cs : List Value} {D : DataW H} {p : List MemPlace} (h : DataW.trod enc Try.prog W 0 (fun _ => true) true n 53 cs = some (D, p)) (hw : ∀ x ∈ D.weights Try.prog 53, x ≤ reachBytes) :
    ∃ (a : Option Addr) (l : List ByteArray) (c : Nat), cs = [.slice a l.length c] ∧ l.length ≤ c ∧ c ≤ maxLen ∧ (∀ s ∈ l, s.size ≤ 140737488355328) ∧ Lw W a l ∧ (a = none → c = 0) := by
  rcases Deep.open_slice Try.underlying53 h with ⟨hcs, _⟩ | ⟨ad, l, c, m, n, D', Pl, hcs, _, hl, hmx, hm, hx, hcell⟩
  · exact ⟨none, [], 0, hcs, Nat.le_refl _, Nat.zero_le _, (fun _ h => by cases h), .inl rfl, fun _ => rfl⟩
  · simp only [if_true] at hm
    subst hm
    rw [cS] at hcell
    obtain ⟨b, off, spot⟩ := ad
    simp only [Prod.mk.injEq] at hx
    obtain ⟨hd, _⟩ := hx
    have hone : ∀ i, i < l → ∃ s : ByteArray, W.cells? 0 ((⟨b, off, spot⟩ : Addr).add (i * 1)) 1 = some [.string s] ∧ s.size ≤ 140737488355328 := fun i hi => by
      obtain ⟨cs', h1, h2⟩ := hcell i (by omega)
      obtain ⟨s, e2, ex2, _⟩ := DataW.trod_string Try.underlying9 h2
      subst e2
      refine ⟨s, h1, ?_⟩
      have := hw s.size (by
        rw [hd]
        simp only [DataW.weights, Try.underlying53, List.mem_cons, List.mem_append]
        right; left
        refine mem_all (List.mem_map.2 ⟨i, by simp [hi], rfl⟩) ?_
        simp only [Prod.mk.injEq] at ex2
        rw [ex2.1]
        simp only [DataW.weights, List.mem_singleton]
        exact Array.length_toList.symm)
      unfold reachBytes at this
      omega
    obtain ⟨L, hL, hP⟩ := choose_list hone
    refine ⟨some ⟨b, off, spot⟩, L, m, by rw [hcs, hL], by omega, hmx, fun s hs => ?_, ?_, fun h => by cases h⟩
    · obtain ⟨i, hi⟩ := List.mem_iff_getElem?.1 hs
      exact (hP i s hi).2
    · by_cases c0 : l = 0
      · exact .inl (List.length_eq_zero_iff.1 (by omega))
      · have hs : spot = none := by
          obtain ⟨s, h1, _⟩ := hone 0 (by omega)
          rw [Nat.zero_mul, add_0] at h1
          exact (cells1 h1).1
        subst hs
        have key : ∀ (i : Nat) s, L[i]? = some s → W.cell? ⟨b, off + i, none⟩ = some (.string s) := fun i s hi => by
          have h1 := (hP i s hi).1
          rw [Nat.mul_one, add_none] at h1
          exact (cells1 h1).2
        refine .inr ⟨b, off, rfl, ?_, key⟩
        have h0 : L[0]? = some L[0] := List.getElem?_eq_getElem (by omega)
        exact World.block_lt_of_cell? W _ (key 0 _ h0)

/-- A node as a law is given it. -/
def VOk (x : Nd) : Prop := x.name.size ≤ 140737488355328 ∧ x.flow.size ≤ 140737488355328 ∧ (∀ s ∈ x.deps, s.size ≤ 140737488355328) ∧
  (-9223372036854775808 ≤ x.tries ∧ x.tries < 9223372036854775808) ∧ (-9223372036854775808 ≤ x.lease ∧ x.lease < 9223372036854775808) ∧ (-9223372036854775808 ≤ x.tenant ∧ x.tenant < 9223372036854775808)
/-- Its Deps as they lie. -/
def VDp (W : World) (x : Nd) (da : Option Addr) (dc : Nat) : Prop := x.deps.length ≤ dc ∧ dc ≤ maxLen ∧ Lw W da x.deps ∧ (da = none → dc = 0)
theorem VDp.below {w w' : World} {x : Nd} {da : Option Addr} {dc : Nat} (h : VDp w x da dc) (b : Below w.heap.size w w') : VDp w' x da dc := ⟨h.1, h.2.1, h.2.2.1.below b, h.2.2.2⟩

set_option maxRecDepth 100000 in
theorem view_node {H : Type} {enc : TypeId × Value → H} {W : World} {n : Nat} {cs : List Value} {D : DataW H} {p : List MemPlace} (h : DataW.trod enc Try.prog W 0 (fun _ => true) true n 55 cs = some (D, p)) (hw : ∀ x ∈ D.weights Try.prog 55, x ≤ reachBytes) :
    ∃ (x : Nd) (da : Option Addr) (dc : Nat), cs = [.string x.name, .slice da x.deps.length dc, .int .i64 x.tries, .int .i64 x.lease, .int .i64 x.tenant, .string x.flow] ∧ VDp W x da dc ∧ VOk x := by
  obtain ⟨xs, n', _, hx, hl, hxl, hf⟩ := DataW.trod_struct Try.underlying55 h
  rw [cN] at hl
  obtain ⟨v0, v1, v2, v3, v4, v5, rfl⟩ := list6 hl
  have g0 : DataW.trod enc Try.prog W 0 (fun _ => true) true n' 9 (([v0, v1, v2, v3, v4, v5].drop 0).take (Try.prog.cellsOf 9)) = xs[0]? := hf 0 _ rfl
  have g1 : DataW.trod enc Try.prog W 0 (fun _ => true) true n' 53 (([v0, v1, v2, v3, v4, v5].drop 1).take (Try.prog.cellsOf 53)) = xs[1]? := hf 1 _ rfl
  have g2 : DataW.trod enc Try.prog W 0 (fun _ => true) true n' 3 (([v0, v1, v2, v3, v4, v5].drop 2).take (Try.prog.cellsOf 3)) = xs[2]? := hf 2 _ rfl
  have g3 : DataW.trod enc Try.prog W 0 (fun _ => true) true n' 2 (([v0, v1, v2, v3, v4, v5].drop 3).take (Try.prog.cellsOf 2)) = xs[3]? := hf 3 _ rfl
  have g4 : DataW.trod enc Try.prog W 0 (fun _ => true) true n' 3 (([v0, v1, v2, v3, v4, v5].drop 4).take (Try.prog.cellsOf 3)) = xs[4]? := hf 4 _ rfl
  have g5 : DataW.trod enc Try.prog W 0 (fun _ => true) true n' 9 (([v0, v1, v2, v3, v4, v5].drop 5).take (Try.prog.cellsOf 9)) = xs[5]? := hf 5 _ rfl
  obtain ⟨x0, x1, x2, x3, x4, x5, rfl⟩ := list6 hxl
  simp only [cI, cJ, cS, cD, List.drop_zero, List.take_succ_cons, List.take_zero, List.drop_succ_cons, List.getElem?_cons_zero, List.getElem?_cons_succ] at g0 g1 g2 g3 g4 g5
  have hD : D = .agg [x0.1, x1.1, x2.1, x3.1, x4.1, x5.1] := by simp only [Prod.mk.injEq] at hx; exact hx.1
  obtain ⟨s, e0, ex0, _⟩ := DataW.trod_string Try.underlying9 g0
  obtain ⟨a, l, c, e1, hlc, hcm, hls, hL, hn⟩ := view_deps (D := x1.1) (p := x1.2) g1 (fun x hx => hw x (by
    rw [hD]
    simp only [DataW.weights, Try.underlying55, List.map_cons, List.map_nil, DataW.weightsEach, List.mem_append]
    right; left
    exact hx))
  obtain ⟨t, e2, _, w2⟩ := DataW.trod_int Try.underlying3 g2
  obtain ⟨le, e3, _, w3⟩ := DataW.trod_int Try.underlying2 g3
  obtain ⟨te, e4, _, w4⟩ := DataW.trod_int Try.underlying3 g4
  obtain ⟨fl, e5, ex5, _⟩ := DataW.trod_string Try.underlying9 g5
  simp only [List.cons.injEq, and_true] at e0 e1 e2 e3 e4 e5
  subst e0 e1 e2 e3 e4 e5
  refine ⟨⟨s, l, t, le, te, fl⟩, a, c, rfl, ⟨hlc, hcm, hL, hn⟩, ?_, ?_, hls, wf64 w2, wf64 w3, wf64 w4⟩
  · have := hw s.size (by
      rw [hD]
      simp only [DataW.weights, Try.underlying55, List.map_cons, List.map_nil, DataW.weightsEach, List.mem_append]
      left
      rw [ex0]
      simp only [DataW.weights, List.mem_singleton]
      exact Array.length_toList.symm)
    unfold reachBytes at this
    exact Nat.le_trans this (by decide)
  · have := hw fl.size (by
      rw [hD]
      simp only [DataW.weights, Try.underlying55, List.map_cons, List.map_nil, DataW.weightsEach, List.mem_append]
      right; right; right; right; right; left
      rw [ex5]
      simp only [DataW.weights, List.mem_singleton]
      exact Array.length_toList.symm)
    unfold reachBytes at this
    exact Nat.le_trans this (by decide)

/-- Nodes that lie from a place on. -/
def Vs (W : World) (a : Option Addr) (L : List Nd) : Prop := (∀ x ∈ L, VOk x) ∧ (L = [] ∨ ∃ b off, a = some ⟨b, off, none⟩ ∧ b < W.heap.size ∧ ∀ (i : Nat) x, L[i]? = some x → ∃ da dc, N6 W b (off + i * 6) x da dc ∧ VDp W x da dc)

set_option maxRecDepth 100000 in
theorem view_nodes {H : Type} {enc : TypeId × Value → H} {W : World} {n : Nat} {cs : List Value} {D : DataW H} {p : List MemPlace} (h : DataW.trod enc Try.prog W 0 (fun _ => true) true n 22 cs = some (D, p)) (hw : ∀ x ∈ D.weights Try.prog 22, x ≤ reachBytes) :
    ∃ (a : Option Addr) (L : List Nd) (c : Nat), cs = [.slice a L.length c] ∧ L.length ≤ c ∧ c ≤ maxLen ∧ Vs W a L := by
  rcases Deep.open_slice Try.underlying22 h with ⟨hcs, _⟩ | ⟨ad, l, c, m, n, D', Pl, hcs, _, hl, hmx, hm, hx, hcell⟩
  · exact ⟨none, [], 0, hcs, Nat.le_refl _, Nat.zero_le _, (fun _ h => by cases h), .inl rfl⟩
  · simp only [if_true] at hm
    subst hm
    rw [cN] at hcell
    obtain ⟨b, off, spot⟩ := ad
    simp only [Prod.mk.injEq] at hx
    obtain ⟨hd, _⟩ := hx
    have hone : ∀ i, i < l → ∃ x : Nd, (∃ da dc, W.cells? 0 ((⟨b, off, spot⟩ : Addr).add (i * 6)) 6 = some [.string x.name, .slice da x.deps.length dc, .int .i64 x.tries, .int .i64 x.lease, .int .i64 x.tenant, .string x.flow] ∧ VDp W x da dc) ∧ VOk x := fun i hi => by
      obtain ⟨cs', h1, h2⟩ := hcell i (by omega)
      obtain ⟨x, da, dc, rfl, h3, h4⟩ := view_node h2 (fun x hxm => hw x (by
        rw [hd]
        simp only [DataW.weights, Try.underlying22, List.mem_cons, List.mem_append]
        right; left
        exact mem_all (List.mem_map.2 ⟨i, by simp [hi], rfl⟩) hxm))
      exact ⟨x, ⟨da, dc, h1, h3⟩, h4⟩
    obtain ⟨L, hL, hP⟩ := choose_list hone
    refine ⟨some ⟨b, off, spot⟩, L, m, by rw [hcs, hL], by omega, hmx, fun x hx => ?_, ?_⟩
    · obtain ⟨i, hi⟩ := List.mem_iff_getElem?.1 hx
      exact (hP i x hi).2
    · by_cases c0 : l = 0
      · exact .inl (List.length_eq_zero_iff.1 (by omega))
      · have hs : spot = none := by
          obtain ⟨x, ⟨da, dc, h1, _⟩, _⟩ := hone 0 (by omega)
          rw [Nat.zero_mul, add_0] at h1
          exact (cells6 h1).1
        subst hs
        have key : ∀ (i : Nat) x, L[i]? = some x → ∃ da dc, N6 W b (off + i * 6) x da dc ∧ VDp W x da dc := fun i x hi => by
          obtain ⟨⟨da, dc, h1, h2⟩, _⟩ := hP i x hi
          rw [add_none] at h1
          exact ⟨da, dc, (cells6 h1).2, h2⟩
        refine .inr ⟨b, off, rfl, ?_, key⟩
        have h0 : L[0]? = some L[0] := List.getElem?_eq_getElem (by omega)
        obtain ⟨da, dc, k, _⟩ := key 0 _ h0
        exact World.block_lt_of_cell? W _ k.1

set_option maxRecDepth 100000 in
/-- A workflow that a law is given. -/
theorem view_flow {H : Type} {enc : TypeId × Value → H} {W : World} {base : Nat} {v : Value} {d : DataW H} {p : List MemPlace} (ho : Value.okWide Try.prog W .any base 24 v)
    (h : DataW.Trod enc Try.prog W 0 (fun _ => true) true 24 v d p) (hw : ∀ x ∈ d.weights Try.prog 24, x ≤ reachBytes) :
    ∃ (nm : ByteArray) (a : Option Addr) (L : List Nd) (c : Nat), v = .agg #[.string nm, .slice a L.length c] ∧ nm.size ≤ 140737488355328 ∧ L.length ≤ c ∧ c ≤ maxLen ∧ Vs W a L := by
  obtain ⟨cs, rfl, _⟩ := okWide_struct Try.underlying24 ho
  obtain ⟨fuel, hf⟩ := h
  obtain ⟨xs, n', _, hx, hl, hxl, hf⟩ := DataW.trod_struct Try.underlying24 hf
  rw [cF] at hl
  have hl2 : cs.toList.length = 2 := by simpa [Value.cells] using hl
  obtain ⟨v0, v1, he⟩ := list2 hl2
  have he' : cs = #[v0, v1] := by rw [← Array.toArray_toList (xs := cs), he]
  subst he'
  have g0 : DataW.trod enc Try.prog W 0 (fun _ => true) true n' 9 (([v0, v1].drop 0).take (Try.prog.cellsOf 9)) = xs[0]? := hf 0 _ rfl
  have g1 : DataW.trod enc Try.prog W 0 (fun _ => true) true n' 22 (([v0, v1].drop 1).take (Try.prog.cellsOf 22)) = xs[1]? := hf 1 _ rfl
  obtain ⟨x0, x1, rfl⟩ := list2 hxl
  simp only [cS, cM, List.drop_zero, List.take_succ_cons, List.take_zero, List.drop_succ_cons, List.getElem?_cons_zero, List.getElem?_cons_succ] at g0 g1
  have hD : d = .agg [x0.1, x1.1] := by simp only [Prod.mk.injEq] at hx; exact hx.1
  obtain ⟨s, e0, ex0, _⟩ := DataW.trod_string Try.underlying9 g0
  obtain ⟨a, L, c, e1, h1, h2, h3⟩ := view_nodes (D := x1.1) (p := x1.2) g1 (fun x hx => hw x (by
    rw [hD]
    simp only [DataW.weights, Try.underlying24, List.map_cons, List.map_nil, DataW.weightsEach, List.mem_append]
    right; left
    exact hx))
  simp only [List.cons.injEq, and_true] at e0 e1
  subst e0 e1
  refine ⟨s, a, L, c, rfl, ?_, h1, h2, h3⟩
  have := hw s.size (by
    rw [hD]
    simp only [DataW.weights, Try.underlying24, List.map_cons, List.map_nil, DataW.weightsEach, List.mem_append]
    left
    rw [ex0]
    simp only [DataW.weights, List.mem_singleton]
    exact Array.length_toList.symm)
  unfold reachBytes at this
  exact Nat.le_trans this (by decide)

end Go.Proofs.Ytainajjklakaeaa.Wgv
