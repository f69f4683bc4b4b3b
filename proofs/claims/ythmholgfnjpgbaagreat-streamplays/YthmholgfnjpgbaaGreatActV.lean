/-
  From the reading of acts (one, or a slice of them), of sizes and of numbers, as arguments of a law, to what lies in memory: each number fits its kind, each text is of at most 2^47 bytes, each slice of numbers lies there. No Go text is in sight.
-/
import Derived.Test.YthmholgfnjpgbaaGreatDa
import Derived.Deep.Slices
import Derived.SizedLaws
namespace Go.Proofs.YthmholgfnjpgbaaGreat.Wv
open Go.ChangeShapes Go.WideShapes Go.ChangeAt Go.RowKit Go.Proofs.YthmholgfnjpgbaaGreat.M

/-- An act. -/
structure Av where
  act : Int
  reg : Int
  sec : Int
  num : Int
  data : ByteArray
  ka : Option Addr
  K : List Int
  kc : Nat

def I64 (n : Int) : Prop := -9223372036854775808 ≤ n ∧ n < 9223372036854775808

/-- Numbers that lie in memory. -/
structure Ns (W : World) (ka : Option Addr) (K : List Int) (kc : Nat) : Prop where
  k64 : K64 K
  size : K.length * 8 ≤ 140737488351232
  cap : K.length ≤ kc
  nil : ka = none → K = []
  at_ : K = [] ∨ ∃ b o, ka = some ⟨b, o, none⟩ ∧ b < W.heap.size ∧ ∀ j, j < K.length → W.cell? ⟨b, o + j, none⟩ = some (.int .u64 (K.getD j 0))

structure Av.ok (W : World) (A : Av) : Prop where
  act : I64 A.act
  reg : I64 A.reg
  sec : I64 A.sec
  num : I64 A.num
  data : A.data.size ≤ 140737488355328
  ns : Ns W A.ka A.K A.kc

def Av.cells (A : Av) : List Value := [.int .i64 A.act, .int .i64 A.reg, .int .i64 A.sec, .int .i64 A.num, .string A.data, .slice A.ka A.K.length A.kc]

theorem cellsA : Tryz.prog.cellsOf 43 = 6 := by kernel_rfl
theorem cI : Tryz.prog.cellsOf 3 = 1 := by kernel_rfl
theorem cS : Tryz.prog.cellsOf 9 = 1 := by kernel_rfl
theorem cN : Tryz.prog.cellsOf 41 = 1 := by kernel_rfl
theorem cU : Tryz.prog.cellsOf 135 = 1 := by kernel_rfl
theorem bU : Tryz.prog.bytesOf 135 = 8 := by kernel_rfl

theorem add_none (b off i : Nat) : (⟨b, off, none⟩ : Addr).add i = ⟨b, off + i, none⟩ := by
  unfold Addr.add
  split
  · rename_i h; rw [h, Nat.add_zero]
  · simp

theorem add_0 (a : Addr) : a.add 0 = a := by
  unfold Addr.add
  rfl

theorem list6 {α : Type} {l : List α} (h : l.length = 6) : ∃ a b c d e f, l = [a, b, c, d, e, f] := by
  match l, h with
  | [a, b, c, d, e, f], _ => exact ⟨a, b, c, d, e, f, rfl⟩

theorem mem_all {H : Type} {P : Program} {e : TypeId} : ∀ {l : List (DataW H)} {d : DataW H} {n : Nat}, d ∈ l → n ∈ d.weights P e → n ∈ DataW.weightsAll P e l
  | [], _, _, h, _ => by cases h
  | x :: r, d, n, h, hn => by
    simp only [DataW.weightsAll, List.mem_append]
    rcases List.mem_cons.1 h with rfl | h
    · exact .inl hn
    · exact .inr (mem_all h hn)

set_option maxRecDepth 100000 in
/-- A slice of numbers that is read. -/
theorem view_nums {H : Type} {enc : TypeId × Value → H} {W : World} {n : Nat} {v : Value} {D : DataW H} {p : List MemPlace}
    (h : DataW.trod enc Tryz.prog W 0 (fun _ => true) true n 41 [v] = some (D, p)) (hw : ∀ x ∈ D.weights Tryz.prog 41, x ≤ reachBytes) :
    ∃ ka K kc, v = .slice ka K.length kc ∧ Ns W ka K kc := by
  rcases open_ints Tryz.underlying41 Tryz.underlying135 cU h with ⟨hcs, _⟩ | ⟨ad, l, c, zs, hcs, _, hl, hm, hz, hx, hcell, hwz⟩
  · simp at hcs
    exact ⟨none, [], 0, hcs, ⟨fun x hx => by (cases hx), by simp, by simp, fun _ => rfl, .inl rfl⟩⟩
  · simp at hcs
    simp only [if_true] at hz
    have hlz : (zs.take l).length = l := by rw [List.length_take]; omega
    refine ⟨some ad, zs.take l, c, by rw [hlz]; exact hcs, ⟨fun x hx => wf_u64 (hwz x (List.mem_of_mem_take hx)), ?_, by omega, fun e => (by cases e), ?_⟩⟩
    · have hD : D = .slice (lits .u64 (zs.take l)) (lits .u64 (zs.drop l)) := by simp only [Prod.mk.injEq] at hx; exact hx.1
      have := hw ((lits (H := H) .u64 (zs.take l)).length * 8 + (lits (H := H) .u64 (zs.drop l)).length * 8) (by
        rw [hD]
        simp only [DataW.weights, Tryz.underlying41, bU, List.mem_cons, List.mem_append]
        left
        omega)
      simp only [lits, List.length_map, hlz, reachBytes] at this
      rw [hlz]
      omega
    · by_cases c0 : l = 0
      · left
        subst c0
        rfl
      · right
        obtain ⟨b, off, spot⟩ := ad
        have hc := hcell 0 (by omega)
        have hs : spot = none := by simpa [Addr.add] using World.cell?_spot hc
        subst hs
        refine ⟨b, off, rfl, ?_, fun i hi => ?_⟩
        · rw [add_none] at hc
          exact World.block_lt_of_cell? W _ hc
        · have h1 := hcell i (by omega)
          rw [add_none] at h1
          rw [h1]
          have : (zs.take l).getD i 0 = zs.getD i 0 := by
            rw [List.getD_eq_getElem?_getD, List.getD_eq_getElem?_getD, List.getElem?_take, if_pos (by omega)]
          rw [this]

set_option maxRecDepth 100000 in
/-- One act. -/
theorem view_act {H : Type} {enc : TypeId × Value → H} {W : World} {n : Nat} {cs : List Value} {D : DataW H} {p : List MemPlace} (h : DataW.trod enc Tryz.prog W 0 (fun _ => true) true n 43 cs = some (D, p)) (hw : ∀ x ∈ D.weights Tryz.prog 43, x ≤ reachBytes) :
    ∃ A : Av, cs = A.cells ∧ A.ok W := by
  obtain ⟨xs, n', _, hx, hl, hxl, hf⟩ := DataW.trod_struct Tryz.underlying43 h
  rw [cellsA] at hl
  obtain ⟨v0, v1, v2, v3, v4, v5, rfl⟩ := list6 hl
  have g0 : DataW.trod enc Tryz.prog W 0 (fun _ => true) true n' 3 (([v0, v1, v2, v3, v4, v5].drop 0).take (Tryz.prog.cellsOf 3)) = xs[0]? := hf 0 _ rfl
  have g1 : DataW.trod enc Tryz.prog W 0 (fun _ => true) true n' 3 (([v0, v1, v2, v3, v4, v5].drop 1).take (Tryz.prog.cellsOf 3)) = xs[1]? := hf 1 _ rfl
  have g2 : DataW.trod enc Tryz.prog W 0 (fun _ => true) true n' 3 (([v0, v1, v2, v3, v4, v5].drop 2).take (Tryz.prog.cellsOf 3)) = xs[2]? := hf 2 _ rfl
  have g3 : DataW.trod enc Tryz.prog W 0 (fun _ => true) true n' 3 (([v0, v1, v2, v3, v4, v5].drop 3).take (Tryz.prog.cellsOf 3)) = xs[3]? := hf 3 _ rfl
  have g4 : DataW.trod enc Tryz.prog W 0 (fun _ => true) true n' 9 (([v0, v1, v2, v3, v4, v5].drop 4).take (Tryz.prog.cellsOf 9)) = xs[4]? := hf 4 _ rfl
  have g5 : DataW.trod enc Tryz.prog W 0 (fun _ => true) true n' 41 (([v0, v1, v2, v3, v4, v5].drop 5).take (Tryz.prog.cellsOf 41)) = xs[5]? := hf 5 _ rfl
  obtain ⟨x0, x1, x2, x3, x4, x5, rfl⟩ := list6 hxl
  simp only [cI, cS, cN, List.drop_zero, List.take_succ_cons, List.take_zero, List.drop_succ_cons, List.getElem?_cons_zero, List.getElem?_cons_succ] at g0 g1 g2 g3 g4 g5
  have hD : D = .agg [x0.1, x1.1, x2.1, x3.1, x4.1, x5.1] := by simp only [Prod.mk.injEq] at hx; exact hx.1
  obtain ⟨y0, e0, _, w0⟩ := DataW.trod_int Tryz.underlying3 g0
  obtain ⟨y1, e1, _, w1⟩ := DataW.trod_int Tryz.underlying3 g1
  obtain ⟨y2, e2, _, w2⟩ := DataW.trod_int Tryz.underlying3 g2
  obtain ⟨y3, e3, _, w3⟩ := DataW.trod_int Tryz.underlying3 g3
  obtain ⟨s, e4, ex4, _⟩ := DataW.trod_string Tryz.underlying9 g4
  obtain ⟨ka, K, kc, e5, hns⟩ := view_nums (D := x5.1) (p := x5.2) g5 (fun x hxm => hw x (by
    rw [hD]
    simp only [DataW.weights, Tryz.underlying43, List.map_cons, List.map_nil, DataW.weightsEach, List.mem_append]
    right; right; right; right; right; left
    exact hxm))
  simp only [List.cons.injEq, and_true] at e0 e1 e2 e3 e4
  subst e0 e1 e2 e3 e4 e5
  refine ⟨⟨y0, y1, y2, y3, s, ka, K, kc⟩, rfl, ⟨wf_i64 w0, wf_i64 w1, wf_i64 w2, wf_i64 w3, ?_, hns⟩⟩
  have := hw s.size (by
    rw [hD]
    simp only [DataW.weights, Tryz.underlying43, List.map_cons, List.map_nil, DataW.weightsEach, List.mem_append]
    right; right; right; right; left
    rw [ex4]
    simp only [DataW.weights, List.mem_singleton]
    exact Array.length_toList.symm)
  unfold reachBytes at this
  show s.size ≤ _
  omega

set_option maxRecDepth 100000 in
/-- An act that is a value. -/
theorem view_actv {H : Type} {enc : TypeId × Value → H} {W : World} {base : Nat} {v : Value} {d : DataW H} {p : List MemPlace} (ho : Value.okWide Tryz.prog W .any base 43 v)
    (h : DataW.Trod enc Tryz.prog W 0 (fun _ => true) true 43 v d p) (hw : ∀ x ∈ d.weights Tryz.prog 43, x ≤ reachBytes) :
    ∃ A : Av, v = .agg A.cells.toArray ∧ A.ok W := by
  obtain ⟨cs, rfl, _⟩ := okWide_struct Tryz.underlying43 ho
  obtain ⟨fuel, hf⟩ := h
  obtain ⟨A, e, hA⟩ := view_act hf hw
  refine ⟨A, ?_, hA⟩
  have e' : cs.toList = A.cells := by simpa [Value.cells] using e
  rw [← e']

/-- Six cells, one behind the other. -/
theorem cells6 {W : World} {b off : Nat} {spot : Option Nat} {v0 v1 v2 v3 v4 v5 : Value} (h : W.cells? 0 ⟨b, off, spot⟩ 6 = some [v0, v1, v2, v3, v4, v5]) : spot = none ∧ ∀ t v, [v0, v1, v2, v3, v4, v5][t]? = some v → W.cell? ⟨b, off + t, none⟩ = some v := by
  have hr : List.range 6 = [0, 1, 2, 3, 4, 5] := rfl
  simp only [World.cells?, Nat.zero_le, if_true, hr] at h
  simp [List.mapM_cons, Option.bind_eq_some_iff] at h
  obtain ⟨h0, h1, h2, h3, h4, h5⟩ := h
  have hs : spot = none := by simpa [Addr.add] using World.cell?_spot h0
  subst hs
  rw [add_none] at h0 h1 h2 h3 h4 h5
  refine ⟨rfl, fun t v hv => ?_⟩
  match t, hv with
  | 0, hv => simp at hv; subst hv; exact h0
  | 1, hv => simp at hv; subst hv; exact h1
  | 2, hv => simp at hv; subst hv; exact h2
  | 3, hv => simp at hv; subst hv; exact h3
  | 4, hv => simp at hv; subst hv; exact h4
  | 5, hv => simp at hv; subst hv; exact h5
  | t + 6, hv => simp at hv

/-- Acts that lie in memory. -/
def Acts (W : World) (a : Option Addr) (len : Nat) (A : Nat → Av) : Prop :=
  (∀ i, i < len → (A i).ok W) ∧ (len = 0 ∨ ∃ b o, a = some ⟨b, o, none⟩ ∧ b < W.heap.size ∧ ∀ i, i < len → ∀ t v, (A i).cells[t]? = some v → W.cell? ⟨b, o + i * 6 + t, none⟩ = some v)

set_option maxRecDepth 100000 in
/-- Sizes that lie in memory. -/
theorem view_sizes {H : Type} {enc : TypeId × Value → H} {W : World} {a : Option Addr} {len cap : Nat} {d : DataW H} {p : List MemPlace}
    (h : DataW.Trod enc Tryz.prog W 0 (fun _ => true) true 27 (.slice a len cap) d p) (hw : ∀ x ∈ d.weights Tryz.prog 27, x ≤ reachBytes) :
    len ≤ cap ∧ len ≤ 140737488355328 ∧ ∃ z : Nat → Int, (∀ i, I64 (z i)) ∧ ∀ j, j < len → ∃ b o, a = some ⟨b, o, none⟩ ∧ b < W.heap.size ∧ W.cell? ⟨b, o + j, none⟩ = some (.int .i64 (z j)) := by
  obtain ⟨fuel, hf⟩ := h
  rcases open_ints Tryz.underlying27 Tryz.underlying3 cI hf with ⟨hcs, _⟩ | ⟨ad, l, c, zs, hcs, _, hl, hm, hz, hx, hcell, hwz⟩
  · simp [Value.cells] at hcs
    obtain ⟨rfl, rfl, rfl⟩ := hcs
    exact ⟨Nat.le_refl _, by omega, fun _ => 0, fun _ => (show I64 0 from ⟨by decide, by decide⟩), fun j hj => absurd hj (by omega)⟩
  · simp [Value.cells] at hcs
    obtain ⟨rfl, rfl, rfl⟩ := hcs
    simp only [if_true] at hz
    have hlz : (zs.take len).length = len := by rw [List.length_take]; omega
    have hD : d = .slice (lits .i64 (zs.take len)) (lits .i64 (zs.drop len)) := by simp only [Prod.mk.injEq] at hx; exact hx.1
    have bI : Tryz.prog.bytesOf 3 = 8 := by kernel_rfl
    have hwt := hw ((lits (H := H) .i64 (zs.take len)).length * 8 + (lits (H := H) .i64 (zs.drop len)).length * 8) (by
      rw [hD]
      simp only [DataW.weights, Tryz.underlying27, bI, List.mem_cons, List.mem_append]
      left
      omega)
    simp only [lits, List.length_map, hlz, reachBytes] at hwt
    refine ⟨hl, by omega, fun i => zs.getD i 0, fun i => ?_, fun j hj => ?_⟩
    · show I64 (zs.getD i 0)
      rw [List.getD_eq_getElem?_getD]
      cases he : zs[i]? with
      | none => exact ⟨by decide, by decide⟩
      | some v => exact wf_i64 (hwz v (List.mem_of_getElem? he))
    · obtain ⟨b, off, spot⟩ := ad
      have hc := hcell 0 (by omega)
      have hs : spot = none := by simpa [Addr.add] using World.cell?_spot hc
      subst hs
      refine ⟨b, off, rfl, ?_, ?_⟩
      · rw [add_none] at hc
        exact World.block_lt_of_cell? W _ hc
      · have h1 := hcell j (by omega)
        rw [add_none] at h1
        exact h1

/-- Numbers for reading, whatever the call's own memory is. -/
theorem Ns.kr {W w : World} {ka : Option Addr} {K : List Int} {kc : Nat} (h : Ns W ka K kc) {F : Nat → Prop} (b : Below W.heap.size W w) (hF : ∀ i, F i → W.heap.size ≤ i) : Wd.KR F w ka K := by
  rcases h.at_ with h0 | ⟨g, o, h1, h2, h3⟩
  · exact .inl h0
  · by_cases c0 : K = []
    · exact .inl c0
    · have hp : 0 < K.length := List.length_pos_iff.2 c0
      have c := h3 0 hp
      obtain ⟨cs, T, fr, e⟩ : ∃ cs T fr, W.heap[g]? = some (.cells cs T fr) := by
        unfold World.cell? at c
        simp only at c
        cases hg : W.heap[g]? with
        | none => simp [hg] at c
        | some o' =>
          cases o' with
          | cells cs T fr => exact ⟨cs, T, fr, rfl⟩
          | _ => simp [hg] at c
      refine .inr ⟨g, o, cs, T, fr, h1, (b.block g h2).trans e, .inl (fun hg => by have := hF g hg; omega), fun j hj => ?_⟩
      have := h3 j hj
      simpa [World.cell?, e] using this

end Go.Proofs.YthmholgfnjpgbaaGreat.Wv
