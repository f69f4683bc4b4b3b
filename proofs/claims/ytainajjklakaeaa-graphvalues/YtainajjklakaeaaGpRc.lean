/-
  The contract of Read. Conditions: the value can be read, and has at most 10000 inner ones.
-/
import Derived.Test.YtainajjklakaeaaGpRb
import Derived.Test.YtainajjklakaeaaGpF
namespace Go.Proofs.Ytainajjklakaeaa.Wgr
open Go.ChangeShapes Go.WideShapes Go.ChangeAt Go.RowKit Go.Proofs.Ytainajjklakaeaa.M Go.Proofs.Ytainajjklakaeaa.Wgp

theorem set_take1 (cur : Array Value) (j : Nat) (h : j < cur.size) (a : Value) : (cur.setIfInBounds j a).toList.take (j + 1) = cur.toList.take j ++ [a] := by
  rw [Array.toList_setIfInBounds, List.take_add_one, List.take_set_of_le (Nat.le_refl _), List.getElem?_set_self (by simpa using h)]
  rfl
theorem set6_take (cur : Array Value) (j : Nat) (h : j + 6 ≤ cur.size) (a b c d e f : Value) : ((((((cur.setIfInBounds j a).setIfInBounds (j + 1) b).setIfInBounds (j + 2) c).setIfInBounds (j + 3) d).setIfInBounds (j + 4) e).setIfInBounds (j + 5) f).toList.take (j + 6) = cur.toList.take j ++ [a, b, c, d, e, f] := by
  rw [set_take1 _ (j + 5) (by simp; omega), set_take1 _ (j + 4) (by simp; omega), set_take1 _ (j + 3) (by simp; omega), set_take1 _ (j + 2) (by simp; omega), set_take1 _ (j + 1) (by simp; omega), set_take1 _ j (by omega)]
  simp
theorem put6_row {w : World} {g : Nat} {cur : Array Value} {ty : TypeId} (hg : w.heap[g]? = some (.cells cur ty (0, 0))) {j : Nat} (hj : j + 6 ≤ cur.size) (a b c d e f : Value) :
    ∃ cur' : Array Value, (put6 w g j a b c d e f).heap[g]? = some (.cells cur' ty (0, 0)) ∧ cur'.size = cur.size ∧ cur'.toList.take (j + 6) = cur.toList.take j ++ [a, b, c, d, e, f] :=
  ⟨(((((cur.setIfInBounds j a).setIfInBounds (j + 1) b).setIfInBounds (j + 2) c).setIfInBounds (j + 3) d).setIfInBounds (j + 4) e).setIfInBounds (j + 5) f, heap_set1 (heap_set1 (heap_set1 (heap_set1 (heap_set1 (heap_set1 hg _ _) _ _) _ _) _ _) _ _) _ _, by simp, set6_take cur j hj a b c d e f⟩
/-- A block of nodes. -/
theorem ns_heap {w : World} {S : Nat → Prop} {g : Nat} {cur : Array Value} {ty : TypeId} {L : List Nd} (hg : w.heap[g]? = some (.cells cur ty (0, 0))) (hn : NF w S L cur.toList) : Ns w (some ⟨g, 0, none⟩) L := by
  refine .inr ⟨g, rfl, lt_of_heap hg, fun i x hx => ?_⟩
  obtain ⟨da, dc, k1, k2⟩ := hn.at i x hx
  have key : ∀ k v, [Value.string x.name, .slice da x.deps.length dc, .int .i64 x.tries, .int .i64 x.lease, .int .i64 x.tenant, .string x.flow][k]? = some v → w.cell? ⟨g, i * 6 + k, none⟩ = some v := fun k v hv => by
    have := k2 k v hv
    simp only [Array.getElem?_toList] at this
    simp [World.cell?, hg, this]
  exact ⟨da, dc, ⟨key 0 _ rfl, key 1 _ rfl, key 2 _ rfl, key 3 _ rfl, key 4 _ rfl, key 5 _ rfl⟩, k1.dp⟩
theorem rdL_at : ∀ {f : F} {j : Nat} {k n : Int} {s : ByteArray} {l : F}, f.at j = some (k, n, s, l) → rdN1 k l = none → rdL f = none
  | .cons k n s l r, 0, _, _, _, _, h, hk => by
    simp only [F.at, Option.some.injEq, Prod.mk.injEq] at h
    obtain ⟨rfl, _, _, rfl⟩ := h
    simp [rdL, hk]
  | .cons k n s l r, j + 1, _, _, _, _, h, hk => by
    have := rdL_at (f := r) h hk
    simp only [rdL, this]
    split <;> rfl
theorem rdL_all : ∀ {f : F} (M : List Nd), M.length = f.len → (∀ j x, M[j]? = some x → ∃ k n s g, f.at j = some (k, n, s, g) ∧ rdN1 k g = some x) → rdL f = some M
  | .nil, [], _, _ => rfl
  | .nil, _ :: _, h, _ => by simp [F.len] at h
  | .cons _ _ _ _ _, [], h, _ => by simp [F.len] at h
  | .cons k n s g r, x :: m, h, hj => by
    obtain ⟨k0, n0, s0, g0, e, e2⟩ := hj 0 x rfl
    simp only [F.at, Option.some.injEq, Prod.mk.injEq] at e
    obtain ⟨rfl, _, _, rfl⟩ := e
    have := rdL_all (f := r) m (by simpa [F.len] using h) (fun j s hs => hj (j + 1) s (by simpa using hs))
    simp [rdL, this, e2]
theorem madeN (n : Nat) (hn : n ≤ 1048576) (u : World) : (Instr.makeSlice 26 (.int .i64 (n : Int)) (.int .i64 (n : Int))).run Try.prog u = .ok (.slice (some ⟨u.heap.size, 0, none⟩) n n) (u.alloc (.cells (madeCells #[.string ⟨#[]⟩, .slice none 0 0, .int .i64 0, .int .i64 0, .int .i64 0, .string ⟨#[]⟩] (n * 6)) 56)) := by
  obtain ⟨i0, hi, hz0, hz1, hz2⟩ := info_parts Wgf.infoN
  have h := run_make (P := Try.prog) u 26 56 i0 (.agg #[.string ⟨#[]⟩, .slice none 0 0, .int .i64 0, .int .i64 0, .int .i64 0, .string ⟨#[]⟩]) Try.underlying26 hi hz0 .i64 .i64 (n : Int) (n : Int) (by omega) (by omega) (by rw [hz2]; omega) (by omega)
  simpa [hz1, Value.cells] using h

/-- What Read comes to. -/
def RdP (w' : World) (k : Int) (l : F) (e : Ending) : Prop :=
  (∃ (nm : ByteArray) (L : List Nd) (a : Nat), rdF k l = some (nm, L) ∧ e = .returned (.tuple #[.agg #[.string nm, .slice (some ⟨a, 0, none⟩) L.length L.length], .int .i64 0]) ∧ Ns w' (some ⟨a, 0, none⟩) L) ∨
  (rdF k l = none ∧ e = .returned (.tuple #[.agg #[.string ⟨#[]⟩, .slice none 0 0], .int .i64 4]))
theorem rdF_isK {k : Int} {l : F} (h : isK k l [1, 2] = false) : rdF k l = none := by
  rcases e : rdF k l with _ | ⟨nm, L⟩
  · rfl
  · obtain ⟨hk, n0, g0, n1, s1, l1, rfl, _⟩ := rdF_form e
    unfold isK at h
    exact absurd ⟨hk, rfl⟩ (of_decide_eq_false h)
theorem kinds2 {l : F} (h : l.kinds = [1, 2]) : ∃ n0 s0 g0 n1 s1 l1, l = .cons 1 n0 s0 g0 (.cons 2 n1 s1 l1 .nil) := by
  match l, h with
  | .cons k0 n0 s0 g0 (.cons k1 n1 s1 l1 .nil), h =>
    simp only [F.kinds, List.cons.injEq, and_true] at h
    obtain ⟨rfl, rfl⟩ := h
    exact ⟨n0, s0, g0, n1, s1, l1, rfl⟩
  | .nil, h => simp [F.kinds] at h
  | .cons _ _ _ _ .nil, h => simp [F.kinds] at h
  | .cons _ _ _ _ (.cons _ _ _ _ (.cons _ _ _ _ _)), h => simp [F.kinds] at h
theorem rdF2 (n0 n1 : Int) (s0 s1 : ByteArray) (g0 l1 : F) : rdF 2 (.cons 1 n0 s0 g0 (.cons 2 n1 s1 l1 .nil)) = match rdL l1 with | some m => some (s0, m) | none => none := by simp only [rdF, if_true, and_self]; rfl
theorem rd_two {w : World} {A : Nat → Prop} {p : Option Addr} {cap : Nat} {l : F} {n0 n1 : Int} {s0 s1 : ByteArray} {g0 l1 : F} (h : Rd w A (.slice p l.len cap) l) (hl : l = .cons 1 n0 s0 g0 (.cons 2 n1 s1 l1 .nil)) :
    ∃ g p1 c1, p = some ⟨g, 0, none⟩ ∧ g < w.heap.size ∧ w.cell? ⟨g, 2, none⟩ = some (.string s0) ∧ w.cell? ⟨g, 7, none⟩ = some (.slice p1 l1.len c1) ∧ Rd w A (.slice p1 l1.len c1) l1 := by
  have a0 : l.at 0 = some (1, n0, s0, g0) := by rw [hl]; rfl
  have a1 : l.at 1 = some (2, n1, s1, l1) := by rw [hl]; rfl
  obtain ⟨g, L0, rfl, _, hg, _, _, x0, _⟩ := rd_at h a0
  obtain ⟨g1', L1, e1, _, _, _, _, _, y3, hL1⟩ := rd_at h a1
  injection e1 with e1
  injection e1 with e1
  subst e1
  obtain ⟨p1, c1, rfl, _, _⟩ := rd_slice hL1
  exact ⟨_, p1, c1, rfl, hg, x0, y3, hL1⟩
/-- The box and the result's place. -/
def Pf (W : World) (P : Nat) (k n : Int) (s : ByteArray) (M : Value) : Prop := W.heap[P]? = some (.cells #[.int .i64 k, .int .i64 n, .string s, M] 37 (0, 0)) ∧ W.heap[P + 1]? = some (.cells #[.string ⟨#[]⟩, .slice none 0 0] 28 (0, 0))
theorem Pf.below {W W' : World} {P B : Nat} {k n : Int} {s : ByteArray} {M : Value} (h : Pf W P k n s M) (hB : P + 1 < B) (b : Below B W W') : Pf W' P k n s M :=
  ⟨(b.block _ (by omega)).trans h.1, (b.block _ (by omega)).trans h.2⟩
theorem Pf.cells {W : World} {P : Nat} {k n : Int} {s : ByteArray} {M : Value} (h : Pf W P k n s M) : W.cell? ⟨P, 0, none⟩ = some (.int .i64 k) ∧ W.cell? ⟨P, 1, none⟩ = some (.int .i64 n) ∧ W.cell? ⟨P, 2, none⟩ = some (.string s) ∧ W.cell? ⟨P, 3, none⟩ = some M := by
  refine ⟨?_, ?_, ?_, ?_⟩ <;> simp [World.cell?, h.1]
theorem Pf.res {W : World} {P : Nat} {k n : Int} {s : ByteArray} {M : Value} (h : Pf W P k n s M) : W.cell? ⟨P + 1, 0, none⟩ = some (.string ⟨#[]⟩) ∧ W.cell? ⟨P + 1, 1, none⟩ = some (.slice none 0 0) ∧ ∀ j, W.frozen? ⟨P + 1, j, none⟩ = false := by
  refine ⟨?_, ?_, frozen_there h.2⟩ <;> simp [World.cell?, h.2]
theorem cell_al {W : World} {a : Addr} {v : Value} {o : Obj} (h : W.cell? a = some v) : (W.alloc o).cell? a = some v := by
  simp [World.cell?_alloc_some, h]
theorem put2_below {B : Nat} {a w : World} (h : Below B a w) {g j : Nat} (hg : B ≤ g) (x y : Value) : Below B a ((w.setCell ⟨g, j, none⟩ x).setCell ⟨g, j + 1, none⟩ y) :=
  (h.setCell (p := ⟨g, j, none⟩) hg x).setCell (p := ⟨g, j + 1, none⟩) hg y

set_option maxRecDepth 100000 in
set_option maxHeartbeats 6400000 in
theorem read (k n : Int) (s : ByteArray) (l : F) (M : Value) (w : World) (A : Nat → Prop) (hM : Rd w A M l) (hok : l.ok) (hlen : l.nodes ≤ 10000) :
    Calls Try.prog 6 #[.agg #[.int .i64 k, .int .i64 n, .string s, M]] w fun e w' => RdP w' k l e ∧ Below w.heap.size w w' := by
  obtain ⟨p, cap, rfl, hc, hcm⟩ := rd_slice hM
  unfold maxLen at hcm
  obtain ⟨X, hX⟩ : ∃ X, X = ((w.alloc (.cells #[.int .i64 k, .int .i64 n, .string s, .slice p l.len cap] 37)).alloc (.cells #[.string ⟨#[]⟩, .slice none 0 0] 28)).alloc (.cells #[.int .i64 1, .int .i64 2] 34) := ⟨_, rfl⟩
  obtain ⟨x1, x2, x3, xz, xb⟩ := alloc3 _ _ _ _ _ _ _ X hX
  have HX := hid hX
  have PX := hid (show Pf X w.heap.size k n s (.slice p l.len cap) from ⟨x1, x2⟩)
  have XB := hid xb
  have HM := hid (rd_below (rd_below hM ((Below.refl _ _))) xb)
  have HO := hid hok
  have CL := hid (listOf k n s l (.slice p l.len cap) [1, 2] (w.heap.size + 2) 2 X A HM.out (by decide) (by omega) (fun j a ha => by
    match j, ha with
    | 0, ha => simp at ha; subst ha; simp [World.cell?, x3]
    | 1, ha => simp at ha; subst ha; simp [World.cell?, x3]
    | j + 2, ha => simp at ha))
  clear hX x1 x2 x3 xb hM hok
  go_enter Try.func6, Try.ntmps6
  go_wp2_with fail
  rw [← HX.out]
  refine CL.out.mono ?_
  rintro e w1 ⟨rfl, b1⟩
  have P1 := hid (PX.out.below (by omega) b1)
  have A1 := hid (XB.out.trans (b1.mono (by omega)))
  have z1 : w.heap.size + 3 ≤ w1.heap.size := by have := b1.size; omega
  have HM1 := hid (rd_below HM.out b1)
  clear CL b1 PX XB HM
  rcases e1 : isK k l [1, 2] with _ | _
  · have R := hid (rdF_isK e1)
    obtain ⟨q0, q1, qf⟩ := P1.out.res
    clear e1 HX HM1 HO
    go_wp2_with fail
    exact bodyPost_ret (v := .tuple #[.agg #[.string ⟨#[]⟩, .slice none 0 0], .int .i64 4]) (by simp [results, Try.results6, go_sem, q0, q1]) rfl ⟨.inr ⟨R.out, rfl⟩, put2_below (j := 0) A1.out (by omega) _ _⟩
  · unfold isK at e1
    obtain ⟨hk2, hkk⟩ := of_decide_eq_true e1
    obtain ⟨n0, s0, g0, n1, s1, l1, hl⟩ := kinds2 hkk
    obtain ⟨g, p1, c1, rfl, hg, i0, i4, hL1⟩ := rd_two HM1.out hl
    have hl2 : l.len = 2 := by rw [hl]; rfl
    have hn1 := F.len_nodes l1
    have hnn : l1.nodes < l.nodes := F.at_nodes (j := 1) (k := 2) (n := n1) (s := s1) (by rw [hl]; rfl)
    have HO1 : Hid l1.ok := hid (F.at_ok (j := 1) (k := 2) (n := n1) (s := s1) (l := l1) (by rw [hl]; rfl) HO.out).2.2.2
    have hs0 : s0.size ≤ 140737488355328 := (F.at_ok (j := 0) (k := 1) (n := n0) (s := s0) (l := g0) (by rw [hl]; rfl) HO.out).2.2.1
    have HR := hid (show rdF k l = match rdL l1 with | some m => some (s0, m) | none => none by rw [hk2, hl]; exact rdF2 _ _ _ _ _ _)
    have HL1 := hid hL1
    have hl1 : l1.len ≤ 10000 := by omega
    have hn4 : l1.nodes ≤ 10000 := by omega
    have I0 := hid i0
    rw [hl2] at P1
    obtain ⟨q0, q1, q2, q3⟩ := P1.out.cells
    have hmk := madeN l1.len (by omega)
    have hgw := hg
    have hP1 : w.heap.size < w1.heap.size := by omega
    rw [hl2]
    have R0 : Hid ((w1.alloc (.cells (madeCells #[.string ⟨#[]⟩, .slice none 0 0, .int .i64 0, .int .i64 0, .int .i64 0, .string ⟨#[]⟩] (l1.len * 6)) 56)).heap[w1.heap.size]? = some (.cells (madeCells #[.string ⟨#[]⟩, .slice none 0 0, .int .i64 0, .int .i64 0, .int .i64 0, .string ⟨#[]⟩] (l1.len * 6)) 56 (0, 0))) := hid (heap_alloc_new w1 _)
    have B0 := hid (al w1 (.cells (madeCells #[.string ⟨#[]⟩, .slice none 0 0, .int .i64 0, .int .i64 0, .int .i64 0, .string ⟨#[]⟩] (l1.len * 6)) 56))
    clear e1 hk2 hkk hl hL1 hnn hn1 HO HM1 HX hl2
    go_wp2_with fail
    clear hmk
    go_loopw [27] (fun iv wr => ∃ (i : Nat) (cur : Array Value) (m : List Nd), iv = .int .i64 (i : Int) ∧ i ≤ l1.len ∧ Below w1.heap.size w1 wr ∧ w1.heap.size + 1 ≤ wr.heap.size ∧ Hid (wr.heap[w1.heap.size]? = some (.cells cur 56 (0, 0))) ∧ Hid (cur.size = l1.len * 6) ∧ Hid (NF wr (fun b => w1.heap.size < b) m (cur.toList.take (i * 6))) ∧ Hid (m.length = i) ∧ Hid (∀ j x, m[j]? = some x → ∃ k n s g, l1.at j = some (k, n, s, g) ∧ rdN1 k g = some x)) (fun iv _ => l1.len - (intOf iv).toNat)
    case atStart => exact ⟨0, _, [], rfl, Nat.zero_le _, B0.out, by simp, R0, hid (size_madeCells _ _), hid (by simp [NF]), hid rfl, hid (fun j x h => by simp at h)⟩
    case round =>
      clear R0 B0
      obtain ⟨i, cur, m, rfl, hi, hb, hz, hrow, hcs, hF, hml, hno⟩ := hrel
      have hPf := hid (P1.out.below (by omega) hb)
      have hi0 := (hb.cell (p := ⟨g, 2, none⟩) hg).trans I0.out
      have hbw := hid (A1.out.trans (hb.mono (by omega)))
      obtain ⟨v0, v1, v2, v3⟩ := hPf.out.cells
      obtain ⟨r0, r1, rf⟩ := hPf.out.res
      by_cases ci : i < l1.len
      · obtain ⟨a, n', s', l', ha⟩ := F.at_some l1 (j := i) ci
        obtain ⟨gp, L', rfl, _, hgp, y0', y1', y2', y3', hL'⟩ := rd_at HL1.out ha
        obtain ⟨pl, cl, rfl, _, _⟩ := rd_slice hL'
        have y0 := (hb.cell (p := ⟨gp, i * 4, none⟩) hgp).trans y0'
        have y1 := (hb.cell (p := ⟨gp, i * 4 + 1, none⟩) hgp).trans y1'
        have y2 := (hb.cell (p := ⟨gp, i * 4 + 2, none⟩) hgp).trans y2'
        have y3 := (hb.cell (p := ⟨gp, i * 4 + 3, none⟩) hgp).trans y3'
        have ok' := (F.at_ok ha HO1.out).2.2.2
        have hn' := F.at_nodes ha
        have HA := hid ha
        have BV := hid (al wr (.cells #[.int .i64 a, .int .i64 n', .string s', .slice pl l'.len cl] 37))
        have C1 := hid (nodeOf a n' s' l' (.slice pl l'.len cl) (wr.alloc (.cells #[.int .i64 a, .int .i64 n', .string s', .slice pl l'.len cl] 37)) A (rd_below (rd_below hL' hb) BV.out) ok' (by omega))
        clear y0' y1' y2' y3' ha hL' ok' hn' P1 I0 HL1
        go_wp2_with fail
        refine C1.out.mono ?_
        rintro e w2 ⟨hT, b2⟩
        have z2 : wr.heap.size + 1 ≤ w2.heap.size := by have := b2.size; simpa using this
        have hq1 : w.heap.size + 1 < w2.heap.size := by omega
        have hq2 : w1.heap.size < w2.heap.size := by omega
        have b3 := hid (BV.out.trans (b2.mono (by simp)))
        have hP2 := hid (hPf.out.below (by omega) b3.out)
        clear C1 b2 BV y0 y1 y2 y3 v0 v1 v2 v3 r0 r1 rf
        rcases hT with ⟨x, da, dc, hx, rfl, hD⟩ | ⟨hx, rfl⟩
        · have HX := hid hx
          have HD := hid hD
          clear hx hD
          have cz := hcs.out
          have hrow2 := hid ((b3.out.block _ (by omega)).trans hrow.out)
          have t0 := cell_there hrow2.out (j := i * 6) (by omega)
          have t1 := cell_there hrow2.out (j := i * 6 + 1) (by omega)
          have t2 := cell_there hrow2.out (j := i * 6 + 2) (by omega)
          have t3 := cell_there hrow2.out (j := i * 6 + 3) (by omega)
          have t4 := cell_there hrow2.out (j := i * 6 + 4) (by omega)
          have t5 := cell_there hrow2.out (j := i * 6 + 5) (by omega)
          have f0 := frozen_there hrow2.out
          generalize cur[i * 6] = c0 at t0
          generalize cur[i * 6 + 1] = c1 at t1
          generalize cur[i * 6 + 2] = c2 at t2
          generalize cur[i * 6 + 3] = c3 at t3
          generalize cur[i * 6 + 4] = c4 at t4
          generalize cur[i * 6 + 5] = c5 at t5
          have hb2 := hb.trans (b3.out.mono hb.size)
          have HF2 := hid (show NF w2 (fun b => w1.heap.size < b) (m ++ [x]) (cur.toList.take (i * 6) ++ [.string x.name, .slice da x.deps.length dc, .int .i64 x.tries, .int .i64 x.lease, .int .i64 x.tenant, .string x.flow]) from NF.snoc (HD.out.far (fun b hb' => by simp at hb'; omega) (Nat.le_refl _) (fun _ _ _ => rfl)) (hF.out.far (fun _ h => h) b3.out.size (fun b _ hb' => b3.out.block b hb')))
          have hno2 := hid (show ∀ j y, (m ++ [x])[j]? = some y → ∃ k n s g, l1.at j = some (k, n, s, g) ∧ rdN1 k g = some y from fun j y hy => by
            by_cases q : j < m.length
            · rw [List.getElem?_append_left q] at hy
              exact hno.out j y hy
            · have hj : j = m.length := by
                have := (List.getElem?_eq_some_iff.1 hy).1
                simp at this; omega
              subst hj
              rw [List.getElem?_append_right (Nat.le_refl _), Nat.sub_self] at hy
              simp at hy
              subst hy
              exact ⟨_, _, _, _, by rw [hml.out]; exact HA.out, HX.out⟩)
          clear cz hrow hF hno hP2 hPf hi0
          go_wp2_with fail
          go_roundw
          case rel =>
            obtain ⟨cur', p1, p2, p3⟩ := put6_row hrow2.out (j := i * 6) (by have := hcs.out; omega) (.string x.name) (.slice da x.deps.length dc) (.int .i64 x.tries) (.int .i64 x.lease) (.int .i64 x.tenant) (.string x.flow)
            have hsz : (put6 w2 w1.heap.size (i * 6) (.string x.name) (.slice da x.deps.length dc) (.int .i64 x.tries) (.int .i64 x.lease) (.int .i64 x.tenant) (.string x.flow)).heap.size = w2.heap.size := put6_size
            have hba := al (put6 w2 w1.heap.size (i * 6) (.string x.name) (.slice da x.deps.length dc) (.int .i64 x.tries) (.int .i64 x.lease) (.int .i64 x.tenant) (.string x.flow)) (.cells #[.string x.name, .slice da x.deps.length dc, .int .i64 x.tries, .int .i64 x.lease, .int .i64 x.tenant, .string x.flow] 56)
            refine ⟨i + 1, cur', m ++ [x], by go_num, ci, (put6_below hb2 (Nat.le_refl _) _ _ _ _ _ _).trans (hba.mono (by omega)), Nat.le_trans (by omega) hba.size, hid ((hba.block _ (by omega)).trans p1), hid (p2.trans hcs.out), hid ?_, hid (by rw [List.length_append, hml.out]; rfl), hno2⟩
            rw [Nat.add_mul, p3]
            exact HF2.out.far (fun _ h => h) (by have := hba.size; omega) (fun b hb1 hb' => (hba.block b (by omega)).trans (put6_other (by omega)))
          case measure => simp [intOf]; omega
        · have R := hid (show rdF k l = none by rw [HR.out, rdL_at HA.out hx])
          obtain ⟨r0, r1, rf⟩ := hP2.out.res
          have hbz := hid (hbw.out.trans (b3.out.mono hbw.out.size))
          clear hx HR
          go_wp2_with fail
          have e0 : ((w2.setCell ⟨w.heap.size + 1, 0, none⟩ (.string ⟨#[]⟩)).setCell ⟨w.heap.size + 1, 1, none⟩ (.slice none 0 0)).cell? ⟨w.heap.size + 1, 0, none⟩ = some (.string ⟨#[]⟩) := by simp [go_sem, r0]
          have e1 : ((w2.setCell ⟨w.heap.size + 1, 0, none⟩ (.string ⟨#[]⟩)).setCell ⟨w.heap.size + 1, 1, none⟩ (.slice none 0 0)).cell? ⟨w.heap.size + 1, 1, none⟩ = some (.slice none 0 0) := by simp [go_sem, r1]
          have e2 := cell_al e0 (o := .cells #[.string ⟨#[]⟩, .slice none 0 0, .int .i64 0, .int .i64 0, .int .i64 0, .string ⟨#[]⟩] 56)
          have e3 := cell_al e1 (o := .cells #[.string ⟨#[]⟩, .slice none 0 0, .int .i64 0, .int .i64 0, .int .i64 0, .string ⟨#[]⟩] 56)
          exact bodyPost_ret (v := .tuple #[.agg #[.string ⟨#[]⟩, .slice none 0 0], .int .i64 4]) (by simp [results, Try.results6, go_sem, e2, e3]) rfl ⟨.inr ⟨R.out, rfl⟩, (put2_below (j := 0) hbz.out (by omega) _ _).alloc (by simp [World.setCell]; exact hbz.out.size) _⟩
      · have ei : i = l1.len := by omega
        have HL := hid (rdL_all m (by rw [hml.out, ei]) hno.out)
        have hx1 : s0.size ≤ 281474976710656 := by omega
        have C1 := hid (Wc.clone s0 wr hx1)
        have R := hid (show rdF k l = some (s0, m) by rw [HR.out, HL.out])
        have HN := hid (show NF wr (fun b => w1.heap.size < b) m cur.toList by have := hF.out; rw [ei, List.take_of_length_le (by have := hcs.out; simp; omega)] at this; exact this)
        clear HR hF hno HL
        go_wp2_with fail
        refine C1.out.mono ?_
        rintro e w2 ⟨rfl, b2⟩
        have hP2 := hid (hPf.out.below (by omega) b2)
        obtain ⟨r0, r1, rf⟩ := hP2.out.res
        have hbz := hid (hbw.out.trans (b2.mono hbw.out.size))
        have hml' := hml.out
        have HB2 := hid b2
        have hrow2 := hid ((b2.block _ (by omega)).trans hrow.out)
        clear C1 hPf hP2 hrow b2 hcs v0 v1 v2 v3 hml
        go_wp2_with fail
        refine bodyPost_ret (v := .tuple #[.agg #[.string s0, .slice (some ⟨w1.heap.size, 0, none⟩) l1.len l1.len], .int .i64 0]) (by simp [results, Try.results6, go_sem, r0, r1]) rfl ⟨.inl ⟨s0, m, w1.heap.size, R.out, by rw [hml', ei], ?_⟩, put2_below (j := 0) hbz.out (by omega) _ _⟩
        have F0 : ∀ (v u : Value) (b : Nat), w1.heap.size ≤ b → ((w2.setCell ⟨w.heap.size + 1, 0, none⟩ v).setCell ⟨w.heap.size + 1, 1, none⟩ u).heap[b]? = w2.heap[b]? := fun v u b hb' => by
          rw [Below.heap_setCell _ _ _ _ (by show b ≠ w.heap.size + 1; omega), Below.heap_setCell _ _ _ _ (by show b ≠ w.heap.size + 1; omega)]
        exact ns_heap ((F0 _ _ _ (Nat.le_refl _)).trans hrow2.out) (HN.out.far (S' := fun b => w1.heap.size < b) (fun _ h => h) (by have := HB2.out.size; simpa [World.setCell] using this) (fun b hb1 hb' => (F0 _ _ b (by omega)).trans (HB2.out.block b hb')))

end Go.Proofs.Ytainajjklakaeaa.Wgr
