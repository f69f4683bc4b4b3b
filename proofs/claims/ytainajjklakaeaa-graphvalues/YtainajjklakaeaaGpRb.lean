/-
  The contract of nodeOfValue. Conditions: the value can be read, and has at most 10000 inner ones.
-/
import Derived.Test.YtainajjklakaeaaGpRa
import Derived.Test.YtainajjklakaeaaGpD
namespace Go.Proofs.Ytainajjklakaeaa.Wgr
open Go.ChangeShapes Go.WideShapes Go.ChangeAt Go.RowKit Go.Proofs.Ytainajjklakaeaa.M Go.Proofs.Ytainajjklakaeaa.Wgp

/-- What nodeOfValue comes to. -/
def NdP (w w' : World) (k : Int) (l : F) (e : Ending) : Prop :=
  (∃ (x : Nd) (da : Option Addr) (dc : Nat), rdN1 k l = some x ∧ e = .returned (.tuple #[.agg #[.string x.name, .slice da x.deps.length dc, .int .i64 x.tries, .int .i64 x.lease, .int .i64 x.tenant, .string x.flow], .bool true]) ∧ DpS w' (fun g => w.heap.size ≤ g) x da dc) ∨
  (rdN1 k l = none ∧ e = .returned (.tuple #[.agg #[.string ⟨#[]⟩, .slice none 0 0, .int .i64 0, .int .i64 0, .int .i64 0, .string ⟨#[]⟩], .bool false]))
theorem rdN_isK {k : Int} {l : F} (h : isK k l [1, 2, 0, 0, 0, 1] = false) : rdN1 k l = none := by
  rcases e : rdN1 k l with _ | x
  · rfl
  · obtain ⟨hk, n0, g0, n1, s1, l1, s2, g2, s3, g3, s4, g4, n5, g5, rfl, _⟩ := rdN_form e
    unfold isK at h
    exact absurd ⟨hk, rfl⟩ (of_decide_eq_false h)
theorem kinds6 {l : F} (h : l.kinds = [1, 2, 0, 0, 0, 1]) : ∃ n0 s0 g0 n1 s1 l1 n2 s2 g2 n3 s3 g3 n4 s4 g4 n5 s5 g5, l = .cons 1 n0 s0 g0 (.cons 2 n1 s1 l1 (.cons 0 n2 s2 g2 (.cons 0 n3 s3 g3 (.cons 0 n4 s4 g4 (.cons 1 n5 s5 g5 .nil))))) := by
  match l, h with
  | .cons k0 n0 s0 g0 (.cons k1 n1 s1 l1 (.cons k2 n2 s2 g2 (.cons k3 n3 s3 g3 (.cons k4 n4 s4 g4 (.cons k5 n5 s5 g5 .nil))))), h =>
    simp only [F.kinds, List.cons.injEq, and_true] at h
    obtain ⟨rfl, rfl, rfl, rfl, rfl, rfl⟩ := h
    exact ⟨n0, s0, g0, n1, s1, l1, n2, s2, g2, n3, s3, g3, n4, s4, g4, n5, s5, g5, rfl⟩
  | .nil, h => simp [F.kinds] at h
  | .cons _ _ _ _ .nil, h => simp [F.kinds] at h
  | .cons _ _ _ _ (.cons _ _ _ _ .nil), h => simp [F.kinds] at h
  | .cons _ _ _ _ (.cons _ _ _ _ (.cons _ _ _ _ .nil)), h => simp [F.kinds] at h
  | .cons _ _ _ _ (.cons _ _ _ _ (.cons _ _ _ _ (.cons _ _ _ _ .nil))), h => simp [F.kinds] at h
  | .cons _ _ _ _ (.cons _ _ _ _ (.cons _ _ _ _ (.cons _ _ _ _ (.cons _ _ _ _ .nil)))), h => simp [F.kinds] at h
  | .cons _ _ _ _ (.cons _ _ _ _ (.cons _ _ _ _ (.cons _ _ _ _ (.cons _ _ _ _ (.cons _ _ _ _ (.cons _ _ _ _ _)))))), h => simp [F.kinds] at h
theorem rdN6 (n0 n1 n2 n3 n4 n5 : Int) (s0 s1 s2 s3 s4 s5 : ByteArray) (g0 l1 g2 g3 g4 g5 : F) : rdN1 2 (.cons 1 n0 s0 g0 (.cons 2 n1 s1 l1 (.cons 0 n2 s2 g2 (.cons 0 n3 s3 g3 (.cons 0 n4 s4 g4 (.cons 1 n5 s5 g5 .nil)))))) = if sm n2 = true ∧ sm n4 = true then (match rdS l1 with | some ds => some ⟨s0, ds, n2, n3, n4, s5⟩ | none => none) else none := by simp only [rdN1, if_true, and_self]; rfl

theorem alloc3 (w : World) (c1 c2 c3 : Array Value) (t1 t2 t3 : TypeId) : ∀ X, X = ((w.alloc (.cells c1 t1)).alloc (.cells c2 t2)).alloc (.cells c3 t3) → X.heap[w.heap.size]? = some (.cells c1 t1 (0, 0)) ∧ X.heap[w.heap.size + 1]? = some (.cells c2 t2 (0, 0)) ∧ X.heap[w.heap.size + 2]? = some (.cells c3 t3 (0, 0)) ∧ X.heap.size = w.heap.size + 3 ∧ Below w.heap.size w X := by
  intro X hX
  have y1 := heap_alloc_new w (.cells c1 t1)
  have y2 := heap_alloc_new (w.alloc (.cells c1 t1)) (.cells c2 t2)
  have y3 := heap_alloc_new ((w.alloc (.cells c1 t1)).alloc (.cells c2 t2)) (.cells c3 t3)
  simp only [World.size_alloc] at y2 y3
  subst hX
  refine ⟨?_, ?_, y3, by simp, (((Below.refl _ _).alloc (Nat.le_refl _) _).alloc (by simp) _).alloc (by simp; omega) _⟩
  · rw [Below.heap_alloc _ _ _ (by simp; omega), Below.heap_alloc _ _ _ (by simp), y1]
  · rw [Below.heap_alloc _ _ _ (by simp), y2]

/-- The box and the result's place. -/
def Pq (W : World) (P : Nat) (k n : Int) (s : ByteArray) (M : Value) : Prop := W.heap[P]? = some (.cells #[.int .i64 k, .int .i64 n, .string s, M] 37 (0, 0)) ∧ W.heap[P + 1]? = some (.cells #[.string ⟨#[]⟩, .slice none 0 0, .int .i64 0, .int .i64 0, .int .i64 0, .string ⟨#[]⟩] 56 (0, 0))
theorem Pq.below {W W' : World} {P : Nat} {k n : Int} {s : ByteArray} {M : Value} (h : Pq W P k n s M) (b : Below W.heap.size W W') : Pq W' P k n s M :=
  ⟨(b.block _ (lt_of_heap h.1)).trans h.1, (b.block _ (lt_of_heap h.2)).trans h.2⟩
theorem Pq.cells {W : World} {P : Nat} {k n : Int} {s : ByteArray} {M : Value} (h : Pq W P k n s M) : W.cell? ⟨P, 0, none⟩ = some (.int .i64 k) ∧ W.cell? ⟨P, 1, none⟩ = some (.int .i64 n) ∧ W.cell? ⟨P, 2, none⟩ = some (.string s) ∧ W.cell? ⟨P, 3, none⟩ = some M := by
  refine ⟨?_, ?_, ?_, ?_⟩ <;> simp [World.cell?, h.1]
theorem Pq.res {W : World} {P : Nat} {k n : Int} {s : ByteArray} {M : Value} (h : Pq W P k n s M) : W.cell? ⟨P + 1, 0, none⟩ = some (.string ⟨#[]⟩) ∧ W.cell? ⟨P + 1, 1, none⟩ = some (.slice none 0 0) ∧ W.cell? ⟨P + 1, 2, none⟩ = some (.int .i64 0) ∧ W.cell? ⟨P + 1, 3, none⟩ = some (.int .i64 0) ∧ W.cell? ⟨P + 1, 4, none⟩ = some (.int .i64 0) ∧ W.cell? ⟨P + 1, 5, none⟩ = some (.string ⟨#[]⟩) ∧ ∀ j, W.frozen? ⟨P + 1, j, none⟩ = false := by
  refine ⟨?_, ?_, ?_, ?_, ?_, ?_, frozen_there h.2⟩ <;> simp [World.cell?, h.2]
/-- What is read of a node's value. -/
theorem rd_six {w : World} {A : Nat → Prop} {p : Option Addr} {cap : Nat} {l : F} {n0 n1 n2 n3 n4 n5 : Int} {s0 s1 s2 s3 s4 s5 : ByteArray} {g0 l1 g2 g3 g4 g5 : F} (h : Rd w A (.slice p l.len cap) l) (hl : l = .cons 1 n0 s0 g0 (.cons 2 n1 s1 l1 (.cons 0 n2 s2 g2 (.cons 0 n3 s3 g3 (.cons 0 n4 s4 g4 (.cons 1 n5 s5 g5 .nil)))))) :
    ∃ g p1 c1, p = some ⟨g, 0, none⟩ ∧ g < w.heap.size ∧ w.cell? ⟨g, 2, none⟩ = some (.string s0) ∧ w.cell? ⟨g, 4, none⟩ = some (.int .i64 2) ∧ w.cell? ⟨g, 5, none⟩ = some (.int .i64 n1) ∧ w.cell? ⟨g, 6, none⟩ = some (.string s1) ∧ w.cell? ⟨g, 7, none⟩ = some (.slice p1 l1.len c1) ∧ Rd w A (.slice p1 l1.len c1) l1 ∧ w.cell? ⟨g, 9, none⟩ = some (.int .i64 n2) ∧ w.cell? ⟨g, 13, none⟩ = some (.int .i64 n3) ∧ w.cell? ⟨g, 17, none⟩ = some (.int .i64 n4) ∧ w.cell? ⟨g, 22, none⟩ = some (.string s5) := by
  have a0 : l.at 0 = some (1, n0, s0, g0) := by rw [hl]; rfl
  have a1 : l.at 1 = some (2, n1, s1, l1) := by rw [hl]; rfl
  have a2 : l.at 2 = some (0, n2, s2, g2) := by rw [hl]; rfl
  have a3 : l.at 3 = some (0, n3, s3, g3) := by rw [hl]; rfl
  have a4 : l.at 4 = some (0, n4, s4, g4) := by rw [hl]; rfl
  have a5 : l.at 5 = some (1, n5, s5, g5) := by rw [hl]; rfl
  obtain ⟨g, L0, rfl, _, hg, _, _, x0, _⟩ := rd_at h a0
  have same : ∀ {g' : Nat}, some (⟨g, 0, none⟩ : Addr) = some ⟨g', 0, none⟩ → g' = g := fun e => by injection e with e; injection e with e; exact e.symm
  obtain ⟨g1', L1, e1, _, _, y0, y1, y2, y3, hL1⟩ := rd_at h a1
  obtain ⟨g2', L2, e2, _, _, _, x2, _⟩ := rd_at h a2
  obtain ⟨g3', L3, e3, _, _, _, x3, _⟩ := rd_at h a3
  obtain ⟨g4', L4, e4, _, _, _, x4, _⟩ := rd_at h a4
  obtain ⟨g5', L5, e5, _, _, _, _, x5, _⟩ := rd_at h a5
  have e1 := same e1
  have e2 := same e2
  have e3 := same e3
  have e4 := same e4
  have e5 := same e5
  subst e1 e2 e3 e4 e5
  obtain ⟨p1, c1, rfl, _, _⟩ := rd_slice hL1
  exact ⟨_, p1, c1, rfl, hg, x0, y0, y1, y2, y3, hL1, x2, x3, x4, x5⟩
/-- Six cells stored. -/
def put6 (w : World) (g j : Nat) (a b c d e f : Value) : World := (((((w.setCell ⟨g, j, none⟩ a).setCell ⟨g, j + 1, none⟩ b).setCell ⟨g, j + 2, none⟩ c).setCell ⟨g, j + 3, none⟩ d).setCell ⟨g, j + 4, none⟩ e).setCell ⟨g, j + 5, none⟩ f
theorem put6_other {w : World} {g j : Nat} {a b c d e f : Value} {k : Nat} (h : k ≠ g) : (put6 w g j a b c d e f).heap[k]? = w.heap[k]? := by
  unfold put6
  rw [Below.heap_setCell _ _ _ _ h, Below.heap_setCell _ _ _ _ h, Below.heap_setCell _ _ _ _ h, Below.heap_setCell _ _ _ _ h, Below.heap_setCell _ _ _ _ h, Below.heap_setCell _ _ _ _ h]
theorem put6_size {w : World} {g j : Nat} {a b c d e f : Value} : (put6 w g j a b c d e f).heap.size = w.heap.size := by simp [put6, World.setCell]
theorem put6_below {B : Nat} {a w : World} (h : Below B a w) {g j : Nat} (hg : B ≤ g) (x y z u v t : Value) : Below B a (put6 w g j x y z u v t) :=
  (((((h.setCell (p := ⟨g, j, none⟩) hg x).setCell (p := ⟨g, j + 1, none⟩) hg y).setCell (p := ⟨g, j + 2, none⟩) hg z).setCell (p := ⟨g, j + 3, none⟩) hg u).setCell (p := ⟨g, j + 4, none⟩) hg v).setCell (p := ⟨g, j + 5, none⟩) hg t

theorem other1 {w : World} {g i Q j : Nat} {v x : Value} (h : g ≠ Q) (e : w.cell? ⟨g, i, none⟩ = some x) : (w.setCell ⟨Q, j, none⟩ v).cell? ⟨g, i, none⟩ = some x := (World.cell?_of_block (w := w) (a := ⟨g, i, none⟩) (Below.heap_setCell _ _ _ _ h)).trans e
theorem keep6 {W : World} {P g : Nat} {A B C : Value} (hne : g ≠ P + 1) (h : W.cell? ⟨P, 3, none⟩ = some A ∧ W.cell? ⟨g, 2, none⟩ = some B ∧ W.cell? ⟨g, 22, none⟩ = some C) {a b c d e f : Value} {j0 j1 j2 j3 j4 j5 : Nat} :
    ((((((W.setCell ⟨P + 1, j0, none⟩ a).setCell ⟨P + 1, j1, none⟩ b).setCell ⟨P + 1, j2, none⟩ c).setCell ⟨P + 1, j3, none⟩ d).setCell ⟨P + 1, j4, none⟩ e).setCell ⟨P + 1, j5, none⟩ f).cell? ⟨P, 3, none⟩ = some A ∧
    ((((((W.setCell ⟨P + 1, j0, none⟩ a).setCell ⟨P + 1, j1, none⟩ b).setCell ⟨P + 1, j2, none⟩ c).setCell ⟨P + 1, j3, none⟩ d).setCell ⟨P + 1, j4, none⟩ e).setCell ⟨P + 1, j5, none⟩ f).cell? ⟨g, 2, none⟩ = some B ∧
    ((((((W.setCell ⟨P + 1, j0, none⟩ a).setCell ⟨P + 1, j1, none⟩ b).setCell ⟨P + 1, j2, none⟩ c).setCell ⟨P + 1, j3, none⟩ d).setCell ⟨P + 1, j4, none⟩ e).setCell ⟨P + 1, j5, none⟩ f).cell? ⟨g, 22, none⟩ = some C :=
  have hp : P ≠ P + 1 := by omega
  ⟨other1 hp (other1 hp (other1 hp (other1 hp (other1 hp (other1 hp h.1))))), other1 hne (other1 hne (other1 hne (other1 hne (other1 hne (other1 hne h.2.1))))), other1 hne (other1 hne (other1 hne (other1 hne (other1 hne (other1 hne h.2.2)))))⟩

set_option maxRecDepth 100000 in
set_option maxHeartbeats 6400000 in
theorem nodeOf (k n : Int) (s : ByteArray) (l : F) (M : Value) (w : World) (A : Nat → Prop) (hM : Rd w A M l) (hok : l.ok) (hlen : l.nodes ≤ 10000) :
    Calls Try.prog 14 #[.agg #[.int .i64 k, .int .i64 n, .string s, M]] w fun e w' => NdP w w' k l e ∧ Below w.heap.size w w' := by
  obtain ⟨p, cap, rfl, hc, hcm⟩ := rd_slice hM
  unfold maxLen at hcm
  obtain ⟨X, hX⟩ : ∃ X, X = ((w.alloc (.cells #[.int .i64 k, .int .i64 n, .string s, .slice p l.len cap] 37)).alloc (.cells #[.string ⟨#[]⟩, .slice none 0 0, .int .i64 0, .int .i64 0, .int .i64 0, .string ⟨#[]⟩] 56)).alloc (.cells #[.int .i64 1, .int .i64 2, .int .i64 0, .int .i64 0, .int .i64 0, .int .i64 1] 34) := ⟨_, rfl⟩
  obtain ⟨x1, x2, x3, xz, xb⟩ := alloc3 _ _ _ _ _ _ _ X hX
  have HX := hid hX
  have PX := hid (show Pq X w.heap.size k n s (.slice p l.len cap) from ⟨x1, x2⟩)
  have XB := hid xb
  have HM0 := hid hM
  have HM := hid (rd_below (rd_below hM ((Below.refl _ _))) xb)
  have HO := hid hok
  have CL := hid (listOf k n s l (.slice p l.len cap) [1, 2, 0, 0, 0, 1] (w.heap.size + 2) 6 X A HM.out (by decide) (by omega) (fun j a ha => by
    match j, ha with
    | 0, ha => simp at ha; subst ha; simp [World.cell?, x3]
    | 1, ha => simp at ha; subst ha; simp [World.cell?, x3]
    | 2, ha => simp at ha; subst ha; simp [World.cell?, x3]
    | 3, ha => simp at ha; subst ha; simp [World.cell?, x3]
    | 4, ha => simp at ha; subst ha; simp [World.cell?, x3]
    | 5, ha => simp at ha; subst ha; simp [World.cell?, x3]
    | j + 6, ha => simp at ha))
  clear hX x1 x2 x3 xb hM hok
  go_enter Try.func14, Try.ntmps14
  go_wp2_with fail
  rw [← HX.out]
  refine CL.out.mono ?_
  rintro e w1 ⟨rfl, b1⟩
  have P1 := hid (PX.out.below b1)
  have A1 := hid (XB.out.trans (b1.mono (by omega)))
  have z1 : w.heap.size + 3 ≤ w1.heap.size := by have := b1.size; omega
  have HM1 := hid (rd_below HM.out b1)
  clear CL b1 PX XB HM
  rcases e1 : isK k l [1, 2, 0, 0, 0, 1] with _ | _
  · have R := hid (rdN_isK e1)
    obtain ⟨q0, q1, q2, q3, q4, q5, qf⟩ := P1.out.res
    clear e1 HX HM1 HO HM0
    go_wp2_with fail
    exact bodyPost_ret (v := .tuple #[.agg #[.string ⟨#[]⟩, .slice none 0 0, .int .i64 0, .int .i64 0, .int .i64 0, .string ⟨#[]⟩], .bool false]) (by simp [results, Try.results14, go_sem, q0, q1, q2, q3, q4, q5]) rfl ⟨.inr ⟨R.out, rfl⟩, put6_below (j := 0) A1.out (by omega) _ _ _ _ _ _⟩
  · unfold isK at e1
    obtain ⟨hk2, hkk⟩ := of_decide_eq_true e1
    obtain ⟨n0, s0, g0, n1, s1, l1, n2, s2, g2, n3, s3, g3, n4, s4, g4, n5, s5, g5, hl⟩ := kinds6 hkk
    obtain ⟨g, p1, c1, rfl, hg, i0, i1, i2, i3, i4, hL1, i5, i6, i7, i8⟩ := rd_six HM1.out hl
    have hgw : g < w.heap.size := by
      obtain ⟨g', _, _, e, h, _⟩ := rd_six HM0.out hl
      injection e with e; injection e with e; omega
    have hl6 : l.len = 6 := by rw [hl]; rfl
    have hn1 := F.len_nodes l1
    have hnn : l1.nodes < l.nodes := F.at_nodes (j := 1) (k := 2) (n := n1) (s := s1) (by rw [hl]; rfl)
    have hok1 : l1.ok := (F.at_ok (j := 1) (k := 2) (n := n1) (s := s1) (l := l1) (by rw [hl]; rfl) HO.out).2.2.2
    have hs0 : s0.size ≤ 140737488355328 := (F.at_ok (j := 0) (k := 1) (n := n0) (s := s0) (l := g0) (by rw [hl]; rfl) HO.out).2.2.1
    have hs5 : s5.size ≤ 140737488355328 := (F.at_ok (j := 5) (k := 1) (n := n5) (s := s5) (l := g5) (by rw [hl]; rfl) HO.out).2.2.1
    have HR := hid (show rdN1 k l = if sm n2 = true ∧ sm n4 = true then (match rdS l1 with | some ds => some ⟨s0, ds, n2, n3, n4, s5⟩ | none => none) else none by rw [hk2, hl]; exact rdN6 _ _ _ _ _ _ _ _ _ _ _ _ _ _ _ _ _ _)
    have CT := hid (textsOf 2 n1 s1 l1 (.slice p1 l1.len c1) w1 A hL1 hok1 (by omega))
    have CS := hid small
    have HO1 := hid hok1
    have hl1 : l1.len ≤ 10000 := by omega
    have IS := hid (show ∀ V, Below w1.heap.size w1 V → V.cell? ⟨g, 2, none⟩ = some (.string s0) ∧ V.cell? ⟨g, 9, none⟩ = some (.int .i64 n2) ∧ V.cell? ⟨g, 13, none⟩ = some (.int .i64 n3) ∧ V.cell? ⟨g, 17, none⟩ = some (.int .i64 n4) ∧ V.cell? ⟨g, 22, none⟩ = some (.string s5) from fun V b => ⟨(b.cell (p := ⟨g, 2, none⟩) hg).trans i0, (b.cell (p := ⟨g, 9, none⟩) hg).trans i5, (b.cell (p := ⟨g, 13, none⟩) hg).trans i6, (b.cell (p := ⟨g, 17, none⟩) hg).trans i7, (b.cell (p := ⟨g, 22, none⟩) hg).trans i8⟩)
    obtain ⟨q0, q1, q2, q3⟩ := P1.out.cells
    rw [hl6] at q3 P1 ⊢
    clear hl6
    clear e1 hk2 hkk hl hL1 hok1 hnn hn1 HO HM1 HM0 HX i0 i5 i6 i7 i8
    go_wp2_with fail
    refine CT.out.mono ?_
    rintro e w2 ⟨hT, b2⟩
    have A2 := hid (A1.out.trans (b2.mono (by omega)))
    have P2 := hid (P1.out.below b2)
    obtain ⟨j0, j1, j2, j3, j4⟩ := IS.out w2 b2
    obtain ⟨q0, q1, q2, q3⟩ := P2.out.cells
    have z2 : w.heap.size + 3 ≤ w2.heap.size := by have := b2.size; omega
    have hg2 : g < w2.heap.size := by have := b2.size; omega
    have B2 := hid b2
    clear CT b2 i1 i2 i3 i4 P1
    rcases hT with ⟨ds, gd, hds, rfl, hgd, hSs⟩ | ⟨hds, rfl⟩
    · have HS := hid hSs
      have HDS := hid hds
      clear hds hSs
      go_wp2_with fail
      go_quiet (fail)
      obtain ⟨r0, r1, r2, r3, r4, r5, rf⟩ := P2.out.res
      rcases e2 : sm n2 with _ | _
      · have R := hid (show rdN1 k l = none by rw [HR.out, if_neg (by rw [e2]; simp)])
        have C1 := hid fun W => CS.out n2 W
        rw [e2] at C1
        clear e2 HR
        go_wp2_with fail
        refine (C1.out _).mono ?_
        rintro e w3 ⟨rfl, rfl⟩
        clear C1 CS
        go_wp2_with fail
        exact bodyPost_ret (v := .tuple #[.agg #[.string ⟨#[]⟩, .slice none 0 0, .int .i64 0, .int .i64 0, .int .i64 0, .string ⟨#[]⟩], .bool false]) (by simp [results, Try.results14, go_sem, r0, r1, r2, r3, r4, r5]) rfl ⟨.inr ⟨R.out, rfl⟩, put6_below (j := 0) (drewB A2.out) (by omega) _ _ _ _ _ _⟩
      · have C1 := hid fun W => CS.out n2 W
        rw [e2] at C1
        rcases e4 : sm n4 with _ | _
        · have R := hid (show rdN1 k l = none by rw [HR.out, if_neg (by rw [e4]; simp)])
          have C2 := hid fun W => CS.out n4 W
          rw [e4] at C2
          clear e2 e4 HR CS
          go_wp2_with fail
          refine (C1.out _).mono ?_
          rintro e w3 ⟨rfl, rfl⟩
          clear C1
          go_wp2_with fail
          refine (C2.out _).mono ?_
          rintro e w3 ⟨rfl, rfl⟩
          clear C2
          go_wp2_with fail
          exact bodyPost_ret (v := .tuple #[.agg #[.string ⟨#[]⟩, .slice none 0 0, .int .i64 0, .int .i64 0, .int .i64 0, .string ⟨#[]⟩], .bool false]) (by simp [results, Try.results14, go_sem, r0, r1, r2, r3, r4, r5]) rfl ⟨.inr ⟨R.out, rfl⟩, put6_below (j := 0) (drewB A2.out) (by omega) _ _ _ _ _ _⟩
        · have R := hid (show rdN1 k l = some ⟨s0, ds, n2, n3, n4, s5⟩ by rw [HR.out, if_pos ⟨e2, e4⟩, HDS.out])
          have C2 := hid fun W => CS.out n4 W
          rw [e4] at C2
          have HDL := hid (show ds.length = l1.len from (rdS_ok HDS.out HO1.out).2)
          clear e2 e4 HR CS HDS
          go_wp2_with fail
          refine (C1.out _).mono ?_
          rintro e w3 ⟨rfl, rfl⟩
          clear C1
          go_wp2_with fail
          refine (C2.out _).mono ?_
          rintro e w3 ⟨rfl, rfl⟩
          clear C2
          go_wp2_with fail
          have hdl := HDL.out
          obtain ⟨V, hV⟩ : ∃ V, Hid (V = w2.drewN nq) := ⟨_, rfl⟩
          rw [← hV.out]
          have BV := hid (show Below w2.heap.size w2 V by rw [hV.out]; exact drewB (Below.refl _ _))
          have zV : w2.heap.size ≤ V.heap.size := BV.out.size
          have KS := hid fun (W : World) (b : Below V.heap.size V W) => (show W.cell? ⟨w.heap.size, 3, none⟩ = some (.slice (some ⟨g, 0, none⟩) 6 cap) ∧ W.cell? ⟨g, 2, none⟩ = some (.string s0) ∧ W.cell? ⟨g, 22, none⟩ = some (.string s5) from
            ⟨(P2.out.below (BV.out.trans (b.mono BV.out.size))).cells.2.2.2, (IS.out W (B2.out.trans ((BV.out.trans (b.mono BV.out.size)).mono B2.out.size))).1, (IS.out W (B2.out.trans ((BV.out.trans (b.mono BV.out.size)).mono B2.out.size))).2.2.2.2⟩)
          have KR := hid fun (W : World) (b : Below V.heap.size V W) => (P2.out.below (BV.out.trans (b.mono BV.out.size))).res
          have KZ := hid fun (W : World) (b : Below V.heap.size V W) => (⟨A2.out.trans ((BV.out.trans (b.mono BV.out.size)).mono (by have := A2.out.size; omega)), HS.out.below (BV.out.trans (b.mono BV.out.size)), by have := b.size; omega⟩ : Below w.heap.size w W ∧ Ss W (some ⟨gd, 0, none⟩) ds ∧ w2.heap.size ≤ W.heap.size)
          have hx1 : s0.size ≤ 281474976710656 := by omega
          have hx2 : s5.size ≤ 281474976710656 := by omega
          have K1 := hid fun (W : World) (b : Below V.heap.size V W) => (Wc.clone s0 W hx1).mono fun e w' h => (⟨h.1, hid (b.trans (h.2.mono b.size)), KS.out w' (b.trans (h.2.mono b.size))⟩ : e = .returned (.string s0) ∧ Hid (Below V.heap.size V w') ∧ w'.cell? ⟨w.heap.size, 3, none⟩ = some (.slice (some ⟨g, 0, none⟩) 6 cap) ∧ w'.cell? ⟨g, 2, none⟩ = some (.string s0) ∧ w'.cell? ⟨g, 22, none⟩ = some (.string s5))
          have K2 := hid fun (W : World) (b : Below V.heap.size V W) => (Wc.clone s5 W hx2).mono fun e w' h => (⟨h.1, hid (b.trans (h.2.mono b.size)), KR.out w' (b.trans (h.2.mono b.size)), KS.out w' (b.trans (h.2.mono b.size))⟩ : e = .returned (.string s5) ∧ Hid (Below V.heap.size V w') ∧ (w'.cell? ⟨w.heap.size + 1, 0, none⟩ = some (.string ⟨#[]⟩) ∧ w'.cell? ⟨w.heap.size + 1, 1, none⟩ = some (.slice none 0 0) ∧ w'.cell? ⟨w.heap.size + 1, 2, none⟩ = some (.int .i64 0) ∧ w'.cell? ⟨w.heap.size + 1, 3, none⟩ = some (.int .i64 0) ∧ w'.cell? ⟨w.heap.size + 1, 4, none⟩ = some (.int .i64 0) ∧ w'.cell? ⟨w.heap.size + 1, 5, none⟩ = some (.string ⟨#[]⟩) ∧ ∀ j, w'.frozen? ⟨w.heap.size + 1, j, none⟩ = false) ∧ w'.cell? ⟨w.heap.size, 3, none⟩ = some (.slice (some ⟨g, 0, none⟩) 6 cap) ∧ w'.cell? ⟨g, 2, none⟩ = some (.string s0) ∧ w'.cell? ⟨g, 22, none⟩ = some (.string s5))
          clear IS P2 r0 r1 r2 r3 r4 r5 rf q0 q1 q2 q3 j0 j1 j2 j3 j4
          obtain ⟨t0, t1, t2⟩ := KS.out V (Below.refl _ _)
          clear hV BV KR
          have hne : g ≠ w.heap.size + 1 := by omega
          have kk := KS.out V (Below.refl _ _)
          have hgp : w2.heap.size ≤ V.heap.size := zV
          have HQ := hid (show gd ≠ w.heap.size + 1 ∧ w.heap.size ≤ gd ∧ ds.length ≤ 9223372036854775807 ∧ w.heap.size + 3 ≤ V.heap.size by omega)
          clear hgp zV hdl q0 q1 q2 q3 hs0 hs5 HO1 hl1 hgw hg hg2 hc hcm xz hlen z1 z2 hgd hx1 hx2 KS HDL
          go_region_held3 (fun W => W.cell? ⟨w.heap.size, 3, none⟩ = some (.slice (some ⟨g, 0, none⟩) 6 cap) ∧ W.cell? ⟨g, 2, none⟩ = some (.string s0) ∧ W.cell? ⟨g, 22, none⟩ = some (.string s5))
            (first | with_reducible exact hS | with_reducible exact keep6 hne hS | go_keep)
            (first
              | (go_at_call 15; refine (K1.out _ (Below.refl _ _).drew).mono ?_; rintro e wa ⟨rfl, ba, hS⟩; clear K1)
              | (go_at_call 15; refine (K2.out _ ba.out).mono ?_; rintro e wb ⟨rfl, bb, ⟨r0, r1, r2, r3, r4, r5, rf⟩, hS⟩; clear K2 kk))
          go_wp2_with fail
          obtain ⟨k1, k2, k3⟩ := KZ.out _ bb.out
          obtain ⟨k6, k7, k8, k9⟩ := HQ.out
          refine bodyPost_ret (v := .tuple #[.agg #[.string s0, .slice (some ⟨gd, 0, none⟩) ds.length ds.length, .int .i64 n2, .int .i64 n3, .int .i64 n4, .string s5], .bool true]) (by simp [results, Try.results14, go_sem, r0, r1, r2, r3, r4, r5]) rfl ⟨.inl ⟨_, _, _, R.out, rfl, Nat.le_refl _, k8, ?_⟩, put6_below (j := 0) k1 (by omega) _ _ _ _ _ _⟩
          rcases k2 with k2 | ⟨g', e', k4, k5⟩
          · exact .inl k2
          · injection e' with e'
            injection e' with e'
            subst e'
            exact .inr ⟨gd, rfl, by omega, Nat.lt_of_lt_of_eq k4 (put6_size (j := 0)).symm, fun i u hu => (World.cell?_of_block (a := ⟨gd, i, none⟩) (put6_other (j := 0) (by omega))).trans (k5 i u hu)⟩
    · have R := hid (show rdN1 k l = none by rw [HR.out, hds]; split <;> rfl)
      clear hds HR
      obtain ⟨r0, r1, r2, r3, r4, r5, rf⟩ := P2.out.res
      go_wp2_with fail
      go_quiet (fail)
      go_wp2_with fail
      exact bodyPost_ret (v := .tuple #[.agg #[.string ⟨#[]⟩, .slice none 0 0, .int .i64 0, .int .i64 0, .int .i64 0, .string ⟨#[]⟩], .bool false]) (by simp [results, Try.results14, go_sem, r0, r1, r2, r3, r4, r5]) rfl ⟨.inr ⟨R.out, rfl⟩, put6_below (j := 0) (drewB A2.out) (by omega) _ _ _ _ _ _⟩

end Go.Proofs.Ytainajjklakaeaa.Wgr
