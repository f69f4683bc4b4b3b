/-
  What the document's Read goes by: how the cells of a value's inner ones read, what fails, the row of texts under way in a node ('Inn'), the workflow under way ('R1'). No Go text is in sight.
-/
import Derived.Test.YtainajjklakaeaaGpRc
import Derived.Test.YtainajjklakaeaaGpRv
namespace Go.Proofs.Ytainajjklakaeaa.Wgx
open Go.ChangeShapes Go.WideShapes Go.ChangeAt Go.RowKit Go.Proofs.Ytainajjklakaeaa.M Go.Proofs.Ytainajjklakaeaa.Wgp Go.Proofs.Ytainajjklakaeaa.Wgf

theorem two_of {l : F} (h : l.len = 2) : ∃ k0 n0 s0 g0 k1 n1 s1 l1, l = .cons k0 n0 s0 g0 (.cons k1 n1 s1 l1 .nil) := by
  match l, h with
  | .cons k0 n0 s0 g0 (.cons k1 n1 s1 l1 .nil), _ => exact ⟨k0, n0, s0, g0, k1, n1, s1, l1, rfl⟩
  | .nil, h => simp [F.len] at h
  | .cons _ _ _ _ .nil, h => simp [F.len] at h
  | .cons _ _ _ _ (.cons _ _ _ _ (.cons _ _ _ _ r)), h => simp only [F.len] at h; omega
theorem six_of {l : F} (h : l.len = 6) : ∃ k0 n0 s0 g0 k1 n1 s1 l1 k2 n2 s2 g2 k3 n3 s3 g3 k4 n4 s4 g4 k5 n5 s5 g5, l = .cons k0 n0 s0 g0 (.cons k1 n1 s1 l1 (.cons k2 n2 s2 g2 (.cons k3 n3 s3 g3 (.cons k4 n4 s4 g4 (.cons k5 n5 s5 g5 .nil))))) := by
  match l, h with
  | .cons k0 n0 s0 g0 (.cons k1 n1 s1 l1 (.cons k2 n2 s2 g2 (.cons k3 n3 s3 g3 (.cons k4 n4 s4 g4 (.cons k5 n5 s5 g5 .nil))))), _ => exact ⟨k0, n0, s0, g0, k1, n1, s1, l1, k2, n2, s2, g2, k3, n3, s3, g3, k4, n4, s4, g4, k5, n5, s5, g5, rfl⟩
  | .nil, h => simp [F.len] at h
  | .cons _ _ _ _ .nil, h => simp [F.len] at h
  | .cons _ _ _ _ (.cons _ _ _ _ .nil), h => simp [F.len] at h
  | .cons _ _ _ _ (.cons _ _ _ _ (.cons _ _ _ _ .nil)), h => simp [F.len] at h
  | .cons _ _ _ _ (.cons _ _ _ _ (.cons _ _ _ _ (.cons _ _ _ _ .nil))), h => simp [F.len] at h
  | .cons _ _ _ _ (.cons _ _ _ _ (.cons _ _ _ _ (.cons _ _ _ _ (.cons _ _ _ _ .nil)))), h => simp [F.len] at h
  | .cons _ _ _ _ (.cons _ _ _ _ (.cons _ _ _ _ (.cons _ _ _ _ (.cons _ _ _ _ (.cons _ _ _ _ (.cons _ _ _ _ r)))))), h => simp only [F.len] at h; omega
theorem nd_len {k : Int} {l : F} (h : k ≠ 2 ∨ l.len ≠ 6) : rdN1 k l = none := Wgr.rdN_isK (Wgr.isK_no (by simpa using h))
theorem nd_kind {k k0 k1 k2 k3 k4 k5 n0 n1 n2 n3 n4 n5 : Int} {s0 s1 s2 s3 s4 s5 : ByteArray} {g0 l1 g2 g3 g4 g5 : F} (h : k0 ≠ 1 ∨ k1 ≠ 2 ∨ k2 ≠ 0 ∨ k3 ≠ 0 ∨ k4 ≠ 0 ∨ k5 ≠ 1) : rdN1 k (.cons k0 n0 s0 g0 (.cons k1 n1 s1 l1 (.cons k2 n2 s2 g2 (.cons k3 n3 s3 g3 (.cons k4 n4 s4 g4 (.cons k5 n5 s5 g5 .nil)))))) = none := by
  refine Wgr.rdN_isK ?_
  unfold Wgr.isK
  refine decide_eq_false ?_
  rintro ⟨_, e⟩
  simp only [F.kinds, List.cons.injEq, and_true] at e
  omega
theorem fl_len {k : Int} {l : F} (h : k ≠ 2 ∨ l.len ≠ 2) : rdF k l = none := Wgr.rdF_isK (Wgr.isK_no (by simpa using h))
theorem fl_kind {k k0 k1 n0 n1 : Int} {s0 s1 : ByteArray} {g0 l1 : F} (h : k0 ≠ 1 ∨ k1 ≠ 2) : rdF k (.cons k0 n0 s0 g0 (.cons k1 n1 s1 l1 .nil)) = none := by
  refine Wgr.rdF_isK ?_
  unfold Wgr.isK
  refine decide_eq_false ?_
  rintro ⟨_, e⟩
  simp only [F.kinds, List.cons.injEq, and_true] at e
  omega
theorem nd_six (n0 n1 n2 n3 n4 n5 : Int) (s0 s1 s2 s3 s4 s5 : ByteArray) (g0 l1 g2 g3 g4 g5 : F) : rdN1 2 (.cons 1 n0 s0 g0 (.cons 2 n1 s1 l1 (.cons 0 n2 s2 g2 (.cons 0 n3 s3 g3 (.cons 0 n4 s4 g4 (.cons 1 n5 s5 g5 .nil)))))) = if sm n2 = true ∧ sm n4 = true then (match rdS l1 with | some ds => some ⟨s0, ds, n2, n3, n4, s5⟩ | none => none) else none := Wgr.rdN6 _ _ _ _ _ _ _ _ _ _ _ _ _ _ _ _ _ _

theorem rd_two2 {w : World} {A : Nat → Prop} {p : Option Addr} {cap : Nat} {l : F} {k0 k1 n0 n1 : Int} {s0 s1 : ByteArray} {g0 l1 : F} (h : Rd w A (.slice p l.len cap) l) (hl : l = .cons k0 n0 s0 g0 (.cons k1 n1 s1 l1 .nil)) :
    ∃ g p1 c1, p = some ⟨g, 0, none⟩ ∧ g < w.heap.size ∧ w.cell? ⟨g, 0, none⟩ = some (.int .i64 k0) ∧ w.cell? ⟨g, 2, none⟩ = some (.string s0) ∧ w.cell? ⟨g, 4, none⟩ = some (.int .i64 k1) ∧ w.cell? ⟨g, 7, none⟩ = some (.slice p1 l1.len c1) ∧ Rd w A (.slice p1 l1.len c1) l1 := by
  have a0 : l.at 0 = some (k0, n0, s0, g0) := by rw [hl]; rfl
  have a1 : l.at 1 = some (k1, n1, s1, l1) := by rw [hl]; rfl
  obtain ⟨g, L0, rfl, _, hg, u0, _, x0, _⟩ := rd_at h a0
  obtain ⟨g1', L1, e1, _, _, u1, _, _, y3, hL1⟩ := rd_at h a1
  injection e1 with e1
  injection e1 with e1
  subst e1
  obtain ⟨p1, c1, rfl, _, _⟩ := rd_slice hL1
  exact ⟨_, p1, c1, rfl, hg, u0, x0, u1, y3, hL1⟩
theorem rd_six2 {w : World} {A : Nat → Prop} {p : Option Addr} {cap : Nat} {l : F} {k0 k1 k2 k3 k4 k5 n0 n1 n2 n3 n4 n5 : Int} {s0 s1 s2 s3 s4 s5 : ByteArray} {g0 l1 g2 g3 g4 g5 : F} (h : Rd w A (.slice p l.len cap) l) (hl : l = .cons k0 n0 s0 g0 (.cons k1 n1 s1 l1 (.cons k2 n2 s2 g2 (.cons k3 n3 s3 g3 (.cons k4 n4 s4 g4 (.cons k5 n5 s5 g5 .nil)))))) :
    ∃ g p1 c1, p = some ⟨g, 0, none⟩ ∧ g < w.heap.size ∧ Rd w A (.slice p1 l1.len c1) l1 ∧ (w.cell? ⟨g, 0, none⟩ = some (.int .i64 k0) ∧ w.cell? ⟨g, 4, none⟩ = some (.int .i64 k1) ∧ w.cell? ⟨g, 8, none⟩ = some (.int .i64 k2) ∧ w.cell? ⟨g, 12, none⟩ = some (.int .i64 k3) ∧ w.cell? ⟨g, 16, none⟩ = some (.int .i64 k4) ∧ w.cell? ⟨g, 20, none⟩ = some (.int .i64 k5)) ∧
      (w.cell? ⟨g, 2, none⟩ = some (.string s0) ∧ w.cell? ⟨g, 7, none⟩ = some (.slice p1 l1.len c1) ∧ w.cell? ⟨g, 9, none⟩ = some (.int .i64 n2) ∧ w.cell? ⟨g, 13, none⟩ = some (.int .i64 n3) ∧ w.cell? ⟨g, 17, none⟩ = some (.int .i64 n4) ∧ w.cell? ⟨g, 22, none⟩ = some (.string s5)) := by
  have a0 : l.at 0 = some (k0, n0, s0, g0) := by rw [hl]; rfl
  have a1 : l.at 1 = some (k1, n1, s1, l1) := by rw [hl]; rfl
  have a2 : l.at 2 = some (k2, n2, s2, g2) := by rw [hl]; rfl
  have a3 : l.at 3 = some (k3, n3, s3, g3) := by rw [hl]; rfl
  have a4 : l.at 4 = some (k4, n4, s4, g4) := by rw [hl]; rfl
  have a5 : l.at 5 = some (k5, n5, s5, g5) := by rw [hl]; rfl
  obtain ⟨g, L0, rfl, _, hg, u0, _, x0, _⟩ := rd_at h a0
  have same : ∀ {g' : Nat}, some (⟨g, 0, none⟩ : Addr) = some ⟨g', 0, none⟩ → g' = g := fun e => by injection e with e; injection e with e; exact e.symm
  obtain ⟨g1', L1, e1, _, _, u1, _, _, y3, hL1⟩ := rd_at h a1
  obtain ⟨g2', L2, e2, _, _, u2, x2, _⟩ := rd_at h a2
  obtain ⟨g3', L3, e3, _, _, u3, x3, _⟩ := rd_at h a3
  obtain ⟨g4', L4, e4, _, _, u4, x4, _⟩ := rd_at h a4
  obtain ⟨g5', L5, e5, _, _, u5, _, x5, _⟩ := rd_at h a5
  have e1 := same e1
  have e2 := same e2
  have e3 := same e3
  have e4 := same e4
  have e5 := same e5
  subst e1 e2 e3 e4 e5
  obtain ⟨p1, c1, rfl, _, _⟩ := rd_slice hL1
  exact ⟨_, p1, c1, rfl, hg, hL1, ⟨u0, u1, u2, u3, u4, u5⟩, x0, y3, x2, x3, x4, x5⟩

theorem own_far {w Y : World} {base e size n : Nat} {v : Value} {xs : List Value} (o1 : w.ownsRow base e size v n xs) (h : ∀ b, base ≤ b → Y.heap[b]? = w.heap[b]?) : Y.ownsRow base e size v n xs := by
  refine ⟨o1.1, ?_⟩
  rcases o1.2 with h2 | ⟨gg, cap, cur, h1, h2, h3, h4⟩
  · exact .inl h2
  · exact .inr ⟨gg, cap, cur, h1, h2, (h gg h2).trans h3, h4⟩

/-- A node under way: the value in a box, the node behind it, its Deps in a row of their own. -/
def Inn (wo wi : World) (bx : Array Value) (s0 : ByteArray) (n2 n3 n4 : Int) (s5 : ByteArray) (q : Option Addr) (k d : Nat) (ys : List Value) : Prop :=
  Below wo.heap.size wo wi ∧ wo.heap.size + 2 ≤ wi.heap.size ∧ wi.heap[wo.heap.size]? = some (.cells bx 40 (0, 0)) ∧ wi.heap[wo.heap.size + 1]? = some (.cells #[.string s0, .slice q k d, .int .i64 n2, .int .i64 n3, .int .i64 n4, .string s5] 57 (0, 0)) ∧ wi.ownsRow (wo.heap.size + 2) 9 1 (.slice q k d) k ys
theorem Inn.end {wo wi w3 : World} {bx : Array Value} {s0 s5 : ByteArray} {n2 n3 n4 : Int} {q : Option Addr} {k d g cap : Nat} {ys : List Value} {o : Obj} {v : Value} (h : Inn wo wi bx s0 n2 n3 n4 s5 q k d ys)
    (own3 : w3.ownsRow (wo.heap.size + 2) 9 1 (.slice (some ⟨g, 0, none⟩) (k + 1) cap) (k + 1) (ys ++ [v])) (gr3 : (wi.drew.alloc o).grownBy w3 (Value.slice q k d).ownBlock) :
    (w3.cell? ⟨wo.heap.size + 1, 1, none⟩ = some (.slice q k d) ∧ w3.frozen? ⟨wo.heap.size + 1, 1, none⟩ = false) ∧ Inn wo (w3.setCell ⟨wo.heap.size + 1, 1, none⟩ (.slice (some ⟨g, 0, none⟩) (k + 1) cap)) bx s0 n2 n3 n4 s5 (some ⟨g, 0, none⟩) (k + 1) cap (ys ++ [v]) := by
  obtain ⟨h1, h2, h3, h4, h5⟩ := h
  have hd : wi.drew.heap = wi.heap := rfl
  have hz := gr3.size
  rw [World.size_alloc] at hz
  have hz : wi.heap.size + 1 ≤ w3.heap.size := hz
  have lo : ∀ j, j < wo.heap.size + 2 → w3.heap[j]? = wi.heap[j]? := fun j hj => (gr3.block j (by rw [World.size_alloc]; show j < wi.heap.size + 1; omega) (fun e => by have := (h5.lt j e.symm).1; omega)).trans (Below.heap_alloc wi.drew o j (by show j < wi.heap.size; omega))
  have y4 := (lo (wo.heap.size + 1) (by omega)).trans h4
  have z4 := heap_set1 y4 1 (.slice (some ⟨g, 0, none⟩) (k + 1) cap)
  have oth : ∀ j, j ≠ wo.heap.size + 1 → (w3.setCell ⟨wo.heap.size + 1, 1, none⟩ (.slice (some ⟨g, 0, none⟩) (k + 1) cap)).heap[j]? = w3.heap[j]? := fun j hj => Below.heap_setCell _ _ _ _ hj
  have hsz : (w3.setCell ⟨wo.heap.size + 1, 1, none⟩ (.slice (some ⟨g, 0, none⟩) (k + 1) cap)).heap.size = w3.heap.size := by simp [World.setCell]
  refine ⟨⟨by simp [World.cell?, y4], frozen_there y4 1⟩, ⟨gr3.os.trans h1.os, gr3.tape.trans h1.tape, gr3.output.trans h1.output, by rw [hsz]; omega, fun j hj => ((oth j (by omega)).trans (lo j (by omega))).trans (h1.block j hj)⟩, by rw [hsz]; omega, ((oth _ (by omega)).trans (lo _ (by omega))).trans h3, by rw [z4]; simp, own_far own3 fun b hb => oth b (by omega)⟩

/-- The workflow under way: its head in block C, its nodes in a row of its own. -/
def R1 (base C : Nat) (nm : ByteArray) (N : List Nd) (X : World) : Prop := ∃ (S : Nat → Prop) (q : Option Addr) (d : Nat) (xs : List Value),
  X.heap[C]? = some (.cells #[.string nm, .slice q N.length d] 31 (0, 0)) ∧ X.ownsRow base 57 6 (.slice q N.length d) N.length xs ∧ NF X S N xs ∧ (∀ g, S g → base ≤ g ∧ g < X.heap.size ∧ (Value.slice q N.length d).ownBlock ≠ some g) ∧ base ≤ X.heap.size
theorem r_mid {base C : Nat} {nm : ByteArray} {N : List Nd} {wr X : World} (h : R1 base C nm N wr) (g : wr.grownBy X none) : ∃ (S : Nat → Prop) (q : Option Addr) (d : Nat) (xs : List Value),
    X.heap[C]? = some (.cells #[.string nm, .slice q N.length d] 31 (0, 0)) ∧ X.ownsRow base 57 6 (.slice q N.length d) N.length xs ∧ NF X S N xs ∧ (∀ g, S g → base ≤ g ∧ g < X.heap.size ∧ (Value.slice q N.length d).ownBlock ≠ some g) ∧ (∀ x, wr.heap.size ≤ x → x < X.heap.size → S x) ∧ base ≤ X.heap.size := by
  obtain ⟨S, q, d, xs, h1, h2, h3, h4, h5⟩ := h
  have hz := g.size
  refine ⟨fun x => S x ∨ (wr.heap.size ≤ x ∧ x < X.heap.size), q, d, xs, (g.block C (lt_of_heap h1) (by simp)).trans h1, h2.kept g (by cases hv : (Value.slice q N.length d).ownBlock <;> simp), h3.far (fun _ h => .inl h) hz (fun x _ hl => g.block x hl (by simp)), ?_, fun x a b => .inr ⟨a, b⟩, by omega⟩
  rintro x (hx | ⟨hx1, hx2⟩)
  · obtain ⟨a, b, c⟩ := h4 x hx
    exact ⟨a, by omega, c⟩
  · refine ⟨by omega, hx2, fun e => ?_⟩
    have := (h2.lt x e).2
    omega
theorem r_end {base C g t d ec : Nat} {nm : ByteArray} {N : List Nd} {y : Nd} {S : Nat → Prop} {q ea : Option Addr} {xs : List Value} {X X' Y : World} (lC : C < base)
    (a1 : X.heap[C]? = some (.cells #[.string nm, .slice q N.length d] 31 (0, 0))) (own : X.ownsRow base 57 6 (.slice q N.length d) N.length xs) (hN : NF X S N xs) (hk : ∀ g, S g → base ≤ g ∧ g < X.heap.size ∧ (Value.slice q N.length d).ownBlock ≠ some g) (hD : DpS X S y ea ec) (hX : base ≤ X.heap.size)
    (gX : X.grownBy X' none) (o1 : Y.ownsRow base 57 6 (.slice (some ⟨g, 0, none⟩) (N.length + 1) t) (N.length + 1) (xs ++ [.string y.name, .slice ea y.deps.length ec, .int .i64 y.tries, .int .i64 y.lease, .int .i64 y.tenant, .string y.flow])) (g1 : X'.grownBy Y (Value.slice q N.length d).ownBlock) (at1 : (Value.slice q N.length d).ownBlock = some g ∨ g = X'.heap.size) :
    R1 base C nm (N ++ [y]) (Y.setCell ⟨C, 1, none⟩ (.slice (some ⟨g, 0, none⟩) (N.length + 1) t)) ∧ (∀ j, j < base → j ≠ C → (Y.setCell ⟨C, 1, none⟩ (.slice (some ⟨g, 0, none⟩) (N.length + 1) t)).heap[j]? = X.heap[j]?) ∧ X.heap.size ≤ (Y.setCell ⟨C, 1, none⟩ (.slice (some ⟨g, 0, none⟩) (N.length + 1) t)).heap.size ∧ (Y.setCell ⟨C, 1, none⟩ (.slice (some ⟨g, 0, none⟩) (N.length + 1) t)).os = X.os ∧ (Y.setCell ⟨C, 1, none⟩ (.slice (some ⟨g, 0, none⟩) (N.length + 1) t)).tape = X.tape ∧ (Y.setCell ⟨C, 1, none⟩ (.slice (some ⟨g, 0, none⟩) (N.length + 1) t)).output = X.output := by
  have zX := gX.size
  have zY := g1.size
  have hsz : (Y.setCell ⟨C, 1, none⟩ (.slice (some ⟨g, 0, none⟩) (N.length + 1) t)).heap.size = Y.heap.size := by simp [World.setCell]
  have hlow : ∀ j, j < base → Y.heap[j]? = X.heap[j]? := fun j hj => (g1.block j (by omega) (fun e => by have := (own.lt j e.symm).1; omega)).trans (gX.block j (by omega) (by simp))
  have hkid : ∀ j, S j → Y.heap[j]? = X.heap[j]? := fun j hj => (g1.block j (by have := (hk j hj).2.1; omega) (fun e => (hk j hj).2.2 e.symm)).trans (gX.block j (hk j hj).2.1 (by simp))
  have yC := (hlow C lC).trans a1
  have zC := heap_set1 yC 1 (.slice (some ⟨g, 0, none⟩) (N.length + 1) t)
  have hoth : ∀ j, j ≠ C → (Y.setCell ⟨C, 1, none⟩ (.slice (some ⟨g, 0, none⟩) (N.length + 1) t)).heap[j]? = Y.heap[j]? := fun j hj => Below.heap_setCell _ _ _ _ hj
  have hos : (Y.setCell ⟨C, 1, none⟩ (.slice (some ⟨g, 0, none⟩) (N.length + 1) t)).os = X.os := (show Y.os = X.os from g1.os.trans gX.os)
  have hta : (Y.setCell ⟨C, 1, none⟩ (.slice (some ⟨g, 0, none⟩) (N.length + 1) t)).tape = X.tape := (show Y.tape = X.tape from g1.tape.trans gX.tape)
  have hou : (Y.setCell ⟨C, 1, none⟩ (.slice (some ⟨g, 0, none⟩) (N.length + 1) t)).output = X.output := (show Y.output = X.output from g1.output.trans gX.output)
  generalize Y.setCell ⟨C, 1, none⟩ (.slice (some ⟨g, 0, none⟩) (N.length + 1) t) = Z at *
  have hlen : (N ++ [y]).length = N.length + 1 := by simp
  have hkZ : ∀ j, S j → j < X.heap.size → Z.heap[j]? = X.heap[j]? := fun j hj _ => (hoth j (by have := (hk j hj).1; omega)).trans (hkid j hj)
  refine ⟨⟨S, some ⟨g, 0, none⟩, t, _, by rw [hlen, zC]; simp, ?_, NF.snoc (hD.far (fun _ h => h) (by omega) hkZ) (hN.far (fun _ h => h) (by omega) hkZ), ?_, by omega⟩, fun j h1 h2 => (hoth j h2).trans (hlow j h1), by omega, hos, hta, hou⟩
  · rw [hlen]
    exact own_far o1 fun b hb => hoth b (by omega)
  · intro x hx
    obtain ⟨a, b, c⟩ := hk x hx
    refine ⟨a, by omega, ?_⟩
    show some g ≠ some x
    rcases at1 with e | e
    · rw [← e]; exact c
    · intro e2; injection e2 with e2; omega
theorem r_fin {base C : Nat} {nm : ByteArray} {N : List Nd} {X : World} (h : R1 base C nm N X) : ∃ (q : Option Addr) (d : Nat), X.cell? ⟨C, 0, none⟩ = some (.string nm) ∧ X.cell? ⟨C, 1, none⟩ = some (.slice q N.length d) ∧ N.length ≤ d ∧ d ≤ maxLen ∧ ∀ Y : World, Y.heap.size = X.heap.size → (∀ b, base ≤ b → Y.heap[b]? = X.heap[b]?) → Ns Y q N := by
  obtain ⟨S, q, d, xs, h1, h2, h3, h4, h5⟩ := h
  refine ⟨q, d, by simp [World.cell?, h1], by simp [World.cell?, h1], (ns_own h2 h3).2.1, (ns_own h2 h3).2.2, fun Y hz hb => ?_⟩
  exact (ns_own (own_far h2 hb) (h3.far (S' := S) (fun _ h => h) (by omega) (fun b hs _ => hb b (h4 b hs).1))).1

/-- The box, the result's place, the empty workflow. -/
def Pz (W : World) (P : Nat) (k n : Int) (s : ByteArray) (M : Value) : Prop := W.heap[P]? = some (.cells #[.int .i64 k, .int .i64 n, .string s, M] 40 (0, 0)) ∧ W.heap[P + 1]? = some (.cells #[.string ⟨#[]⟩, .slice none 0 0] 31 (0, 0)) ∧ W.heap[P + 1 + 1]? = some (.cells #[.string ⟨#[]⟩, .slice none 0 0] 31 (0, 0))
theorem Pz.far {W W' : World} {P : Nat} {k n : Int} {s : ByteArray} {M : Value} (h : Pz W P k n s M) (b : ∀ j, j < P + 3 → W'.heap[j]? = W.heap[j]?) : Pz W' P k n s M :=
  ⟨(b _ (by omega)).trans h.1, (b _ (by omega)).trans h.2.1, (b _ (by omega)).trans h.2.2⟩
theorem Pz.cells {W : World} {P : Nat} {k n : Int} {s : ByteArray} {M : Value} (h : Pz W P k n s M) : W.cell? ⟨P, 3, none⟩ = some M ∧ W.cell? ⟨P + 1, 0, none⟩ = some (.string ⟨#[]⟩) ∧ W.cell? ⟨P + 1, 1, none⟩ = some (.slice none 0 0) ∧ (∀ j, W.frozen? ⟨P + 1, j, none⟩ = false) ∧ W.cell? ⟨P + 1 + 1, 0, none⟩ = some (.string ⟨#[]⟩) ∧ W.cell? ⟨P + 1 + 1, 1, none⟩ = some (.slice none 0 0) := by
  refine ⟨?_, ?_, ?_, frozen_there h.2.1, ?_, ?_⟩ <;> simp [World.cell?, h.1, h.2.1, h.2.2]
/-- What else lies there while the nodes are read. -/
def Ez (w : World) (k n : Int) (s : ByteArray) (M : Value) (wr : World) : Prop := Below w.heap.size w wr ∧ Pz wr w.heap.size k n s M ∧ w.heap.size + 4 ≤ wr.heap.size
theorem Ez.grow {w X Y : World} {k n : Int} {s : ByteArray} {M : Value} (h : Ez w k n s M X) (g : X.grownBy Y none) : Ez w k n s M Y := by
  obtain ⟨h1, h2, h3⟩ := h
  have hz := g.size
  exact ⟨h1.trans ((below_grown g).mono h1.size), h2.far (fun j hj => g.block j (by omega) (by simp)), by omega⟩
theorem Ez.end {w X Z : World} {k n : Int} {s : ByteArray} {M : Value} (h : Ez w k n s M X) (hj : ∀ j, j < w.heap.size + 4 → j ≠ w.heap.size + 1 + 1 + 1 → Z.heap[j]? = X.heap[j]?) (hz : X.heap.size ≤ Z.heap.size) (ho : Z.os = X.os) (ht : Z.tape = X.tape) (hu : Z.output = X.output) : Ez w k n s M Z := by
  obtain ⟨h1, h2, h3⟩ := h
  exact ⟨⟨ho.trans h1.os, ht.trans h1.tape, hu.trans h1.output, by omega, fun j hj1 => (hj j (by omega) (by omega)).trans (h1.block j hj1)⟩, h2.far (fun j hj1 => hj j (by omega) (by omega)), by omega⟩

/-- What the document's Read comes to. -/
def RrP (w' : World) (k : Int) (l : F) (e : Ending) : Prop :=
  (∃ (nm : ByteArray) (L : List Nd) (a : Option Addr) (c : Nat), rdF k l = some (nm, L) ∧ e = .returned (.tuple #[.agg #[.string nm, .slice a L.length c], .int .i64 0]) ∧ L.length ≤ c ∧ c ≤ maxLen ∧ Ns w' a L) ∨
  (rdF k l = none ∧ e = .returned (.tuple #[.agg #[.string ⟨#[]⟩, .slice none 0 0], .int .i64 4]))
theorem put2_below {B : Nat} {a w : World} (h : Below B a w) {g j : Nat} (hg : B ≤ g) (x y : Value) : Below B a ((w.setCell ⟨g, j, none⟩ x).setCell ⟨g, j + 1, none⟩ y) :=
  (h.setCell (p := ⟨g, j, none⟩) hg x).setCell (p := ⟨g, j + 1, none⟩) hg y

end Go.Proofs.Ytainajjklakaeaa.Wgx
