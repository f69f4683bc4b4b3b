/-
  Values as plain forests: a list of values is 'F' (kind, number, text, list; the rest). What it is that a row of cells reads as one ('Fits', 'Rd'), and that it still does where memory stays. No Go text is in sight.
-/
import Derived.WalkKit
import Derived.ProofKit
import Derived.Test.YtainajjklakaeaaMathT
namespace Go.Proofs.Ytainajjklakaeaa.M
open Go.RowKit

/-- A list of values: of the first its kind, number, text, list; the rest. -/
inductive F where
  | nil : F
  | cons (k n : Int) (s : ByteArray) (l r : F) : F

def F.len : F → Nat
  | .nil => 0
  | .cons _ _ _ _ r => r.len + 1
def F.app : F → F → F
  | .nil, g => g
  | .cons k n s l r, g => .cons k n s l (r.app g)
theorem F.len_app : ∀ (f g : F), (f.app g).len = f.len + g.len
  | .nil, g => by simp [F.app, F.len]
  | .cons k n s l r, g => by simp [F.app, F.len, F.len_app r g]; omega
theorem F.app_nil : ∀ f : F, f.app .nil = f
  | .nil => rfl
  | .cons k n s l r => by simp [F.app, F.app_nil r]
theorem F.app_assoc : ∀ f g h : F, (f.app g).app h = f.app (g.app h)
  | .nil, g, h => rfl
  | .cons k n s l r, g, h => by simp [F.app, F.app_assoc r g h]

/-- How many values there are, the inner ones, too. -/
def F.nodes : F → Nat
  | .nil => 0
  | .cons _ _ _ l r => l.nodes + r.nodes + 1
theorem F.len_nodes : ∀ f : F, f.len ≤ f.nodes
  | .nil => Nat.le_refl _
  | .cons k n s l r => by have := F.len_nodes r; simp [F.len, F.nodes]; omega
theorem F.nodes_app : ∀ (f g : F), (f.app g).nodes = f.nodes + g.nodes
  | .nil, g => by simp [F.app, F.nodes]
  | .cons k n s l r, g => by simp [F.app, F.nodes, F.nodes_app r g]; omega

/-- Every number fits its kind, every text a machine. -/
def F.ok : F → Prop
  | .nil => True
  | .cons k n s l r => (-9223372036854775808 ≤ k ∧ k < 9223372036854775808) ∧ (-9223372036854775808 ≤ n ∧ n < 9223372036854775808) ∧ s.size ≤ 140737488355328 ∧ l.ok ∧ r.ok
theorem F.ok_app : ∀ {f g : F}, f.ok → g.ok → (f.app g).ok
  | .nil, _, _, h => h
  | .cons _ _ _ _ _, _, h, h2 => ⟨h.1, h.2.1, h.2.2.1, h.2.2.2.1, F.ok_app h.2.2.2.2 h2⟩

/-- A row of cells reads as a list of values; the rows of the inner lists lie in blocks of A. -/
def Fits (w : World) (A : Nat → Prop) : F → List Value → Prop
  | .nil, xs => xs = []
  | .cons k n s l r, xs => ∃ L ys, xs = .int .i64 k :: .int .i64 n :: .string s :: L :: ys ∧ Fits w A r ys ∧
      ((L = .slice none 0 0 ∧ l = .nil) ∨ ∃ g cap cur ty, L = .slice (some ⟨g, 0, none⟩) l.len cap ∧ A g ∧ l.len ≤ cap ∧ cap ≤ maxLen ∧ w.heap[g]? = some (.cells cur ty (0, 0)) ∧ Fits w A l (cur.toList.take (4 * l.len)))

/-- A slice reads as a list of values. -/
def Rd (w : World) (A : Nat → Prop) (L : Value) (l : F) : Prop :=
  (L = .slice none 0 0 ∧ l = .nil) ∨ ∃ g cap cur ty, L = .slice (some ⟨g, 0, none⟩) l.len cap ∧ A g ∧ l.len ≤ cap ∧ cap ≤ maxLen ∧ w.heap[g]? = some (.cells cur ty (0, 0)) ∧ Fits w A l (cur.toList.take (4 * l.len))

theorem fits_cons {w : World} {A : Nat → Prop} {k n : Int} {s : ByteArray} {l r : F} {xs : List Value} :
    Fits w A (.cons k n s l r) xs ↔ ∃ L ys, xs = .int .i64 k :: .int .i64 n :: .string s :: L :: ys ∧ Fits w A r ys ∧ Rd w A L l := Iff.rfl

theorem rd_nil (w : World) (A : Nat → Prop) : Rd w A (.slice none 0 0) .nil := .inl ⟨rfl, rfl⟩

theorem fits_len {w : World} {A : Nat → Prop} : ∀ {f : F} {xs : List Value}, Fits w A f xs → xs.length = 4 * f.len
  | .nil, xs, h => by simp only [Fits] at h; subst h; rfl
  | .cons k n s l r, xs, h => by
    obtain ⟨L, ys, rfl, h2, _⟩ := fits_cons.1 h
    have := fits_len h2
    simp [F.len, this]
    omega

theorem fits_of {w w' : World} {A A' : Nat → Prop} (hA : ∀ g, A g → A' g) (hw : ∀ g, A g → ∀ o, w.heap[g]? = some o → w'.heap[g]? = some o) : ∀ {f : F} {xs : List Value}, Fits w A f xs → Fits w' A' f xs
  | .nil, xs, h => h
  | .cons k n s l r, xs, h => by
    obtain ⟨L, ys, e, h2, h3⟩ := fits_cons.1 h
    refine fits_cons.2 ⟨L, ys, e, fits_of hA hw h2, ?_⟩
    rcases h3 with h3 | ⟨g, cap, cur, ty, e1, e2, e3, e4, e5, e6⟩
    · exact .inl h3
    · exact .inr ⟨g, cap, cur, ty, e1, hA g e2, e3, e4, hw g e2 _ e5, fits_of hA hw e6⟩
theorem rd_of {w w' : World} {A A' : Nat → Prop} (hA : ∀ g, A g → A' g) (hw : ∀ g, A g → ∀ o, w.heap[g]? = some o → w'.heap[g]? = some o) {L : Value} {l : F} (h : Rd w A L l) : Rd w' A' L l := by
  rcases h with h3 | ⟨g, cap, cur, ty, e1, e2, e3, e4, e5, e6⟩
  · exact .inl h3
  · exact .inr ⟨g, cap, cur, ty, e1, hA g e2, e3, e4, hw g e2 _ e5, fits_of hA hw e6⟩

theorem lt_of_heap {w : World} {g : Nat} {o : Obj} (h : w.heap[g]? = some o) : g < w.heap.size := by
  rcases Nat.lt_or_ge g w.heap.size with h' | h'
  · exact h'
  · simp [Array.getElem?_eq_none h'] at h
/-- What is read is read behind a call that makes memory alone. -/
theorem rd_below {w w' : World} {A : Nat → Prop} {L : Value} {l : F} (h : Rd w A L l) (hb : Below w.heap.size w w') : Rd w' A L l :=
  rd_of (fun _ h => h) (fun g _ _ ho => (hb.block g (lt_of_heap ho)).trans ho) h
/-- .. and behind one that turns nothing below B, where all lies below B. -/
theorem rd_under {w w' : World} {A : Nat → Prop} {B : Nat} {L : Value} {l : F} (h : Rd w A L l) (hA : ∀ g, A g → g < B) (hb : Below B w w') : Rd w' A L l :=
  rd_of (fun _ h => h) (fun g hg _ ho => (hb.block g (hA g hg)).trans ho) h
theorem fits_under {w w' : World} {A : Nat → Prop} {B : Nat} {f : F} {xs : List Value} (h : Fits w A f xs) (hA : ∀ g, A g → g < B) (hb : Below B w w') : Fits w' A f xs :=
  fits_of (fun _ h => h) (fun g hg _ ho => (hb.block g (hA g hg)).trans ho) h
theorem fits_below {w w' : World} {A : Nat → Prop} {f : F} {xs : List Value} (h : Fits w A f xs) (hb : Below w.heap.size w w') : Fits w' A f xs :=
  fits_of (fun _ h => h) (fun g _ _ ho => (hb.block g (lt_of_heap ho)).trans ho) h
/-- The blocks of what is read are there. -/
theorem fits_size {w : World} {A : Nat → Prop} : ∀ {f : F} {xs : List Value}, Fits w A f xs → Fits w (fun g => A g ∧ g < w.heap.size) f xs
  | .nil, xs, h => h
  | .cons k n s l r, xs, h => by
    obtain ⟨L, ys, e, h2, h3⟩ := fits_cons.1 h
    refine fits_cons.2 ⟨L, ys, e, fits_size h2, ?_⟩
    rcases h3 with h3 | ⟨g, cap, cur, ty, e1, e2, e3, e4, e5, e6⟩
    · exact .inl h3
    · exact .inr ⟨g, cap, cur, ty, e1, ⟨e2, lt_of_heap e5⟩, e3, e4, e5, fits_size e6⟩
theorem rd_size {w : World} {A : Nat → Prop} {L : Value} {l : F} (h : Rd w A L l) : Rd w (fun g => A g ∧ g < w.heap.size) L l := by
  rcases h with h3 | ⟨g, cap, cur, ty, e1, e2, e3, e4, e5, e6⟩
  · exact .inl h3
  · exact .inr ⟨g, cap, cur, ty, e1, ⟨e2, lt_of_heap e5⟩, e3, e4, e5, fits_size e6⟩

theorem fits_app {w : World} {A : Nat → Prop} : ∀ {f g : F} {xs ys : List Value}, Fits w A f xs → Fits w A g ys → Fits w A (f.app g) (xs ++ ys)
  | .nil, g, xs, ys, h, h2 => by simp only [Fits] at h; subst h; exact h2
  | .cons k n s l r, g, xs, ys, h, h2 => by
    obtain ⟨L, zs, rfl, h3, h4⟩ := fits_cons.1 h
    exact fits_cons.2 ⟨L, zs ++ ys, rfl, fits_app h3 h2, h4⟩

/-- The cells of a row from a place on. -/
theorem row_cell {w : World} {g : Nat} {cur : Array Value} {ty : TypeId} {m i : Nat} {x : Value} {ys : List Value} (hg : w.heap[g]? = some (.cells cur ty (0, 0))) (hx : (cur.toList.take m).drop i = x :: ys) :
    w.cell? ⟨g, i, none⟩ = some x ∧ (cur.toList.take m).drop (i + 1) = ys := by
  have h1 : ((cur.toList.take m).drop i)[0]? = some x := by rw [hx]; rfl
  rw [List.getElem?_drop] at h1
  have h2 : cur[i]? = some x := by
    rw [List.getElem?_take] at h1
    split at h1
    · simpa using h1
    · cases h1
  refine ⟨by simp [World.cell?, hg, h2], ?_⟩
  rw [← List.drop_drop, hx]
  rfl

theorem toList_inj {s t : ByteArray} : s.toList = t.toList ↔ s = t := by
  rw [ByteArray.toList_eq, ByteArray.toList_eq]
  constructor
  · intro h
    apply ByteArray.ext
    exact Array.toList_inj.1 h
  · intro h; rw [h]

/-- Which values are alike. -/
def eq1 (k n : Int) (s : ByteArray) (k' n' : Int) (s' : ByteArray) (e : Bool) : Bool :=
  if k = k' then (if k = 0 then n == n' else if k = 1 then s.toList == s'.toList else if k = 2 then e else true) else false
def eqF : F → F → Bool
  | .nil, .nil => true
  | .cons k n s l r, .cons k' n' s' l' r' => eq1 k n s k' n' s' (eqF l l') && eqF r r'
  | .nil, .cons .. => false
  | .cons .., .nil => false
theorem eqF_len : ∀ {f g : F}, f.len ≠ g.len → eqF f g = false
  | .nil, .nil, h => absurd rfl h
  | .nil, .cons .., _ => rfl
  | .cons .., .nil, _ => rfl
  | .cons k n s l r, .cons k' n' s' l' r', h => by
    have := eqF_len (f := r) (g := r') (by simpa [F.len] using h)
    simp [eqF, this]
theorem eqF_refl : ∀ f : F, eqF f f = true
  | .nil => rfl
  | .cons k n s l r => by
    have h1 := eqF_refl l
    have h2 := eqF_refl r
    unfold eqF
    rw [h1, h2]
    unfold eq1
    simp
theorem eq1_comm (k n : Int) (s : ByteArray) (k' n' : Int) (s' : ByteArray) (e : Bool) : eq1 k n s k' n' s' e = eq1 k' n' s' k n s e := by
  unfold eq1
  by_cases h : k = k'
  · subst h
    simp only [if_true]
    split
    · exact Bool.beq_comm
    · split
      · exact Bool.beq_comm
      · rfl
  · rw [if_neg h, if_neg (fun e => h e.symm)]
theorem eqF_comm : ∀ f g : F, eqF f g = eqF g f
  | .nil, .nil => rfl
  | .nil, .cons .. => rfl
  | .cons .., .nil => rfl
  | .cons k n s l r, .cons k' n' s' l' r' => by
    unfold eqF
    rw [eqF_comm l l', eqF_comm r r', eq1_comm]

/-- A slice that reads as a list of values, as a walk wants it. -/
theorem rd_form {w : World} {A : Nat → Prop} {L : Value} {f : F} (h : Rd w A L f) :
    ∃ p cap xs, L = .slice p f.len cap ∧ f.len ≤ cap ∧ cap ≤ maxLen ∧ Fits w A f xs ∧ ∀ i x ys, xs.drop i = x :: ys → ∃ g, p = some ⟨g, 0, none⟩ ∧ A g ∧ g < w.heap.size ∧ w.cell? ⟨g, i, none⟩ = some x := by
  rcases h with ⟨rfl, rfl⟩ | ⟨g, cap, cur, ty, e1, e2, e3, e4, e5, e6⟩
  · refine ⟨none, 0, [], rfl, Nat.le_refl _, Nat.zero_le _, rfl, ?_⟩
    intro i x ys h
    simp at h
  · exact ⟨some ⟨g, 0, none⟩, cap, _, e1, e3, e4, e6, fun i x ys h => ⟨g, rfl, e2, lt_of_heap e5, (row_cell e5 h).1⟩⟩

theorem drop_next {α : Type} {xs ys : List α} {i : Nat} {x : α} (h : xs.drop i = x :: ys) : xs.drop (i + 1) = ys := by
  rw [← List.drop_drop, h]
  rfl
/-- The next value of a row. -/
theorem fits_next {w : World} {A : Nat → Prop} {k n : Int} {s : ByteArray} {l r : F} {xs : List Value} {j : Nat} {p : Option Addr} {B : Nat} {c : Addr → Option Value}
    (h : Fits w A (.cons k n s l r) (xs.drop j)) (hc : ∀ i x ys, xs.drop i = x :: ys → ∃ g, p = some ⟨g, 0, none⟩ ∧ A g ∧ g < B ∧ c ⟨g, i, none⟩ = some x) :
    ∃ g L, p = some ⟨g, 0, none⟩ ∧ A g ∧ g < B ∧ c ⟨g, j, none⟩ = some (.int .i64 k) ∧ c ⟨g, j + 1, none⟩ = some (.int .i64 n) ∧ c ⟨g, j + 2, none⟩ = some (.string s) ∧ c ⟨g, j + 3, none⟩ = some L ∧ Rd w A L l ∧ Fits w A r (xs.drop (j + 4)) := by
  obtain ⟨L, ys, e, h2, h3⟩ := fits_cons.1 h
  have d1 := drop_next e
  have d2 := drop_next d1
  have d3 := drop_next d2
  have d4 := drop_next d3
  obtain ⟨g, rfl, hA, hg, c0⟩ := hc _ _ _ e
  obtain ⟨g1, e1, _, _, c1⟩ := hc _ _ _ d1
  obtain ⟨g2, e2, _, _, c2⟩ := hc _ _ _ d2
  obtain ⟨g3, e3, _, _, c3⟩ := hc _ _ _ d3
  simp only [Option.some.injEq, Addr.mk.injEq] at e1 e2 e3
  obtain ⟨rfl, _⟩ := e1
  obtain ⟨rfl, _⟩ := e2
  obtain ⟨rfl, _⟩ := e3
  refine ⟨g, L, rfl, hA, hg, c0, c1, c2, c3, h3, ?_⟩
  rw [d4]
  exact h2

/-- A row that was filled. -/
theorem rd_row {w : World} {A A' : Nat → Prop} {g : Nat} {cur : Array Value} {ty : TypeId} {f : F} {cap : Nat} (hg : w.heap[g]? = some (.cells cur ty (0, 0))) (hA : A' g) (hs : ∀ x, A x → A' x) (hf : Fits w A f (cur.toList.take (f.len * 4))) (hc : f.len ≤ cap) (hm : cap ≤ maxLen) :
    Rd w A' (.slice (some ⟨g, 0, none⟩) f.len cap) f := by
  rw [Nat.mul_comm] at hf
  exact .inr ⟨g, cap, cur, ty, rfl, hA, hc, hm, hg, fits_of hs (fun _ _ _ h => h) hf⟩

theorem heap_set1 {w : World} {g : Nat} {cur : Array Value} {ty : TypeId} (hg : w.heap[g]? = some (.cells cur ty (0, 0))) (j : Nat) (x : Value) :
    (w.setCell ⟨g, j, none⟩ x).heap[g]? = some (.cells (cur.setIfInBounds j x) ty (0, 0)) := by
  simp [World.setCell, Array.getElem?_modify, hg]
/-- The world with four cells laid one behind the other. -/
def put4 (w : World) (g j : Nat) (a b c d : Value) : World := (((w.setCell ⟨g, j, none⟩ a).setCell ⟨g, j + 1, none⟩ b).setCell ⟨g, j + 2, none⟩ c).setCell ⟨g, j + 3, none⟩ d
theorem set4_take (cur : Array Value) (j : Nat) (hj : j + 4 ≤ cur.size) (a b c d : Value) :
    ((((cur.setIfInBounds j a).setIfInBounds (j + 1) b).setIfInBounds (j + 2) c).setIfInBounds (j + 3) d).toList.take (j + 4) = cur.toList.take j ++ [a, b, c, d] := by
  simp only [Array.toList_setIfInBounds]
  have hs : j + 4 ≤ cur.toList.length := by simpa using hj
  generalize cur.toList = l at hs
  obtain ⟨p, q, rfl, rfl⟩ : ∃ p q, l = p ++ q ∧ p.length = j := ⟨l.take j, l.drop j, by simp, by simp; omega⟩
  match q, hs with
  | x0 :: x1 :: x2 :: x3 :: q, _ =>
    simp [List.take_append]
    exact List.take_of_length_le (by omega)
  | [], hs => simp at hs; omega
  | [_], hs => simp at hs
  | [_, _], hs => simp at hs
  | [_, _, _], hs => simp at hs
theorem put4_row {w : World} {g : Nat} {cur : Array Value} {ty : TypeId} (hg : w.heap[g]? = some (.cells cur ty (0, 0))) {j : Nat} (hj : j + 4 ≤ cur.size) (a b c d : Value) :
    ∃ cur' : Array Value, (put4 w g j a b c d).heap[g]? = some (.cells cur' ty (0, 0)) ∧ cur'.size = cur.size ∧ cur'.toList.take (j + 4) = cur.toList.take j ++ [a, b, c, d] :=
  ⟨(((cur.setIfInBounds j a).setIfInBounds (j + 1) b).setIfInBounds (j + 2) c).setIfInBounds (j + 3) d, heap_set1 (heap_set1 (heap_set1 (heap_set1 hg _ _) _ _) _ _) _ _, by simp, set4_take cur j hj a b c d⟩
theorem put4_other {w : World} {g j : Nat} {a b c d : Value} {k : Nat} (h : k ≠ g) : (put4 w g j a b c d).heap[k]? = w.heap[k]? := by
  unfold put4
  rw [Below.heap_setCell _ _ _ _ h, Below.heap_setCell _ _ _ _ h, Below.heap_setCell _ _ _ _ h, Below.heap_setCell _ _ _ _ h]
theorem put4_size {w : World} {g j : Nat} {a b c d : Value} : (put4 w g j a b c d).heap.size = w.heap.size := by simp [put4, World.setCell]
theorem put4_below {B : Nat} {a w : World} (h : Below B a w) {g j : Nat} (hg : B ≤ g) (x y z u : Value) : Below B a (put4 w g j x y z u) :=
  (((h.setCell (p := ⟨g, j, none⟩) hg x).setCell (p := ⟨g, j + 1, none⟩) hg y).setCell (p := ⟨g, j + 2, none⟩) hg z).setCell (p := ⟨g, j + 3, none⟩) hg u

theorem fits_one {w : World} {A : Nat → Prop} {k n : Int} {s : ByteArray} {l : F} {L : Value} (h : Rd w A L l) : Fits w A (.cons k n s l .nil) [.int .i64 k, .int .i64 n, .string s, L] :=
  fits_cons.2 ⟨L, [], rfl, rfl, h⟩
theorem F.snoc_app (f : F) (k n : Int) (s : ByteArray) (l r : F) : (f.app (.cons k n s l .nil)).app r = f.app (.cons k n s l r) := by rw [F.app_assoc]; rfl
/-- What a block holds, cell by cell. -/
theorem cell_there {w : World} {g : Nat} {cur : Array Value} {ty : TypeId} (hg : w.heap[g]? = some (.cells cur ty (0, 0))) {j : Nat} (hj : j < cur.size) : w.cell? ⟨g, j, none⟩ = some cur[j] := by
  simp [World.cell?, hg, hj]
theorem frozen_there {w : World} {g : Nat} {cur : Array Value} {ty : TypeId} (hg : w.heap[g]? = some (.cells cur ty (0, 0))) (j : Nat) : w.frozen? ⟨g, j, none⟩ = false := by
  simp [World.frozen?, hg]

end Go.Proofs.Ytainajjklakaeaa.M
