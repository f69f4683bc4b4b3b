/-
  Plain facts, several texts in one: MathV MathW MathN MathO MathR MathS MathP MathH. Nothing is asked but what each fact names.
-/
import Derived.WalkKit
import Derived.ProofKit
import Derived.Test.YtkelipedpjmmaaaDoorQa
import Derived.Lib.BitFns
import Derived.Laws.AppendOwn
namespace Go.Proofs.YtkelipedpjmmaaaDoor.M
open Go.RowKit

/-- A list of values: of the first its kind, number, text, list; the rest. -/
inductive F where
  | nil : F
  | cons (k n : Int) (s : ByteArray) (l r : F) : F

def F.len : F → Nat
  | .nil => 0
  | .cons _ _ _ _ r => r.len + 1
def F.app : F → F → F
  | .nil, g => g
  | .cons k n s l r, g => .cons k n s l (r.app g)
theorem F.len_app : ∀ (f g : F), (f.app g).len = f.len + g.len
  | .nil, g => by simp [F.app, F.len]
  | .cons k n s l r, g => by simp [F.app, F.len, F.len_app r g]; omega
theorem F.app_nil : ∀ f : F, f.app .nil = f
  | .nil => rfl
  | .cons k n s l r => by simp [F.app, F.app_nil r]
theorem F.app_assoc : ∀ f g h : F, (f.app g).app h = f.app (g.app h)
  | .nil, g, h => rfl
  | .cons k n s l r, g, h => by simp [F.app, F.app_assoc r g h]

/-- How many values there are, the inner ones, too. -/
def F.nodes : F → Nat
  | .nil => 0
  | .cons _ _ _ l r => l.nodes + r.nodes + 1
theorem F.len_nodes : ∀ f : F, f.len ≤ f.nodes
  | .nil => Nat.le_refl _
  | .cons k n s l r => by have := F.len_nodes r; simp [F.len, F.nodes]; omega
theorem F.nodes_app : ∀ (f g : F), (f.app g).nodes = f.nodes + g.nodes
  | .nil, g => by simp [F.app, F.nodes]
  | .cons k n s l r, g => by simp [F.app, F.nodes, F.nodes_app r g]; omega

/-- Every number fits its kind, every text a machine. -/
def F.ok : F → Prop
  | .nil => True
  | .cons k n s l r => (-9223372036854775808 ≤ k ∧ k < 9223372036854775808) ∧ (-9223372036854775808 ≤ n ∧ n < 9223372036854775808) ∧ s.size ≤ 140737488355328 ∧ l.ok ∧ r.ok
theorem F.ok_app : ∀ {f g : F}, f.ok → g.ok → (f.app g).ok
  | .nil, _, _, h => h
  | .cons _ _ _ _ _, _, h, h2 => ⟨h.1, h.2.1, h.2.2.1, h.2.2.2.1, F.ok_app h.2.2.2.2 h2⟩

/-- A row of cells reads as a list of values; the rows of the inner lists lie in blocks of A. -/
def Fits (w : World) (A : Nat → Prop) : F → List Value → Prop
  | .nil, xs => xs = []
  | .cons k n s l r, xs => ∃ L ys, xs = .int .i64 k :: .int .i64 n :: .string s :: L :: ys ∧ Fits w A r ys ∧
      ((L = .slice none 0 0 ∧ l = .nil) ∨ ∃ g cap cur ty, L = .slice (some ⟨g, 0, none⟩) l.len cap ∧ A g ∧ l.len ≤ cap ∧ cap ≤ maxLen ∧ w.heap[g]? = some (.cells cur ty (0, 0)) ∧ Fits w A l (cur.toList.take (4 * l.len)))

/-- A slice reads as a list of values. -/
def Rd (w : World) (A : Nat → Prop) (L : Value) (l : F) : Prop :=
  (L = .slice none 0 0 ∧ l = .nil) ∨ ∃ g cap cur ty, L = .slice (some ⟨g, 0, none⟩) l.len cap ∧ A g ∧ l.len ≤ cap ∧ cap ≤ maxLen ∧ w.heap[g]? = some (.cells cur ty (0, 0)) ∧ Fits w A l (cur.toList.take (4 * l.len))

theorem fits_cons {w : World} {A : Nat → Prop} {k n : Int} {s : ByteArray} {l r : F} {xs : List Value} :
    Fits w A (.cons k n s l r) xs ↔ ∃ L ys, xs = .int .i64 k :: .int .i64 n :: .string s :: L :: ys ∧ Fits w A r ys ∧ Rd w A L l := Iff.rfl

theorem rd_nil (w : World) (A : Nat → Prop) : Rd w A (.slice none 0 0) .nil := .inl ⟨rfl, rfl⟩

theorem fits_len {w : World} {A : Nat → Prop} : ∀ {f : F} {xs : List Value}, Fits w A f xs → xs.length = 4 * f.len
  | .nil, xs, h => by simp only [Fits] at h; subst h; rfl
  | .cons k n s l r, xs, h => by
    obtain ⟨L, ys, rfl, h2, _⟩ := fits_cons.1 h
    have := fits_len h2
    simp [F.len, this]
    omega

theorem fits_of {w w' : World} {A A' : Nat → Prop} (hA : ∀ g, A g → A' g) (hw : ∀ g, A g → ∀ o, w.heap[g]? = some o → w'.heap[g]? = some o) : ∀ {f : F} {xs : List Value}, Fits w A f xs → Fits w' A' f xs
  | .nil, xs, h => h
  | .cons k n s l r, xs, h => by
    obtain ⟨L, ys, e, h2, h3⟩ := fits_cons.1 h
    refine fits_cons.2 ⟨L, ys, e, fits_of hA hw h2, ?_⟩
    rcases h3 with h3 | ⟨g, cap, cur, ty, e1, e2, e3, e4, e5, e6⟩
    · exact .inl h3
    · exact .inr ⟨g, cap, cur, ty, e1, hA g e2, e3, e4, hw g e2 _ e5, fits_of hA hw e6⟩
theorem rd_of {w w' : World} {A A' : Nat → Prop} (hA : ∀ g, A g → A' g) (hw : ∀ g, A g → ∀ o, w.heap[g]? = some o → w'.heap[g]? = some o) {L : Value} {l : F} (h : Rd w A L l) : Rd w' A' L l := by
  rcases h with h3 | ⟨g, cap, cur, ty, e1, e2, e3, e4, e5, e6⟩
  · exact .inl h3
  · exact .inr ⟨g, cap, cur, ty, e1, hA g e2, e3, e4, hw g e2 _ e5, fits_of hA hw e6⟩

theorem lt_of_heap {w : World} {g : Nat} {o : Obj} (h : w.heap[g]? = some o) : g < w.heap.size := by
  rcases Nat.lt_or_ge g w.heap.size with h' | h'
  · exact h'
  · simp [Array.getElem?_eq_none h'] at h
/-- What is read is read behind a call that makes memory alone. -/
theorem rd_below {w w' : World} {A : Nat → Prop} {L : Value} {l : F} (h : Rd w A L l) (hb : Below w.heap.size w w') : Rd w' A L l :=
  rd_of (fun _ h => h) (fun g _ _ ho => (hb.block g (lt_of_heap ho)).trans ho) h
/-- .. and behind one that turns nothing below B, where all lies below B. -/
theorem rd_under {w w' : World} {A : Nat → Prop} {B : Nat} {L : Value} {l : F} (h : Rd w A L l) (hA : ∀ g, A g → g < B) (hb : Below B w w') : Rd w' A L l :=
  rd_of (fun _ h => h) (fun g hg _ ho => (hb.block g (hA g hg)).trans ho) h
theorem fits_under {w w' : World} {A : Nat → Prop} {B : Nat} {f : F} {xs : List Value} (h : Fits w A f xs) (hA : ∀ g, A g → g < B) (hb : Below B w w') : Fits w' A f xs :=
  fits_of (fun _ h => h) (fun g hg _ ho => (hb.block g (hA g hg)).trans ho) h
theorem fits_below {w w' : World} {A : Nat → Prop} {f : F} {xs : List Value} (h : Fits w A f xs) (hb : Below w.heap.size w w') : Fits w' A f xs :=
  fits_of (fun _ h => h) (fun g _ _ ho => (hb.block g (lt_of_heap ho)).trans ho) h
/-- The blocks of what is read are there. -/
theorem fits_size {w : World} {A : Nat → Prop} : ∀ {f : F} {xs : List Value}, Fits w A f xs → Fits w (fun g => A g ∧ g < w.heap.size) f xs
  | .nil, xs, h => h
  | .cons k n s l r, xs, h => by
    obtain ⟨L, ys, e, h2, h3⟩ := fits_cons.1 h
    refine fits_cons.2 ⟨L, ys, e, fits_size h2, ?_⟩
    rcases h3 with h3 | ⟨g, cap, cur, ty, e1, e2, e3, e4, e5, e6⟩
    · exact .inl h3
    · exact .inr ⟨g, cap, cur, ty, e1, ⟨e2, lt_of_heap e5⟩, e3, e4, e5, fits_size e6⟩
theorem rd_size {w : World} {A : Nat → Prop} {L : Value} {l : F} (h : Rd w A L l) : Rd w (fun g => A g ∧ g < w.heap.size) L l := by
  rcases h with h3 | ⟨g, cap, cur, ty, e1, e2, e3, e4, e5, e6⟩
  · exact .inl h3
  · exact .inr ⟨g, cap, cur, ty, e1, ⟨e2, lt_of_heap e5⟩, e3, e4, e5, fits_size e6⟩

theorem fits_app {w : World} {A : Nat → Prop} : ∀ {f g : F} {xs ys : List Value}, Fits w A f xs → Fits w A g ys → Fits w A (f.app g) (xs ++ ys)
  | .nil, g, xs, ys, h, h2 => by simp only [Fits] at h; subst h; exact h2
  | .cons k n s l r, g, xs, ys, h, h2 => by
    obtain ⟨L, zs, rfl, h3, h4⟩ := fits_cons.1 h
    exact fits_cons.2 ⟨L, zs ++ ys, rfl, fits_app h3 h2, h4⟩

/-- The cells of a row from a place on. -/
theorem row_cell {w : World} {g : Nat} {cur : Array Value} {ty : TypeId} {m i : Nat} {x : Value} {ys : List Value} (hg : w.heap[g]? = some (.cells cur ty (0, 0))) (hx : (cur.toList.take m).drop i = x :: ys) :
    w.cell? ⟨g, i, none⟩ = some x ∧ (cur.toList.take m).drop (i + 1) = ys := by
  have h1 : ((cur.toList.take m).drop i)[0]? = some x := by rw [hx]; rfl
  rw [List.getElem?_drop] at h1
  have h2 : cur[i]? = some x := by
    rw [List.getElem?_take] at h1
    split at h1
    · simpa using h1
    · cases h1
  refine ⟨by simp [World.cell?, hg, h2], ?_⟩
  rw [← List.drop_drop, hx]
  rfl

theorem toList_inj {s t : ByteArray} : s.toList = t.toList ↔ s = t := by
  rw [ByteArray.toList_eq, ByteArray.toList_eq]
  constructor
  · intro h
    apply ByteArray.ext
    exact Array.toList_inj.1 h
  · intro h; rw [h]

/-- Which values are alike. -/
def eq1 (k n : Int) (s : ByteArray) (k' n' : Int) (s' : ByteArray) (e : Bool) : Bool :=
  if k = k' then (if k = 0 then n == n' else if k = 1 then s.toList == s'.toList else if k = 2 then e else true) else false
def eqF : F → F → Bool
  | .nil, .nil => true
  | .cons k n s l r, .cons k' n' s' l' r' => eq1 k n s k' n' s' (eqF l l') && eqF r r'
  | .nil, .cons .. => false
  | .cons .., .nil => false
theorem eqF_len : ∀ {f g : F}, f.len ≠ g.len → eqF f g = false
  | .nil, .nil, h => absurd rfl h
  | .nil, .cons .., _ => rfl
  | .cons .., .nil, _ => rfl
  | .cons k n s l r, .cons k' n' s' l' r', h => by
    have := eqF_len (f := r) (g := r') (by simpa [F.len] using h)
    simp [eqF, this]
theorem eqF_refl : ∀ f : F, eqF f f = true
  | .nil => rfl
  | .cons k n s l r => by
    have h1 := eqF_refl l
    have h2 := eqF_refl r
    unfold eqF
    rw [h1, h2]
    unfold eq1
    simp
theorem eq1_comm (k n : Int) (s : ByteArray) (k' n' : Int) (s' : ByteArray) (e : Bool) : eq1 k n s k' n' s' e = eq1 k' n' s' k n s e := by
  unfold eq1
  by_cases h : k = k'
  · subst h
    simp only [if_true]
    split
    · exact Bool.beq_comm
    · split
      · exact Bool.beq_comm
      · rfl
  · rw [if_neg h, if_neg (fun e => h e.symm)]
theorem eqF_comm : ∀ f g : F, eqF f g = eqF g f
  | .nil, .nil => rfl
  | .nil, .cons .. => rfl
  | .cons .., .nil => rfl
  | .cons k n s l r, .cons k' n' s' l' r' => by
    unfold eqF
    rw [eqF_comm l l', eqF_comm r r', eq1_comm]

/-- A slice that reads as a list of values, as a walk wants it. -/
theorem rd_form {w : World} {A : Nat → Prop} {L : Value} {f : F} (h : Rd w A L f) :
    ∃ p cap xs, L = .slice p f.len cap ∧ f.len ≤ cap ∧ cap ≤ maxLen ∧ Fits w A f xs ∧ ∀ i x ys, xs.drop i = x :: ys → ∃ g, p = some ⟨g, 0, none⟩ ∧ A g ∧ g < w.heap.size ∧ w.cell? ⟨g, i, none⟩ = some x := by
  rcases h with ⟨rfl, rfl⟩ | ⟨g, cap, cur, ty, e1, e2, e3, e4, e5, e6⟩
  · refine ⟨none, 0, [], rfl, Nat.le_refl _, Nat.zero_le _, rfl, ?_⟩
    intro i x ys h
    simp at h
  · exact ⟨some ⟨g, 0, none⟩, cap, _, e1, e3, e4, e6, fun i x ys h => ⟨g, rfl, e2, lt_of_heap e5, (row_cell e5 h).1⟩⟩

theorem drop_next {α : Type} {xs ys : List α} {i : Nat} {x : α} (h : xs.drop i = x :: ys) : xs.drop (i + 1) = ys := by
  rw [← List.drop_drop, h]
  rfl
/-- The next value of a row. -/
theorem fits_next {w : World} {A : Nat → Prop} {k n : Int} {s : ByteArray} {l r : F} {xs : List Value} {j : Nat} {p : Option Addr} {B : Nat} {c : Addr → Option Value}
    (h : Fits w A (.cons k n s l r) (xs.drop j)) (hc : ∀ i x ys, xs.drop i = x :: ys → ∃ g, p = some ⟨g, 0, none⟩ ∧ A g ∧ g < B ∧ c ⟨g, i, none⟩ = some x) :
    ∃ g L, p = some ⟨g, 0, none⟩ ∧ A g ∧ g < B ∧ c ⟨g, j, none⟩ = some (.int .i64 k) ∧ c ⟨g, j + 1, none⟩ = some (.int .i64 n) ∧ c ⟨g, j + 2, none⟩ = some (.string s) ∧ c ⟨g, j + 3, none⟩ = some L ∧ Rd w A L l ∧ Fits w A r (xs.drop (j + 4)) := by
  obtain ⟨L, ys, e, h2, h3⟩ := fits_cons.1 h
  have d1 := drop_next e
  have d2 := drop_next d1
  have d3 := drop_next d2
  have d4 := drop_next d3
  obtain ⟨g, rfl, hA, hg, c0⟩ := hc _ _ _ e
  obtain ⟨g1, e1, _, _, c1⟩ := hc _ _ _ d1
  obtain ⟨g2, e2, _, _, c2⟩ := hc _ _ _ d2
  obtain ⟨g3, e3, _, _, c3⟩ := hc _ _ _ d3
  simp only [Option.some.injEq, Addr.mk.injEq] at e1 e2 e3
  obtain ⟨rfl, _⟩ := e1
  obtain ⟨rfl, _⟩ := e2
  obtain ⟨rfl, _⟩ := e3
  refine ⟨g, L, rfl, hA, hg, c0, c1, c2, c3, h3, ?_⟩
  rw [d4]
  exact h2

/-- A row that was filled. -/
theorem rd_row {w : World} {A A' : Nat → Prop} {g : Nat} {cur : Array Value} {ty : TypeId} {f : F} {cap : Nat} (hg : w.heap[g]? = some (.cells cur ty (0, 0))) (hA : A' g) (hs : ∀ x, A x → A' x) (hf : Fits w A f (cur.toList.take (f.len * 4))) (hc : f.len ≤ cap) (hm : cap ≤ maxLen) :
    Rd w A' (.slice (some ⟨g, 0, none⟩) f.len cap) f := by
  rw [Nat.mul_comm] at hf
  exact .inr ⟨g, cap, cur, ty, rfl, hA, hc, hm, hg, fits_of hs (fun _ _ _ h => h) hf⟩

theorem heap_set1 {w : World} {g : Nat} {cur : Array Value} {ty : TypeId} (hg : w.heap[g]? = some (.cells cur ty (0, 0))) (j : Nat) (x : Value) :
    (w.setCell ⟨g, j, none⟩ x).heap[g]? = some (.cells (cur.setIfInBounds j x) ty (0, 0)) := by
  simp [World.setCell, Array.getElem?_modify, hg]
/-- The world with four cells laid one behind the other. -/
def put4 (w : World) (g j : Nat) (a b c d : Value) : World := (((w.setCell ⟨g, j, none⟩ a).setCell ⟨g, j + 1, none⟩ b).setCell ⟨g, j + 2, none⟩ c).setCell ⟨g, j + 3, none⟩ d
theorem set4_take (cur : Array Value) (j : Nat) (hj : j + 4 ≤ cur.size) (a b c d : Value) :
    ((((cur.setIfInBounds j a).setIfInBounds (j + 1) b).setIfInBounds (j + 2) c).setIfInBounds (j + 3) d).toList.take (j + 4) = cur.toList.take j ++ [a, b, c, d] := by
  simp only [Array.toList_setIfInBounds]
  have hs : j + 4 ≤ cur.toList.length := by simpa using hj
  generalize cur.toList = l at hs
  obtain ⟨p, q, rfl, rfl⟩ : ∃ p q, l = p ++ q ∧ p.length = j := ⟨l.take j, l.drop j, by simp, by simp; omega⟩
  match q, hs with
  | x0 :: x1 :: x2 :: x3 :: q, _ =>
    simp [List.take_append]
    exact List.take_of_length_le (by omega)
  | [], hs => simp at hs; omega
  | [_], hs => simp at hs
  | [_, _], hs => simp at hs
  | [_, _, _], hs => simp at hs
theorem put4_row {w : World} {g : Nat} {cur : Array Value} {ty : TypeId} (hg : w.heap[g]? = some (.cells cur ty (0, 0))) {j : Nat} (hj : j + 4 ≤ cur.size) (a b c d : Value) :
    ∃ cur' : Array Value, (put4 w g j a b c d).heap[g]? = some (.cells cur' ty (0, 0)) ∧ cur'.size = cur.size ∧ cur'.toList.take (j + 4) = cur.toList.take j ++ [a, b, c, d] :=
  ⟨(((cur.setIfInBounds j a).setIfInBounds (j + 1) b).setIfInBounds (j + 2) c).setIfInBounds (j + 3) d, heap_set1 (heap_set1 (heap_set1 (heap_set1 hg _ _) _ _) _ _) _ _, by simp, set4_take cur j hj a b c d⟩
theorem put4_other {w : World} {g j : Nat} {a b c d : Value} {k : Nat} (h : k ≠ g) : (put4 w g j a b c d).heap[k]? = w.heap[k]? := by
  unfold put4
  rw [Below.heap_setCell _ _ _ _ h, Below.heap_setCell _ _ _ _ h, Below.heap_setCell _ _ _ _ h, Below.heap_setCell _ _ _ _ h]
theorem put4_size {w : World} {g j : Nat} {a b c d : Value} : (put4 w g j a b c d).heap.size = w.heap.size := by simp [put4, World.setCell]
theorem put4_below {B : Nat} {a w : World} (h : Below B a w) {g j : Nat} (hg : B ≤ g) (x y z u : Value) : Below B a (put4 w g j x y z u) :=
  (((h.setCell (p := ⟨g, j, none⟩) hg x).setCell (p := ⟨g, j + 1, none⟩) hg y).setCell (p := ⟨g, j + 2, none⟩) hg z).setCell (p := ⟨g, j + 3, none⟩) hg u

theorem fits_one {w : World} {A : Nat → Prop} {k n : Int} {s : ByteArray} {l : F} {L : Value} (h : Rd w A L l) : Fits w A (.cons k n s l .nil) [.int .i64 k, .int .i64 n, .string s, L] :=
  fits_cons.2 ⟨L, [], rfl, rfl, h⟩
theorem F.snoc_app (f : F) (k n : Int) (s : ByteArray) (l r : F) : (f.app (.cons k n s l .nil)).app r = f.app (.cons k n s l r) := by rw [F.app_assoc]; rfl
/-- What a block holds, cell by cell. -/
theorem cell_there {w : World} {g : Nat} {cur : Array Value} {ty : TypeId} (hg : w.heap[g]? = some (.cells cur ty (0, 0))) {j : Nat} (hj : j < cur.size) : w.cell? ⟨g, j, none⟩ = some cur[j] := by
  simp [World.cell?, hg, hj]
theorem frozen_there {w : World} {g : Nat} {cur : Array Value} {ty : TypeId} (hg : w.heap[g]? = some (.cells cur ty (0, 0))) (j : Nat) : w.frozen? ⟨g, j, none⟩ = false := by
  simp [World.frozen?, hg]

end Go.Proofs.YtkelipedpjmmaaaDoor.M

namespace Go.Proofs.YtkelipedpjmmaaaDoor.M

/-- How many bytes a number has without noughts ahead. -/
def wid (m : Int) : Nat := (Lib.bitLen m.toNat + 7) / 8
theorem pow256_2 (k : Nat) : (256 : Nat) ^ k = 2 ^ (8 * k) := by rw [Nat.pow_mul]
theorem wid_le {m : Int} {k : Nat} (hk : k ≤ 8) (h : m.toNat < 256 ^ k) : wid m ≤ k := by
  rw [pow256_2] at h
  have := Lib.bitLen_le m.toNat (8 * k) (by omega) h
  unfold wid
  omega
theorem bitLen_pos {x : Nat} (h : x ≠ 0) (h2 : x < 2 ^ 64) : 1 ≤ Lib.bitLen x := by rw [Lib.bitLen_half x h h2]; omega
theorem wid_gt {m : Int} {k : Nat} (h : 256 ^ k ≤ m.toNat) (h2 : m < 18446744073709551616) : k + 1 ≤ wid m := by
  have h64 : m.toNat < 2 ^ 64 := by omega
  rw [pow256_2] at h
  have e := Lib.bitLen_shift (8 * k) m.toNat h h64
  have hp : 0 < 2 ^ (8 * k) := Nat.pow_pos (by decide)
  have h3 : m.toNat / 2 ^ (8 * k) ≠ 0 := by
    have := (Nat.le_div_iff_mul_le hp).2 (show 1 * 2 ^ (8 * k) ≤ m.toNat by omega)
    omega
  have h4 := bitLen_pos h3 (Nat.lt_of_le_of_lt (Nat.div_le_self _ _) h64)
  unfold wid
  omega
theorem wid_8 {m : Int} (h2 : m < 18446744073709551616) : wid m ≤ 8 := wid_le (Nat.le_refl _) (by omega)
/-- A number of so many bytes, the first of which is not nought. -/
theorem wid_lt {m : Int} (h2 : m < 18446744073709551616) : m.toNat < 256 ^ wid m := by
  rcases Nat.lt_or_ge m.toNat (256 ^ wid m) with h | h
  · exact h
  · have := wid_gt h h2
    omega
theorem wid_ge {m : Int} {k : Nat} (h : wid m = k + 1) (hk : k ≤ 7) : 256 ^ k ≤ m.toNat := by
  rcases Nat.lt_or_ge m.toNat (256 ^ k) with h3 | h3
  · have := wid_le (by omega) h3
    omega
  · exact h3
theorem wid_zero : wid 0 = 0 := by decide
theorem wid_none {m : Int} (h0 : 0 ≤ m) (h2 : m < 18446744073709551616) (h : wid m = 0) : m = 0 := by
  have := wid_lt h2
  rw [h] at this
  omega

/-- The bytes of a number. -/
def numB (n : Int) : List UInt8 := 1 :: UInt8.ofNat (wid (foldI n)) :: be (wid (foldI n)) (foldI n)
theorem numB_length (n : Int) : (numB n).length = 2 + wid (foldI n) := by simp [numB, be_length]; omega
/-- The bytes of a value, out of those of its list. -/
def enc1 (k n : Int) (s : ByteArray) (len d : Nat) (x : Except Int (List UInt8)) : Except Int (List UInt8) :=
  if k = 0 then .ok (numB n)
  else if k = 1 then (if 4096 < s.size then .error 5 else .ok (2 :: (be 2 s.size ++ s.data.toList)))
  else if k = 2 then (if 256 < len ∨ 8 ≤ d then .error 5 else match x with | .ok b => .ok (3 :: (be 2 len ++ b)) | .error e => .error e)
  else .error 2
/-- One behind the other; the first error. -/
def cat (x y : Except Int (List UInt8)) : Except Int (List UInt8) := match x with
  | .ok a => (match y with | .ok b => .ok (a ++ b) | .error e => .error e)
  | .error e => .error e
/-- The bytes of a list of values that stand in so many lists. -/
def encF : F → Nat → Except Int (List UInt8)
  | .nil, _ => .ok []
  | .cons k n s l r, d => cat (enc1 k n s l.len d (encF l (d + 1))) (encF r d)

/-- What a value weighs. -/
def wt1 (k n : Int) (s : ByteArray) (x : Nat) : Nat :=
  if k = 0 then 2 + wid (foldI n) else if k = 1 then (if 4096 < s.size then 0 else 3 + s.size) else if k = 2 then 3 + x else 0
def F.wt : F → Nat
  | .nil => 0
  | .cons k n s l r => wt1 k n s l.wt + r.wt
theorem wt_nodes : ∀ {f : F}, f.ok → f.wt ≤ 4099 * f.nodes
  | .nil, _ => Nat.le_refl _
  | .cons k n s l r, h => by
    have h1 := wt_nodes h.2.2.2.1
    have h2 := wt_nodes h.2.2.2.2
    have h3 := wid_8 (fold_range h.2.1.1 h.2.1.2).2
    have h4 : wt1 k n s l.wt ≤ 4099 + l.wt := by
      unfold wt1
      split
      · omega
      · split
        · split <;> omega
        · split <;> omega
    simp only [F.wt, F.nodes]
    omega
theorem enc1_size {k n : Int} {s : ByteArray} {len d : Nat} {x : Except Int (List UInt8)} {X : Nat} (hx : ∀ b, x = .ok b → b.length = X) {a : List UInt8} (h : enc1 k n s len d x = .ok a) : a.length = wt1 k n s X := by
  unfold enc1 at h
  unfold wt1
  by_cases c0 : k = 0
  · rw [if_pos c0] at h ⊢
    cases h
    exact numB_length n
  · rw [if_neg c0] at h ⊢
    by_cases c1 : k = 1
    · rw [if_pos c1] at h ⊢
      by_cases c2 : 4096 < s.size
      · rw [if_pos c2] at h; cases h
      · rw [if_neg c2] at h ⊢
        cases h
        have : s.data.toList.length = s.size := Array.length_toList
        simp only [List.length_cons, List.length_append, be_length]
        omega
    · rw [if_neg c1] at h ⊢
      by_cases c2 : k = 2
      · rw [if_pos c2] at h ⊢
        split at h
        · cases h
        · cases x with
          | ok b =>
            cases h
            have := hx b rfl
            simp only [List.length_cons, List.length_append, be_length]
            omega
          | error e => cases h
      · rw [if_neg c2] at h; cases h
theorem cat_ok {x y : Except Int (List UInt8)} {c : List UInt8} (h : cat x y = .ok c) : ∃ a b, x = .ok a ∧ y = .ok b ∧ c = a ++ b := by
  unfold cat at h
  split at h
  · split at h
    · cases h
      exact ⟨_, _, rfl, rfl, rfl⟩
    · cases h
  · cases h
theorem encF_size : ∀ {f : F} {d : Nat} {b : List UInt8}, encF f d = .ok b → b.length = f.wt
  | .nil, d, b, h => by simp only [encF] at h; cases h; rfl
  | .cons k n s l r, d, c, h => by
    simp only [encF] at h
    obtain ⟨a, b, h1, h2, rfl⟩ := cat_ok h
    have e1 := enc1_size (fun b hb => encF_size hb) h1
    have e2 := encF_size h2
    simp [F.wt, e1, e2]

/-- All behind a beginning. -/
def onto (a : List UInt8) (x : Except Int (List UInt8)) : Except Int (List UInt8) := match x with
  | .ok b => .ok (a ++ b)
  | .error e => .error e
theorem onto_nil (x : Except Int (List UInt8)) : onto [] x = x := by cases x <;> rfl
theorem onto_onto (a b : List UInt8) (x : Except Int (List UInt8)) : onto a (onto b x) = onto (a ++ b) x := by cases x <;> simp [onto]
theorem cat_onto (a : List UInt8) (y : Except Int (List UInt8)) : cat (.ok a) y = onto a y := by cases y <;> rfl

theorem enc_int (n : Int) (s : ByteArray) (len d : Nat) (x : Except Int (List UInt8)) : enc1 0 n s len d x = .ok (numB n) := by simp [enc1]
theorem enc_long {n : Int} {s : ByteArray} {len d : Nat} {x : Except Int (List UInt8)} (h : 4096 < s.size) : enc1 1 n s len d x = .error 5 := by simp [enc1, h]
theorem enc_text {n : Int} {s : ByteArray} {len d : Nat} {x : Except Int (List UInt8)} (h : ¬ 4096 < s.size) : enc1 1 n s len d x = .ok (2 :: (be 2 s.size ++ s.data.toList)) := by simp [enc1, h]
theorem enc_deep {n : Int} {s : ByteArray} {len d : Nat} {x : Except Int (List UInt8)} (h : 256 < len ∨ 8 ≤ d) : enc1 2 n s len d x = .error 5 := by simp [enc1, h]
theorem enc_list {n : Int} {s : ByteArray} {len d : Nat} {x : Except Int (List UInt8)} (h : ¬ (256 < len ∨ 8 ≤ d)) : enc1 2 n s len d x = onto (3 :: be 2 len) x := by
  unfold enc1 onto
  rw [if_neg (by decide), if_neg (by decide), if_pos rfl, if_neg h]
  cases x <;> rfl
theorem enc_none {k n : Int} {s : ByteArray} {len d : Nat} {x : Except Int (List UInt8)} (h0 : k ≠ 0) (h1 : k ≠ 1) (h2 : k ≠ 2) : enc1 k n s len d x = .error 2 := by simp [enc1, h0, h1, h2]

end Go.Proofs.YtkelipedpjmmaaaDoor.M

namespace Go.Proofs.YtkelipedpjmmaaaDoor.M
open Go.RowKit

theorem grown_refl (X : World) (r : Option Nat) : X.grownBy X r := ⟨rfl, rfl, rfl, Nat.le_refl _, fun _ _ _ => rfl⟩
theorem grown_trans {X Y Z : World} {r : Option Nat} (h : X.grownBy Y r) (k : Y.grownBy Z r) : X.grownBy Z r :=
  ⟨k.os.trans h.os, k.tape.trans h.tape, k.output.trans h.output, Nat.le_trans h.size k.size, fun i hi hr => (k.block i (Nat.lt_of_lt_of_le hi h.size) hr).trans (h.block i hi hr)⟩
theorem grown_some {X Y : World} (h : X.grownBy Y none) (r : Option Nat) : X.grownBy Y r := ⟨h.os, h.tape, h.output, h.size, fun i hi _ => h.block i hi (by simp)⟩
theorem grown1 (X : World) (o : Obj) : X.grownBy (X.alloc o) none := ⟨rfl, rfl, rfl, by simp, fun k hk _ => Below.heap_alloc X o k hk⟩
theorem grown2 (X : World) (o o' : Obj) : X.grownBy ((X.alloc o).alloc o') none := grown_trans (grown1 X o) (grown1 _ o')
theorem grown_drew {X Y : World} {r : Option Nat} (h : X.grownBy Y r) : X.grownBy Y.drew r := ⟨h.os, h.tape, h.output, h.size, h.block⟩
theorem grown1d (X : World) (o : Obj) : X.drew.grownBy (X.alloc o).drew none := ⟨rfl, rfl, rfl, by show X.heap.size ≤ (X.alloc o).heap.size; simp, fun k hk _ => Below.heap_alloc X o k hk⟩
theorem put4_kept (w : World) (g j : Nat) (a b c d : Value) : w.grownBy (put4 w g j a b c d) (some g) :=
  ⟨rfl, rfl, rfl, Nat.le_of_eq put4_size.symm, fun _ _ hk => put4_other (fun e => hk (by rw [e]))⟩
theorem grown_below {X Y : World} (h : Below X.heap.size X Y) : X.grownBy Y none := ⟨h.os, h.tape, h.output, h.size, fun k hk _ => h.block k hk⟩
theorem below_grown {X Y : World} (h : X.grownBy Y none) : Below X.heap.size X Y := ⟨h.os, h.tape, h.output, h.size, fun k hk => h.block k hk (by simp)⟩

/-- Two rows, of types e1 and e2, each in a block of its own from base on; what lies in S lies from base on, in neither. -/
structure Inv (e1 e2 : TypeId) (base : Nat) (S : Nat → Prop) (L1 L2 : Value) (n1 n2 : Nat) (xs1 xs2 : List Value) (X : World) : Prop where
  own1 : X.ownsRow base e1 4 L1 n1 xs1
  own2 : X.ownsRow base e2 4 L2 n2 xs2
  apart : L2.ownBlock = none ∨ L2.ownBlock ≠ L1.ownBlock
  kids : ∀ g, S g → base ≤ g ∧ g < X.heap.size ∧ L1.ownBlock ≠ some g ∧ L2.ownBlock ≠ some g
  here : base ≤ X.heap.size

/-- What lies below base, or in S, has stayed. -/
structure Far (base : Nat) (S : Nat → Prop) (X Y : World) : Prop where
  os : Y.os = X.os
  tape : Y.tape = X.tape
  output : Y.output = X.output
  size : X.heap.size ≤ Y.heap.size
  stay : ∀ k, k < X.heap.size → (k < base ∨ S k) → Y.heap[k]? = X.heap[k]?

section
variable {e1 e2 : TypeId} {base : Nat} {S : Nat → Prop} {L1 L2 : Value} {n1 n2 : Nat} {xs1 xs2 : List Value} {X Y : World}

theorem Inv.grow (h : Inv e1 e2 base S L1 L2 n1 n2 xs1 xs2 X) (g : X.grownBy Y none) : Inv e1 e2 base S L1 L2 n1 n2 xs1 xs2 Y :=
  ⟨h.own1.kept g (by cases hv : L1.ownBlock <;> simp), h.own2.kept g (by cases hv : L2.ownBlock <;> simp), h.apart, fun x hx => ⟨(h.kids x hx).1, Nat.lt_of_lt_of_le (h.kids x hx).2.1 g.size, (h.kids x hx).2.2⟩, Nat.le_trans h.here g.size⟩

theorem Inv.one {g n1' cap : Nat} {xs1' : List Value} (h : Inv e1 e2 base S L1 L2 n1 n2 xs1 xs2 X) (ho : Y.ownsRow base e1 4 (.slice (some ⟨g, 0, none⟩) n1' cap) n1' xs1') (hg : X.grownBy Y L1.ownBlock) (ha : L1.ownBlock = some g ∨ g = X.heap.size) :
    Inv e1 e2 base S (.slice (some ⟨g, 0, none⟩) n1' cap) L2 n1' n2 xs1' xs2 Y := by
  refine ⟨ho, h.own2.kept hg h.apart, ?_, fun x hx => ?_, Nat.le_trans h.here hg.size⟩
  · show L2.ownBlock = none ∨ L2.ownBlock ≠ some g
    rcases ha with ha | ha
    · rw [← ha]; exact h.apart
    · right
      intro e
      have := (h.own2.lt g e).2
      omega
  · obtain ⟨a, b, c, d⟩ := h.kids x hx
    refine ⟨a, Nat.lt_of_lt_of_le b hg.size, ?_, d⟩
    show some g ≠ some x
    rcases ha with ha | ha
    · rw [← ha]; exact c
    · intro e; cases e; omega

theorem Inv.two {g n2' cap : Nat} {xs2' : List Value} (h : Inv e1 e2 base S L1 L2 n1 n2 xs1 xs2 X) (ho : Y.ownsRow base e2 4 (.slice (some ⟨g, 0, none⟩) n2' cap) n2' xs2') (hg : X.grownBy Y L2.ownBlock) (ha : L2.ownBlock = some g ∨ g = X.heap.size) :
    Inv e1 e2 base S L1 (.slice (some ⟨g, 0, none⟩) n2' cap) n1 n2' xs1 xs2' Y := by
  refine ⟨h.own1.kept hg ?_, ho, ?_, fun x hx => ?_, Nat.le_trans h.here hg.size⟩
  · cases hv : L1.ownBlock with
    | none => exact .inl rfl
    | some x =>
      right
      rcases h.apart with h2 | h2
      · rw [h2]; simp
      · rw [← hv]; exact fun e => h2 e.symm
  · show some g = none ∨ some g ≠ L1.ownBlock
    right
    rcases ha with ha | ha
    · rw [← ha]
      rcases h.apart with h2 | h2
      · rw [h2] at ha; cases ha
      · exact h2
    · intro e
      have := (h.own1.lt g e.symm).2
      omega
  · obtain ⟨a, b, c, d⟩ := h.kids x hx
    refine ⟨a, Nat.lt_of_lt_of_le b hg.size, c, ?_⟩
    show some g ≠ some x
    rcases ha with ha | ha
    · rw [← ha]; exact d
    · intro e; cases e; omega

theorem Far.trans {Z : World} (h : Far base S X Y) (k : Far base S Y Z) : Far base S X Z :=
  ⟨k.os.trans h.os, k.tape.trans h.tape, k.output.trans h.output, Nat.le_trans h.size k.size, fun i hi hk => (k.stay i (Nat.lt_of_lt_of_le hi h.size) hk).trans (h.stay i hi hk)⟩
theorem far_grow (g : X.grownBy Y none) : Far base S X Y := ⟨g.os, g.tape, g.output, g.size, fun k hk _ => g.block k hk (by simp)⟩
theorem far_one (h : Inv e1 e2 base S L1 L2 n1 n2 xs1 xs2 X) (g : X.grownBy Y L1.ownBlock) : Far base S X Y := ⟨g.os, g.tape, g.output, g.size, fun k hk hc => g.block k hk (fun e => by
  rcases hc with hc | hc
  · have := (h.own1.lt k e.symm).1; omega
  · exact (h.kids k hc).2.2.1 e.symm)⟩
theorem far_two (h : Inv e1 e2 base S L1 L2 n1 n2 xs1 xs2 X) (g : X.grownBy Y L2.ownBlock) : Far base S X Y := ⟨g.os, g.tape, g.output, g.size, fun k hk hc => g.block k hk (fun e => by
  rcases hc with hc | hc
  · have := (h.own2.lt k e.symm).1; omega
  · exact (h.kids k hc).2.2.2 e.symm)⟩

theorem Far.cell (h : Far base S X Y) {k j : Nat} {v : Value} (hc : X.cell? ⟨k, j, none⟩ = some v) (hk : k < base ∨ S k) : Y.cell? ⟨k, j, none⟩ = some v :=
  (World.cell?_of_block (a := ⟨k, j, none⟩) (h.stay k (World.block_lt_of_cell? X ⟨k, j, none⟩ hc) hk)).trans hc
theorem Far.fits (h : Far base S X Y) {f : F} {xs : List Value} (hf : Fits X S f xs) : Fits Y S f xs := fits_of (fun _ h => h) (fun g hg _ ho => (h.stay g (lt_of_heap ho) (.inr hg)).trans ho) hf
theorem Far.rd (h : Far base S X Y) {f : F} {L : Value} (hf : Rd X S L f) : Rd Y S L f := rd_of (fun _ h => h) (fun g hg _ ho => (h.stay g (lt_of_heap ho) (.inr hg)).trans ho) hf

/-- A row that is owned reads as what it holds. -/
theorem rd_own {e : TypeId} {A : Nat → Prop} {p : Option Addr} {cap : Nat} {f : F} {xs : List Value} (h : X.ownsRow base e 4 (.slice p f.len cap) f.len xs) (hf : Fits X S f xs) (hA : ∀ g, S g → A g) (hb : ∀ g, base ≤ g → A g) : Rd X A (.slice p f.len cap) f := by
  rcases h.2 with ⟨h1, h2⟩ | ⟨g, cap', cur, h1, h2, h3, h4, h5, _, h6⟩
  · refine .inl ⟨h1, ?_⟩
    cases f with
    | nil => rfl
    | cons => simp [F.len] at h2
  · rw [h1]
    refine rd_row h3 (hb g h2) hA ?_ h4 h5
    rw [h6]
    exact hf
end

/-- The two values under way: their heads in blocks b8 and b9, their lists in rows of their own. -/
def St (e1 e2 : TypeId) (base b8 b9 : Nat) (k m : Int) (s : ByteArray) (f : F) (X : World) : Prop :=
  ∃ (S : Nat → Prop) (p1 p2 : Option Addr) (c1 c2 : Nat) (xs1 xs2 : List Value),
    X.heap[b8]? = some (.cells #[.int .i64 k, .int .i64 m, .string s, .slice p1 f.len c1] e1 (0, 0)) ∧ X.heap[b9]? = some (.cells #[.int .i64 k, .int .i64 m, .string s, .slice p2 f.len c2] e2 (0, 0)) ∧
    Inv e1 e2 base S (.slice p1 f.len c1) (.slice p2 f.len c2) f.len f.len xs1 xs2 X ∧ Fits X S f xs1 ∧ Fits X S f xs2

/-- What else lies there: the number of items gone through, the two results' places, the item. -/
def Env (ti e1 e2 tm : TypeId) (W : World) (ba at_ : Nat) (k m c : Int) (s : ByteArray) (X : World) : Prop :=
  W.grownBy X (some ba) ∧ W.heap.size + 5 ≤ X.heap.size ∧ X.heap[ba]? = some (.cells #[.int .i64 (at_ : Int)] ti (0, 0)) ∧
    X.heap[W.heap.size]? = some (.cells #[.int .i64 0, .int .i64 0, .string ⟨#[]⟩, .slice none 0 0] e1 (0, 0)) ∧ X.heap[W.heap.size + 1]? = some (.cells #[.int .i64 0, .int .i64 0, .string ⟨#[]⟩, .slice none 0 0] e2 (0, 0)) ∧
    X.heap[W.heap.size + 2]? = some (.cells #[.int .i64 k, .int .i64 m, .string s, .int .i64 c] tm (0, 0))

end Go.Proofs.YtkelipedpjmmaaaDoor.M

namespace Go.Proofs.YtkelipedpjmmaaaDoor.M
open Go.RowKit

section
variable {ti e1 e2 tm : TypeId} {W X : World} {ba at_ : Nat} {k m c : Int} {s : ByteArray}

theorem grown_set0 {w : World} {b : Nat} (v : Value) : w.grownBy (w.setCell ⟨b, 0, none⟩ v) (some b) :=
  ⟨rfl, rfl, rfl, by simp [World.setCell], fun k _ hk => Below.heap_setCell _ _ _ _ (fun e => hk (by rw [e]))⟩

/-- Behind the first four statements. -/
theorem start (ha : W.heap[ba]? = some (.cells #[.int .i64 (at_ : Int)] ti (0, 0)))
    (hX : X = (((W.setCell ⟨ba, 0, none⟩ (.int .i64 ((at_ : Int) + 1))).alloc (.cells #[.int .i64 0, .int .i64 0, .string ⟨#[]⟩, .slice none 0 0] e1)).alloc (.cells #[.int .i64 0, .int .i64 0, .string ⟨#[]⟩, .slice none 0 0] e2)).alloc (.cells #[.int .i64 k, .int .i64 m, .string s, .int .i64 c] tm)) :
    W.grownBy X (some ba) ∧ X.heap.size = W.heap.size + 3 ∧ X.heap[ba]? = some (.cells #[.int .i64 ((at_ + 1 : Nat) : Int)] ti (0, 0)) ∧
    X.heap[W.heap.size]? = some (.cells #[.int .i64 0, .int .i64 0, .string ⟨#[]⟩, .slice none 0 0] e1 (0, 0)) ∧ X.heap[W.heap.size + 1]? = some (.cells #[.int .i64 0, .int .i64 0, .string ⟨#[]⟩, .slice none 0 0] e2 (0, 0)) ∧
    X.heap[W.heap.size + 2]? = some (.cells #[.int .i64 k, .int .i64 m, .string s, .int .i64 c] tm (0, 0)) := by
  have lba := lt_of_heap ha
  have hx0 := heap_set1 ha 0 (.int .i64 ((at_ : Int) + 1))
  have hxz : (W.setCell ⟨ba, 0, none⟩ (.int .i64 ((at_ : Int) + 1))).heap.size = W.heap.size := by simp [World.setCell]
  have hg0 := grown_set0 (w := W) (b := ba) (.int .i64 ((at_ : Int) + 1))
  generalize W.setCell ⟨ba, 0, none⟩ (.int .i64 ((at_ : Int) + 1)) = V at *
  have y1 := heap_alloc_new V (.cells #[.int .i64 0, .int .i64 0, .string ⟨#[]⟩, .slice none 0 0] e1)
  have y2 := heap_alloc_new (V.alloc (.cells #[.int .i64 0, .int .i64 0, .string ⟨#[]⟩, .slice none 0 0] e1)) (.cells #[.int .i64 0, .int .i64 0, .string ⟨#[]⟩, .slice none 0 0] e2)
  have y3 := heap_alloc_new ((V.alloc (.cells #[.int .i64 0, .int .i64 0, .string ⟨#[]⟩, .slice none 0 0] e1)).alloc (.cells #[.int .i64 0, .int .i64 0, .string ⟨#[]⟩, .slice none 0 0] e2)) (.cells #[.int .i64 k, .int .i64 m, .string s, .int .i64 c] tm)
  rw [hxz] at y1
  rw [World.size_alloc, hxz] at y2
  rw [World.size_alloc, World.size_alloc, hxz] at y3
  subst hX
  refine ⟨grown_trans (grown_trans (grown_trans hg0 (grown_some (grown1 _ _) _)) (grown_some (grown1 _ _) _)) (grown_some (grown1 _ _) _), by simp [hxz], ?_, ?_, ?_, y3⟩
  · rw [Below.heap_alloc _ _ _ (by simp; omega), Below.heap_alloc _ _ _ (by simp; omega), Below.heap_alloc _ _ _ (by omega), hx0]
    simp
  · rw [Below.heap_alloc _ _ _ (by simp; omega), Below.heap_alloc _ _ _ (by simp; omega), y1]
  · rw [Below.heap_alloc _ _ _ (by simp; omega), y2]

/-- What is there is there behind a call that makes memory, and counts. -/
theorem Env.grown {Y : World} {a' : Nat} (h : Env ti e1 e2 tm W ba at_ k m c s X) (g : X.grownBy Y (some ba)) (hba : ba < W.heap.size) (ha : Y.heap[ba]? = some (.cells #[.int .i64 (a' : Int)] ti (0, 0))) : Env ti e1 e2 tm W ba a' k m c s Y := by
  obtain ⟨h1, h2, h3, h4, h5, h6⟩ := h
  exact ⟨grown_trans h1 g, Nat.le_trans h2 g.size, ha, (g.block _ (by omega) (by simp; omega)).trans h4, (g.block _ (by omega) (by simp; omega)).trans h5, (g.block _ (by omega) (by simp; omega)).trans h6⟩
theorem Env.same {Y : World} (h : Env ti e1 e2 tm W ba at_ k m c s X) (g : X.grownBy Y none) (hba : ba < W.heap.size) : Env ti e1 e2 tm W ba at_ k m c s Y :=
  h.grown (grown_some g _) hba ((g.block _ (by have := h.2.1; omega) (by simp)).trans h.2.2.1)

/-- The two heads, laid in whatever order. -/
theorem begun (x1 : W.grownBy X (some ba)) (x2 : X.heap.size = W.heap.size + 3) (x3 : X.heap[ba]? = some (.cells #[.int .i64 ((at_ + 1 : Nat) : Int)] ti (0, 0)))
    (x4 : X.heap[W.heap.size]? = some (.cells #[.int .i64 0, .int .i64 0, .string ⟨#[]⟩, .slice none 0 0] e1 (0, 0))) (x5 : X.heap[W.heap.size + 1]? = some (.cells #[.int .i64 0, .int .i64 0, .string ⟨#[]⟩, .slice none 0 0] e2 (0, 0)))
    (x6 : X.heap[W.heap.size + 2]? = some (.cells #[.int .i64 k, .int .i64 m, .string s, .int .i64 c] tm (0, 0))) (hba : ba < W.heap.size) (ea eb : TypeId) :
    Env ti e1 e2 tm W ba (at_ + 1) k m c s ((X.alloc (.cells #[.int .i64 k, .int .i64 m, .string s, .slice none 0 0] ea)).alloc (.cells #[.int .i64 k, .int .i64 m, .string s, .slice none 0 0] eb)) ∧
    ((X.alloc (.cells #[.int .i64 k, .int .i64 m, .string s, .slice none 0 0] ea)).alloc (.cells #[.int .i64 k, .int .i64 m, .string s, .slice none 0 0] eb)).heap[W.heap.size + 3]? = some (.cells #[.int .i64 k, .int .i64 m, .string s, .slice none 0 0] ea (0, 0)) ∧
    ((X.alloc (.cells #[.int .i64 k, .int .i64 m, .string s, .slice none 0 0] ea)).alloc (.cells #[.int .i64 k, .int .i64 m, .string s, .slice none 0 0] eb)).heap[W.heap.size + 4]? = some (.cells #[.int .i64 k, .int .i64 m, .string s, .slice none 0 0] eb (0, 0)) ∧
    W.heap.size + 5 ≤ ((X.alloc (.cells #[.int .i64 k, .int .i64 m, .string s, .slice none 0 0] ea)).alloc (.cells #[.int .i64 k, .int .i64 m, .string s, .slice none 0 0] eb)).heap.size := by
  have y1 := heap_alloc_new X (.cells #[.int .i64 k, .int .i64 m, .string s, .slice none 0 0] ea)
  have y2 := heap_alloc_new (X.alloc (.cells #[.int .i64 k, .int .i64 m, .string s, .slice none 0 0] ea)) (.cells #[.int .i64 k, .int .i64 m, .string s, .slice none 0 0] eb)
  rw [x2] at y1
  rw [World.size_alloc, x2] at y2
  have g := grown2 X (.cells #[.int .i64 k, .int .i64 m, .string s, .slice none 0 0] ea) (.cells #[.int .i64 k, .int .i64 m, .string s, .slice none 0 0] eb)
  refine ⟨⟨grown_trans x1 (grown_some g _), by simp [x2], (g.block _ (by omega) (by simp)).trans x3, (g.block _ (by omega) (by simp)).trans x4, (g.block _ (by omega) (by simp)).trans x5, (g.block _ (by omega) (by simp)).trans x6⟩, ?_, y2, by simp [x2]⟩
  rw [Below.heap_alloc _ _ _ (by simp; omega), y1]

theorem st_nil {base b8 b9 : Nat} (h8 : X.heap[b8]? = some (.cells #[.int .i64 k, .int .i64 m, .string s, .slice none 0 0] e1 (0, 0))) (h9 : X.heap[b9]? = some (.cells #[.int .i64 k, .int .i64 m, .string s, .slice none 0 0] e2 (0, 0))) (hb : base ≤ X.heap.size) : St e1 e2 base b8 b9 k m s .nil X :=
  ⟨fun _ => False, none, none, 0, 0, [], [], h8, h9, ⟨World.ownsRow_nil _ _ _ _, World.ownsRow_nil _ _ _ _, .inl rfl, fun _ h => h.elim, hb⟩, rfl, rfl⟩

/-- .. and the two values under way are there behind such a call. -/
theorem St.grown {Y : World} {base b8 b9 : Nat} {f : F} (h : St e1 e2 base b8 b9 k m s f X) (g : X.grownBy Y (some ba)) (hba : ba < base) (h8 : b8 ≠ ba) (h9 : b9 ≠ ba) : St e1 e2 base b8 b9 k m s f Y := by
  obtain ⟨S, p1, p2, c1, c2, xs1, xs2, a1, a2, hI, f1, f2⟩ := h
  have hk : ∀ x, S x → ∀ o, X.heap[x]? = some o → Y.heap[x]? = some o := fun x hx o ho => (g.block x (lt_of_heap ho) (by have := (hI.kids x hx).1; simp; omega)).trans ho
  refine ⟨S, p1, p2, c1, c2, xs1, xs2, (g.block b8 (lt_of_heap a1) (by simp; omega)).trans a1, (g.block b9 (lt_of_heap a2) (by simp; omega)).trans a2, ⟨hI.own1.kept g ?_, hI.own2.kept g ?_, hI.apart, fun x hx => ⟨(hI.kids x hx).1, Nat.lt_of_lt_of_le (hI.kids x hx).2.1 g.size, (hI.kids x hx).2.2⟩, Nat.le_trans hI.here g.size⟩, fits_of (fun _ h => h) hk f1, fits_of (fun _ h => h) hk f2⟩
  · right
    intro e
    have := (hI.own1.lt ba e).1
    omega
  · right
    intro e
    have := (hI.own2.lt ba e).1
    omega
end

section
variable {ti e1 e2 tm : TypeId} {W wr w2 X Y : World} {ba at_ base b8 b9 : Nat} {k m c k' m' : Int} {s s' : ByteArray} {f l : F} {p1 p2 : Option Addr} {c1 c2 : Nat}

/-- Behind an inner call: its two values beside the two under way. -/
theorem joined (hS : St e1 e2 base b8 b9 k m s f wr) (g : wr.grownBy w2 (some ba)) (hba : ba < base) (h8 : b8 ≠ ba) (h9 : b9 ≠ ba) (R1 : Rd w2 (fun g => wr.heap.size ≤ g) (.slice p1 l.len c1) l) (R2 : Rd w2 (fun g => wr.heap.size ≤ g) (.slice p2 l.len c2) l)
    (hX : X = (w2.alloc (.cells #[.int .i64 k', .int .i64 m', .string s', .slice p1 l.len c1] e1)).alloc (.cells #[.int .i64 k', .int .i64 m', .string s', .slice p2 l.len c2] e2)) :
    ∃ (S : Nat → Prop) (q1 q2 : Option Addr) (d1 d2 : Nat) (xs1 xs2 : List Value),
      X.heap[b8]? = some (.cells #[.int .i64 k, .int .i64 m, .string s, .slice q1 f.len d1] e1 (0, 0)) ∧ X.heap[b9]? = some (.cells #[.int .i64 k, .int .i64 m, .string s, .slice q2 f.len d2] e2 (0, 0)) ∧
      Inv e1 e2 base S (.slice q1 f.len d1) (.slice q2 f.len d2) f.len f.len xs1 xs2 X ∧ Fits X S f xs1 ∧ Fits X S f xs2 ∧ Rd X S (.slice p1 l.len c1) l ∧ Rd X S (.slice p2 l.len c2) l ∧
      X.heap[w2.heap.size]? = some (.cells #[.int .i64 k', .int .i64 m', .string s', .slice p1 l.len c1] e1 (0, 0)) ∧ X.heap[w2.heap.size + 1]? = some (.cells #[.int .i64 k', .int .i64 m', .string s', .slice p2 l.len c2] e2 (0, 0)) ∧ S w2.heap.size ∧ S (w2.heap.size + 1) ∧ X.heap.size = w2.heap.size + 2 := by
  obtain ⟨S, q1, q2, d1, d2, xs1, xs2, a1, a2, hI, f1, f2⟩ := hS
  have y1 := heap_alloc_new w2 (.cells #[.int .i64 k', .int .i64 m', .string s', .slice p1 l.len c1] e1)
  have y2 := heap_alloc_new (w2.alloc (.cells #[.int .i64 k', .int .i64 m', .string s', .slice p1 l.len c1] e1)) (.cells #[.int .i64 k', .int .i64 m', .string s', .slice p2 l.len c2] e2)
  rw [World.size_alloc] at y2
  have gx : w2.grownBy X none := by rw [hX]; exact grown2 _ _ _
  have gw : wr.grownBy X (some ba) := grown_trans g (grown_some gx _)
  have hz : X.heap.size = w2.heap.size + 2 := by rw [hX]; simp
  have hh := hI.here
  have hgs := g.size
  have hk : ∀ x, S x → ∀ o, wr.heap[x]? = some o → X.heap[x]? = some o := fun x hx o ho => (gw.block x (lt_of_heap ho) (by have := (hI.kids x hx).1; simp; omega)).trans ho
  refine ⟨fun x => S x ∨ (wr.heap.size ≤ x ∧ x < X.heap.size), q1, q2, d1, d2, xs1, xs2, (gw.block b8 (lt_of_heap a1) (by simp; omega)).trans a1, (gw.block b9 (lt_of_heap a2) (by simp; omega)).trans a2, ⟨hI.own1.kept gw ?_, hI.own2.kept gw ?_, hI.apart, ?_, by omega⟩, fits_of (fun _ h => .inl h) hk f1, fits_of (fun _ h => .inl h) hk f2, ?_, ?_, ?_, ?_, .inr ⟨hgs, by omega⟩, .inr ⟨by omega, by omega⟩, hz⟩
  · right; intro e; have := (hI.own1.lt ba e).1; omega
  · right; intro e; have := (hI.own2.lt ba e).1; omega
  · rintro x (hx | ⟨hx1, hx2⟩)
    · exact ⟨(hI.kids x hx).1, Nat.lt_of_lt_of_le (hI.kids x hx).2.1 gw.size, (hI.kids x hx).2.2⟩
    · refine ⟨by omega, hx2, ?_, ?_⟩
      · intro e; have := (hI.own1.lt x e).2; omega
      · intro e; have := (hI.own2.lt x e).2; omega
  · exact rd_of (fun x h => .inr ⟨h.1, Nat.lt_of_lt_of_le h.2 gx.size⟩) (fun x h o ho => (gx.block x h.2 (by simp)).trans ho) (rd_size R1)
  · exact rd_of (fun x h => .inr ⟨h.1, Nat.lt_of_lt_of_le h.2 gx.size⟩) (fun x h o ho => (gx.block x h.2 (by simp)).trans ho) (rd_size R2)
  · rw [hX, Below.heap_alloc _ _ _ (by simp), y1]
  · rw [hX, y2]

/-- Behind the two appends, and the stores of what they gave. -/
theorem ended {S : Nat → Prop} {q1 q2 : Option Addr} {d1 d2 g1 g2 t1 t2 : Nat} {xs1 xs2 : List Value} (l8 : b8 < base) (l9 : b9 < base) (h89 : b8 ≠ b9)
    (a1 : X.heap[b8]? = some (.cells #[.int .i64 k, .int .i64 m, .string s, .slice q1 f.len d1] e1 (0, 0))) (a2 : X.heap[b9]? = some (.cells #[.int .i64 k, .int .i64 m, .string s, .slice q2 f.len d2] e2 (0, 0)))
    (f1 : Fits X S f xs1) (f2 : Fits X S f xs2) (R1 : Rd X S (.slice p1 l.len c1) l) (R2 : Rd X S (.slice p2 l.len c2) l) (hF : Far base S X Y)
    (hI : Inv e1 e2 base S (.slice (some ⟨g1, 0, none⟩) (f.len + 1) t1) (.slice (some ⟨g2, 0, none⟩) (f.len + 1) t2) (f.len + 1) (f.len + 1) (xs1 ++ [.int .i64 k', .int .i64 m', .string s', .slice p1 l.len c1]) (xs2 ++ [.int .i64 k', .int .i64 m', .string s', .slice p2 l.len c2]) Y) :
    St e1 e2 base b8 b9 k m s (f.app (.cons k' m' s' l .nil)) ((Y.setCell ⟨b8, 3, none⟩ (.slice (some ⟨g1, 0, none⟩) (f.len + 1) t1)).setCell ⟨b9, 3, none⟩ (.slice (some ⟨g2, 0, none⟩) (f.len + 1) t2)) ∧
    (∀ j, j ≠ b8 → j ≠ b9 → ((Y.setCell ⟨b8, 3, none⟩ (.slice (some ⟨g1, 0, none⟩) (f.len + 1) t1)).setCell ⟨b9, 3, none⟩ (.slice (some ⟨g2, 0, none⟩) (f.len + 1) t2)).heap[j]? = Y.heap[j]?) := by
  have hlen : (f.app (.cons k' m' s' l .nil)).len = f.len + 1 := by rw [F.len_app]; rfl
  have y8 := (hF.stay b8 (lt_of_heap a1) (.inl l8)).trans a1
  have y9 := (hF.stay b9 (lt_of_heap a2) (.inl l9)).trans a2
  have z8 := heap_set1 y8 3 (.slice (some ⟨g1, 0, none⟩) (f.len + 1) t1)
  have z9 := heap_set1 ((Below.heap_setCell Y ⟨b8, 3, none⟩ (.slice (some ⟨g1, 0, none⟩) (f.len + 1) t1) b9 (fun e => h89 e.symm)).trans y9) 3 (.slice (some ⟨g2, 0, none⟩) (f.len + 1) t2)
  have hoth : ∀ j, j ≠ b8 → j ≠ b9 → ((Y.setCell ⟨b8, 3, none⟩ (.slice (some ⟨g1, 0, none⟩) (f.len + 1) t1)).setCell ⟨b9, 3, none⟩ (.slice (some ⟨g2, 0, none⟩) (f.len + 1) t2)).heap[j]? = Y.heap[j]? := fun j hj1 hj2 => (Below.heap_setCell _ _ _ _ hj2).trans (Below.heap_setCell _ _ _ _ hj1)
  have hsz : ((Y.setCell ⟨b8, 3, none⟩ (.slice (some ⟨g1, 0, none⟩) (f.len + 1) t1)).setCell ⟨b9, 3, none⟩ (.slice (some ⟨g2, 0, none⟩) (f.len + 1) t2)).heap.size = Y.heap.size := by simp [World.setCell]
  have hS : ∀ x, S x → ∀ o, Y.heap[x]? = some o → ((Y.setCell ⟨b8, 3, none⟩ (.slice (some ⟨g1, 0, none⟩) (f.len + 1) t1)).setCell ⟨b9, 3, none⟩ (.slice (some ⟨g2, 0, none⟩) (f.len + 1) t2)).heap[x]? = some o := fun x hx o ho => (hoth x (by have := (hI.kids x hx).1; omega) (by have := (hI.kids x hx).1; omega)).trans ho
  have own : ∀ {e : TypeId} {v : Value} {n : Nat} {xs : List Value}, Y.ownsRow base e 4 v n xs → ((Y.setCell ⟨b8, 3, none⟩ (.slice (some ⟨g1, 0, none⟩) (f.len + 1) t1)).setCell ⟨b9, 3, none⟩ (.slice (some ⟨g2, 0, none⟩) (f.len + 1) t2)).ownsRow base e 4 v n xs := by
    intro e v n xs h
    refine ⟨h.1, ?_⟩
    rcases h.2 with h2 | ⟨gg, cap, cur, h1, h2, h3, h4⟩
    · exact .inl h2
    · exact .inr ⟨gg, cap, cur, h1, h2, (hoth gg (by omega) (by omega)).trans h3, h4⟩
  refine ⟨⟨S, some ⟨g1, 0, none⟩, some ⟨g2, 0, none⟩, t1, t2, xs1 ++ [.int .i64 k', .int .i64 m', .string s', .slice p1 l.len c1], xs2 ++ [.int .i64 k', .int .i64 m', .string s', .slice p2 l.len c2], ?_, ?_, ?_, ?_, ?_⟩, hoth⟩
  · rw [hlen, Below.heap_setCell _ _ _ _ h89, z8]
    simp
  · rw [hlen, z9]
    simp
  · rw [hlen]
    exact ⟨own hI.own1, own hI.own2, hI.apart, fun x hx => ⟨(hI.kids x hx).1, by rw [hsz]; exact (hI.kids x hx).2.1, (hI.kids x hx).2.2⟩, by rw [hsz]; exact hI.here⟩
  · exact fits_app (fits_of (fun _ h => h) hS (hF.fits f1)) (fits_one (rd_of (fun _ h => h) hS (hF.rd R1)))
  · exact fits_app (fits_of (fun _ h => h) hS (hF.fits f2)) (fits_one (rd_of (fun _ h => h) hS (hF.rd R2)))

/-- The cells that the statement reads. -/
theorem ten {S : Nat → Prop} (F : Far base S X Y) {ua ub : Nat} (h8 : b8 < base) (h9 : b9 < base) (sa : S ua) (sb : S ub) {v8 v9 x0 x1 x2 x3 y0 y1 y2 y3 : Value}
    (h : X.cell? ⟨b8, 3, none⟩ = some v8 ∧ X.cell? ⟨b9, 3, none⟩ = some v9 ∧ X.cell? ⟨ua, 0, none⟩ = some x0 ∧ X.cell? ⟨ua, 1, none⟩ = some x1 ∧ X.cell? ⟨ua, 2, none⟩ = some x2 ∧ X.cell? ⟨ua, 3, none⟩ = some x3 ∧ X.cell? ⟨ub, 0, none⟩ = some y0 ∧ X.cell? ⟨ub, 1, none⟩ = some y1 ∧ X.cell? ⟨ub, 2, none⟩ = some y2 ∧ X.cell? ⟨ub, 3, none⟩ = some y3) :
    Y.cell? ⟨b8, 3, none⟩ = some v8 ∧ Y.cell? ⟨b9, 3, none⟩ = some v9 ∧ Y.cell? ⟨ua, 0, none⟩ = some x0 ∧ Y.cell? ⟨ua, 1, none⟩ = some x1 ∧ Y.cell? ⟨ua, 2, none⟩ = some x2 ∧ Y.cell? ⟨ua, 3, none⟩ = some x3 ∧ Y.cell? ⟨ub, 0, none⟩ = some y0 ∧ Y.cell? ⟨ub, 1, none⟩ = some y1 ∧ Y.cell? ⟨ub, 2, none⟩ = some y2 ∧ Y.cell? ⟨ub, 3, none⟩ = some y3 := by
  obtain ⟨q0, q1, q2, q3, q4, q5, q6, q7, q8, q9⟩ := h
  exact ⟨F.cell q0 (.inl h8), F.cell q1 (.inl h9), F.cell q2 (.inr sa), F.cell q3 (.inr sa), F.cell q4 (.inr sa), F.cell q5 (.inr sa), F.cell q6 (.inr sb), F.cell q7 (.inr sb), F.cell q8 (.inr sb), F.cell q9 (.inr sb)⟩

/-- What else is there is there behind them. -/
theorem Env.far {Z : World} {S : Nat → Prop} (h : Env ti e1 e2 tm W ba at_ k m c s X) (hF : Far (W.heap.size + 5) S X Y) (hba : ba < W.heap.size) (g8 : W.heap.size + 3 ≤ b8) (g9 : W.heap.size + 3 ≤ b9) (hz : Z.heap.size = Y.heap.size) (ho : Z.os = Y.os) (ht : Z.tape = Y.tape) (hu : Z.output = Y.output) (hj : ∀ j, j ≠ b8 → j ≠ b9 → Z.heap[j]? = Y.heap[j]?) : Env ti e1 e2 tm W ba at_ k m c s Z := by
  obtain ⟨h1, h2, h3, h4, h5, h6⟩ := h
  have hs := hF.size
  refine ⟨⟨(ho.trans hF.os).trans h1.os, (ht.trans hF.tape).trans h1.tape, (hu.trans hF.output).trans h1.output, by omega, fun j hj1 hj2 => ?_⟩, by omega, ?_, ?_, ?_, ?_⟩
  · exact (hj j (by omega) (by omega)).trans ((hF.stay j (by omega) (.inl (by omega))).trans (h1.block j hj1 hj2))
  · exact (hj _ (by omega) (by omega)).trans ((hF.stay _ (by omega) (.inl (by omega))).trans h3)
  · exact (hj _ (by omega) (by omega)).trans ((hF.stay _ (by omega) (.inl (by omega))).trans h4)
  · exact (hj _ (by omega) (by omega)).trans ((hF.stay _ (by omega) (.inl (by omega))).trans h5)
  · exact (hj _ (by omega) (by omega)).trans ((hF.stay _ (by omega) (.inl (by omega))).trans h6)
end

end Go.Proofs.YtkelipedpjmmaaaDoor.M

namespace Go.Proofs.YtkelipedpjmmaaaDoor.M

/-- A value. -/
structure V where
  k : Int
  n : Int
  s : ByteArray
  l : F

theorem gX_range (s : ByteArray) (a width : Int) : 0 ≤ gX s a width ∧ gX s a width ≤ (s.size : Int) := by
  by_cases c : width < 1 ∨ 8 < width ∨ a < 0 ∨ (s.size : Int) < a
  · rw [(g_arg c).2.2]; omega
  · by_cases c1 : (s.size : Int) - a < width
    · rw [(g_short c c1).2.2]; omega
    · rw [(g_ok c c1).2.2]; omega
theorem gN_range (s : ByteArray) (a width : Int) : 0 ≤ gN s a width ∧ gN s a width < 18446744073709551616 := by
  by_cases c : width < 1 ∨ 8 < width ∨ a < 0 ∨ (s.size : Int) < a
  · rw [(g_arg c).2.1]; omega
  · by_cases c1 : (s.size : Int) - a < width
    · rw [(g_short c c1).2.1]; omega
    · rw [(g_ok c c1).2.1]; exact num_8 s _ (by omega)
theorem gN_1 (s : ByteArray) (a : Int) : gN s a 1 < 256 := by
  by_cases c : (1 : Int) < 1 ∨ 8 < (1 : Int) ∨ a < 0 ∨ (s.size : Int) < a
  · rw [(g_arg c).2.1]; omega
  · by_cases c1 : (s.size : Int) - a < 1
    · rw [(g_short c c1).2.1]; omega
    · rw [(g_ok c c1).2.1]
      have h := num_range s a.toNat (1 : Int).toNat
      have e : (256 : Int) ^ (1 : Int).toNat = 256 := by decide
      omega
theorem xX_range (s : ByteArray) (a : Int) : 0 ≤ xX s a ∧ xX s a ≤ (s.size : Int) := by
  by_cases c : gE s a 2 = 0
  · obtain ⟨n0, n1, x0, x1⟩ := g_two c
    by_cases c1 : (s.size : Int) - gX s a 2 < gN s a 2
    · rw [(x_short c c1).2.2]; omega
    · rw [(x_ok c c1).2.2]; omega
  · rw [(x_err c).2.2]; omega
theorem xB_size (s : ByteArray) (a : Int) : (xB s a).size ≤ s.size := by
  unfold xB
  split
  · rw [ByteArray.size_extract]; omega
  · exact Nat.zero_le _

/-- A folded number's bytes, behind its mark. -/
def numR (s : ByteArray) (a : Int) : Except Int (Int × Int) :=
  if gE s a 1 ≠ 0 then .error (gE s a 1)
  else if 8 < gN s a 1 then .error 4
  else if gN s a 1 = 0 then .ok (0, gX s a 1)
  else if gE s (gX s a 1) (gN s a 1) ≠ 0 then .error (gE s (gX s a 1) (gN s a 1))
  else if (wid (gN s (gX s a 1) (gN s a 1)) : Int) ≠ gN s a 1 then .error 4
  else .ok (gN s (gX s a 1) (gN s a 1), gX s (gX s a 1) (gN s a 1))
/-- A text's bytes, behind its mark. -/
def textR (s : ByteArray) (a : Int) : Except Int (ByteArray × Int) :=
  if xE s a ≠ 0 then .error (xE s a) else if 4096 < (xB s a).size then .error 5 else .ok (xB s a, xX s a)
/-- So many values. -/
def rowR (v : Int → Except Int (V × Int)) : Nat → Int → Except Int (F × Int)
  | 0, a => .ok (.nil, a)
  | c + 1, a => match v a with
    | .error e => .error e
    | .ok x => (match rowR v c x.2 with
      | .error e => .error e
      | .ok y => .ok (.cons x.1.k x.1.n x.1.s x.1.l y.1, y.2))
/-- A list's bytes, behind its mark, where so many lists may still stand in another. -/
def listR (s : ByteArray) (v : Nat → Int → Except Int (V × Int)) : Nat → Int → Except Int (F × Int)
  | 0, _ => .error 5
  | m + 1, a => if gE s a 2 ≠ 0 then .error (gE s a 2) else if 256 < gN s a 2 then .error 5 else rowR (v m) (gN s a 2).toNat (gX s a 2)
def overN (r : Except Int (Int × Int)) : Except Int (V × Int) := match r with
  | .error e => .error e
  | .ok x => .ok (⟨0, unfoldI x.1, ⟨#[]⟩, .nil⟩, x.2)
def overT (r : Except Int (ByteArray × Int)) : Except Int (V × Int) := match r with
  | .error e => .error e
  | .ok x => .ok (⟨1, 0, x.1, .nil⟩, x.2)
def overL (r : Except Int (F × Int)) : Except Int (V × Int) := match r with
  | .error e => .error e
  | .ok x => .ok (⟨2, 0, ⟨#[]⟩, x.1⟩, x.2)
/-- A value's bytes, where so many lists may still stand one in another. -/
def valR (s : ByteArray) : Nat → Int → Except Int (V × Int)
  | 0, a => if gE s a 1 ≠ 0 then .error (gE s a 1) else if gN s a 1 = 1 then overN (numR s (gX s a 1)) else if gN s a 1 = 2 then overT (textR s (gX s a 1)) else if gN s a 1 = 3 then .error 5 else .error 4
  | m + 1, a => if gE s a 1 ≠ 0 then .error (gE s a 1) else if gN s a 1 = 1 then overN (numR s (gX s a 1)) else if gN s a 1 = 2 then overT (textR s (gX s a 1)) else if gN s a 1 = 3 then
      overL (if gE s (gX s a 1) 2 ≠ 0 then .error (gE s (gX s a 1) 2) else if 256 < gN s (gX s a 1) 2 then .error 5 else rowR (valR s m) (gN s (gX s a 1) 2).toNat (gX s (gX s a 1) 2)) else .error 4
theorem valR_eq (s : ByteArray) (m : Nat) (a : Int) : valR s m a = if gE s a 1 ≠ 0 then .error (gE s a 1) else if gN s a 1 = 1 then overN (numR s (gX s a 1)) else if gN s a 1 = 2 then overT (textR s (gX s a 1)) else if gN s a 1 = 3 then overL (listR s (valR s) m (gX s a 1)) else .error 4 := by
  cases m with
  | zero => unfold valR listR; rfl
  | succ m => conv => lhs; unfold valR
              rfl
/-- All bytes of a text. -/
def allR (s : ByteArray) : Except Int V := match valR s 8 0 with
  | .error e => .error e
  | .ok x => if x.2 = (s.size : Int) then .ok x.1 else .error 4

/-- Behind values that were read. -/
def front (f : F) (r : Except Int (F × Int)) : Except Int (F × Int) := match r with
  | .error e => .error e
  | .ok x => .ok (f.app x.1, x.2)
theorem front_nil (r : Except Int (F × Int)) : front .nil r = r := by cases r <;> rfl
theorem front_err {v : Int → Except Int (V × Int)} {c : Nat} {a : Int} {f : F} {e : Int} (h : v a = .error e) : front f (rowR v (c + 1) a) = .error e := by
  simp only [rowR, h, front]
theorem front_ok {v : Int → Except Int (V × Int)} {c : Nat} {a : Int} {f : F} {x : V × Int} (h : v a = .ok x) : front f (rowR v (c + 1) a) = front (f.app (.cons x.1.k x.1.n x.1.s x.1.l .nil)) (rowR v c x.2) := by
  simp only [rowR, h]
  cases rowR v c x.2 with
  | error e => rfl
  | ok y => simp only [front]; rw [F.snoc_app]

/-- The place behind is within. -/
theorem numR_at {s : ByteArray} {a : Int} {x : Int × Int} (h : numR s a = .ok x) : 0 ≤ x.2 ∧ x.2 ≤ (s.size : Int) := by
  unfold numR at h
  split at h; · cases h
  split at h; · cases h
  split at h; · cases h; exact gX_range _ _ _
  split at h; · cases h
  split at h; · cases h
  cases h; exact gX_range _ _ _
theorem textR_at {s : ByteArray} {a : Int} {x : ByteArray × Int} (h : textR s a = .ok x) : 0 ≤ x.2 ∧ x.2 ≤ (s.size : Int) := by
  unfold textR at h
  split at h; · cases h
  split at h; · cases h
  cases h; exact xX_range _ _
theorem rowR_at {s : ByteArray} {v : Int → Except Int (V × Int)} (hv : ∀ a x, v a = .ok x → 0 ≤ x.2 ∧ x.2 ≤ (s.size : Int)) : ∀ {c : Nat} {a : Int} {x : F × Int}, 0 ≤ a ∧ a ≤ (s.size : Int) → rowR v c a = .ok x → 0 ≤ x.2 ∧ x.2 ≤ (s.size : Int)
  | 0, a, x, ha, h => by simp only [rowR] at h; cases h; exact ha
  | c + 1, a, x, ha, h => by
    simp only [rowR] at h
    cases h1 : v a with
    | error e => rw [h1] at h; cases h
    | ok y =>
      rw [h1] at h
      simp only at h
      cases h2 : rowR v c y.2 with
      | error e => rw [h2] at h; cases h
      | ok z => rw [h2] at h; cases h; exact (rowR_at hv (hv _ _ h1) h2 : 0 ≤ z.2 ∧ z.2 ≤ (s.size : Int))
theorem rowR_len {v : Int → Except Int (V × Int)} : ∀ {c : Nat} {a : Int} {x : F × Int}, rowR v c a = .ok x → x.1.len = c
  | 0, a, x, h => by simp only [rowR] at h; cases h; rfl
  | c + 1, a, x, h => by
    simp only [rowR] at h
    cases h1 : v a with
    | error e => rw [h1] at h; cases h
    | ok y =>
      rw [h1] at h
      simp only at h
      cases h2 : rowR v c y.2 with
      | error e => rw [h2] at h; cases h
      | ok z => rw [h2] at h; cases h; simp [F.len, rowR_len h2]
theorem valR_at {s : ByteArray} : ∀ {m : Nat} {a : Int} {x : V × Int}, valR s m a = .ok x → 0 ≤ x.2 ∧ x.2 ≤ (s.size : Int) := by
  intro m
  induction m with
  | zero =>
    intro a x h
    rw [valR_eq] at h
    split at h; · cases h
    split at h
    · cases h1 : numR s (gX s a 1) with
      | error e => rw [h1] at h; cases h
      | ok y => rw [h1] at h; cases h; exact numR_at h1
    split at h
    · cases h1 : textR s (gX s a 1) with
      | error e => rw [h1] at h; cases h
      | ok y => rw [h1] at h; cases h; exact textR_at h1
    split at h
    · cases h
    · cases h
  | succ m ih =>
    intro a x h
    rw [valR_eq] at h
    split at h; · cases h
    split at h
    · cases h1 : numR s (gX s a 1) with
      | error e => rw [h1] at h; cases h
      | ok y => rw [h1] at h; cases h; exact numR_at h1
    split at h
    · cases h1 : textR s (gX s a 1) with
      | error e => rw [h1] at h; cases h
      | ok y => rw [h1] at h; cases h; exact textR_at h1
    split at h
    · simp only [listR] at h
      split at h; · cases h
      split at h; · cases h
      cases h1 : rowR (valR s m) (gN s (gX s a 1) 2).toNat (gX s (gX s a 1) 2) with
      | error e => rw [h1] at h; cases h
      | ok y => rw [h1] at h; cases h; exact rowR_at (fun a x h => ih h) (gX_range _ _ _) h1
    · cases h

end Go.Proofs.YtkelipedpjmmaaaDoor.M

namespace Go.Proofs.YtkelipedpjmmaaaDoor.M

theorem num_head (s : ByteArray) (a : Nat) : ∀ k, num s a (k + 1) = bt s a * 256 ^ k + num s (a + 1) k
  | 0 => by simp [num]
  | k + 1 => by
    have h := num_head s a k
    have e : num s a (k + 1 + 1) = num s a (k + 1) * 256 + bt s (a + (k + 1)) := rfl
    have e2 : num s (a + 1) (k + 1) = num s (a + 1) k * 256 + bt s (a + 1 + k) := rfl
    rw [e, h, e2, Int.pow_succ, Int.add_mul, Int.mul_assoc]
    have e3 : a + (k + 1) = a + 1 + k := by omega
    rw [e3]
    omega
/-- A nought ahead: fewer bytes would do. -/
theorem head_zero (s : ByteArray) (a k : Nat) (hk : k ≤ 7) : bt s a = 0 ↔ wid (num s a (k + 1)) ≠ k + 1 := by
  have hr := num_range s a (k + 1)
  have h8 := num_8 s a (k := k + 1) (by omega)
  have ht := num_range s (a + 1) k
  have hb := bt_range s a
  have hp : ((256 : Int) ^ k) = ((256 ^ k : Nat) : Int) := by rw [Int.natCast_pow]; rfl
  have hp1 : ((256 : Int) ^ (k + 1)) = ((256 ^ (k + 1) : Nat) : Int) := by rw [Int.natCast_pow]; rfl
  have hle : wid (num s a (k + 1)) ≤ k + 1 := wid_le (by omega) (by rw [hp1] at hr; omega)
  rw [num_head] at *
  constructor
  · intro h
    rw [h, Int.zero_mul, Int.zero_add]
    have : wid (num s (a + 1) k) ≤ k := wid_le (by omega) (by rw [hp] at ht; omega)
    omega
  · intro h
    rcases Int.lt_or_le 0 (bt s a) with h1 | h1
    · exfalso
      apply h
      have h2 : (256 : Int) ^ k ≤ bt s a * 256 ^ k := by
        have h3 : (1 : Int) * 256 ^ k ≤ bt s a * 256 ^ k := Int.mul_le_mul_of_nonneg_right h1 (by omega)
        omega
      have := wid_gt (k := k) (m := bt s a * 256 ^ k + num s (a + 1) k) (by rw [hp] at h2 ⊢; omega) h8.2
      omega
    · omega

theorem rowR_code {v : Int → Except Int (V × Int)} (hv : ∀ a e, v a = .error e → e ≠ 0) : ∀ {c : Nat} {a : Int} {e : Int}, rowR v c a = .error e → e ≠ 0
  | 0, a, e, h => by simp only [rowR] at h; cases h
  | c + 1, a, e, h => by
    simp only [rowR] at h
    cases h1 : v a with
    | error e => rw [h1] at h; cases h; exact hv _ _ h1
    | ok y =>
      rw [h1] at h
      simp only at h
      cases h2 : rowR v c y.2 with
      | error e => rw [h2] at h; cases h; exact rowR_code hv h2
      | ok z => rw [h2] at h; cases h
theorem numR_code {s : ByteArray} {a c : Int} (h : numR s a = .error c) : c ≠ 0 := by
  unfold numR at h
  split at h; · cases h; assumption
  split at h; · cases h; decide
  split at h; · cases h
  split at h; · cases h; assumption
  split at h; · cases h; decide
  cases h
theorem textR_code {s : ByteArray} {a c : Int} (h : textR s a = .error c) : c ≠ 0 := by
  unfold textR at h
  split at h; · cases h; assumption
  split at h; · cases h; decide
  cases h
theorem valR_code {s : ByteArray} : ∀ {m : Nat} {a c : Int}, valR s m a = .error c → c ≠ 0 := by
  intro m
  induction m with
  | zero =>
    intro a c h
    rw [valR_eq] at h
    split at h; · cases h; assumption
    split at h
    · cases h1 : numR s (gX s a 1) with
      | error e => rw [h1] at h; cases h; exact numR_code h1
      | ok y => rw [h1] at h; cases h
    split at h
    · cases h1 : textR s (gX s a 1) with
      | error e => rw [h1] at h; cases h; exact textR_code h1
      | ok y => rw [h1] at h; cases h
    split at h
    · cases h; decide
    · cases h; decide
  | succ m ih =>
    intro a c h
    rw [valR_eq] at h
    split at h; · cases h; assumption
    split at h
    · cases h1 : numR s (gX s a 1) with
      | error e => rw [h1] at h; cases h; exact numR_code h1
      | ok y => rw [h1] at h; cases h
    split at h
    · cases h1 : textR s (gX s a 1) with
      | error e => rw [h1] at h; cases h; exact textR_code h1
      | ok y => rw [h1] at h; cases h
    split at h
    · simp only [listR] at h
      split at h; · cases h; assumption
      split at h; · cases h; decide
      cases h1 : rowR (valR s m) (gN s (gX s a 1) 2).toNat (gX s (gX s a 1) 2) with
      | error e => rw [h1] at h; cases h; exact rowR_code (fun a e he => ih he) h1
      | ok y => rw [h1] at h; cases h
    · cases h; decide

end Go.Proofs.YtkelipedpjmmaaaDoor.M

namespace Go.Proofs.YtkelipedpjmmaaaDoor.M
open Go.RowKit

/-- One value under way. -/
def St1 (e : TypeId) (base b : Nat) (f : F) (S : Nat → Prop) (p : Option Addr) (c : Nat) (xs : List Value) (X : World) : Prop :=
  X.heap[b]? = some (.cells #[.int .i64 2, .int .i64 0, .string ⟨#[]⟩, .slice p f.len c] e (0, 0)) ∧ Inv e e base S (.slice p f.len c) (.slice none 0 0) f.len 0 xs [] X ∧ Fits X S f xs

theorem st1_nil {e : TypeId} {base b : Nat} {X : World} (h : X.heap[b]? = some (.cells #[.int .i64 2, .int .i64 0, .string ⟨#[]⟩, .slice none 0 0] e (0, 0))) (hb : base ≤ X.heap.size) : St1 e base b .nil (fun _ => False) none 0 [] X :=
  ⟨h, ⟨World.ownsRow_nil _ _ _ _, World.ownsRow_nil _ _ _ _, .inl rfl, fun _ h => h.elim, hb⟩, rfl⟩

section
variable {e : TypeId} {base b : Nat} {f l : F} {S : Nat → Prop} {p p1 : Option Addr} {c c1 : Nat} {xs : List Value} {wr w2 X Y : World} {k n : Int} {s : ByteArray}

/-- Behind an inner call: its value beside the one under way. -/
theorem joined1 (h : St1 e base b f S p c xs wr) (g : wr.grownBy w2 none) (R : Rd w2 (fun g => wr.heap.size ≤ g) (.slice p1 l.len c1) l) (hX : X = w2.alloc (.cells #[.int .i64 k, .int .i64 n, .string s, .slice p1 l.len c1] e)) :
    ∃ S' : Nat → Prop, St1 e base b f S' p c xs X ∧ Rd X S' (.slice p1 l.len c1) l ∧ X.heap[w2.heap.size]? = some (.cells #[.int .i64 k, .int .i64 n, .string s, .slice p1 l.len c1] e (0, 0)) ∧ S' w2.heap.size ∧ X.heap.size = w2.heap.size + 1 ∧ wr.grownBy X none := by
  obtain ⟨a1, hI, f1⟩ := h
  have gx : w2.grownBy X none := by rw [hX]; exact grown1 _ _
  have gw : wr.grownBy X none := grown_trans g gx
  have hz : X.heap.size = w2.heap.size + 1 := by rw [hX]; simp
  have hh := hI.here
  have hgs := g.size
  have hI' := hI.grow gw
  refine ⟨fun x => S x ∨ (wr.heap.size ≤ x ∧ x < X.heap.size), ⟨(gw.block b (lt_of_heap a1) (by simp)).trans a1, ⟨hI'.own1, hI'.own2, hI'.apart, ?_, hI'.here⟩, fits_of (fun _ h => .inl h) (fun x hx o ho => (gw.block x (lt_of_heap ho) (by simp)).trans ho) f1⟩, ?_, ?_, .inr ⟨hgs, by omega⟩, hz, gw⟩
  · rintro x (hx | ⟨hx1, hx2⟩)
    · exact hI'.kids x hx
    · refine ⟨by omega, hx2, ?_, by simp [Value.ownBlock]⟩
      intro e; have := (hI.own1.lt x e).2; omega
  · exact rd_of (fun x h => .inr ⟨h.1, Nat.lt_of_lt_of_le h.2 gx.size⟩) (fun x h o ho => (gx.block x h.2 (by simp)).trans ho) (rd_size R)
  · rw [hX]; exact heap_alloc_new w2 _

/-- Behind the append, and the store of what it gave. -/
theorem ended1 {g1 t1 : Nat} (lb : b < base) (h : St1 e base b f S p c xs X) (R : Rd X S (.slice p1 l.len c1) l) (hF : Far base S X Y)
    (hI : Inv e e base S (.slice (some ⟨g1, 0, none⟩) (f.len + 1) t1) (.slice none 0 0) (f.len + 1) 0 (xs ++ [.int .i64 k, .int .i64 n, .string s, .slice p1 l.len c1]) [] Y) :
    St1 e base b (f.app (.cons k n s l .nil)) S (some ⟨g1, 0, none⟩) t1 (xs ++ [.int .i64 k, .int .i64 n, .string s, .slice p1 l.len c1]) (Y.setCell ⟨b, 3, none⟩ (.slice (some ⟨g1, 0, none⟩) (f.len + 1) t1)) := by
  obtain ⟨a1, _, f1⟩ := h
  have hlen : (f.app (.cons k n s l .nil)).len = f.len + 1 := by rw [F.len_app]; rfl
  have y8 := (hF.stay b (lt_of_heap a1) (.inl lb)).trans a1
  have z8 := heap_set1 y8 3 (.slice (some ⟨g1, 0, none⟩) (f.len + 1) t1)
  have hoth : ∀ j, j ≠ b → (Y.setCell ⟨b, 3, none⟩ (.slice (some ⟨g1, 0, none⟩) (f.len + 1) t1)).heap[j]? = Y.heap[j]? := fun j hj => Below.heap_setCell _ _ _ _ hj
  have hsz : (Y.setCell ⟨b, 3, none⟩ (.slice (some ⟨g1, 0, none⟩) (f.len + 1) t1)).heap.size = Y.heap.size := by simp [World.setCell]
  have hS : ∀ x, S x → ∀ o, Y.heap[x]? = some o → (Y.setCell ⟨b, 3, none⟩ (.slice (some ⟨g1, 0, none⟩) (f.len + 1) t1)).heap[x]? = some o := fun x hx o ho => (hoth x (by have := (hI.kids x hx).1; omega)).trans ho
  have own : ∀ {v : Value} {n : Nat} {xs : List Value}, Y.ownsRow base e 4 v n xs → (Y.setCell ⟨b, 3, none⟩ (.slice (some ⟨g1, 0, none⟩) (f.len + 1) t1)).ownsRow base e 4 v n xs := by
    intro v n xs h
    refine ⟨h.1, ?_⟩
    rcases h.2 with h2 | ⟨gg, cap, cur, h1, h2, h3, h4⟩
    · exact .inl h2
    · exact .inr ⟨gg, cap, cur, h1, h2, (hoth gg (by omega)).trans h3, h4⟩
  refine ⟨?_, ?_, ?_⟩
  · rw [hlen, z8]; simp
  · rw [hlen]
    exact ⟨own hI.own1, own hI.own2, hI.apart, fun x hx => ⟨(hI.kids x hx).1, by rw [hsz]; exact (hI.kids x hx).2.1, (hI.kids x hx).2.2⟩, by rw [hsz]; exact hI.here⟩
  · exact fits_app (fits_of (fun _ h => h) hS (hF.fits f1)) (fits_one (rd_of (fun _ h => h) hS (hF.rd R)))
end

end Go.Proofs.YtkelipedpjmmaaaDoor.M

namespace Go.Proofs.YtkelipedpjmmaaaDoor.M

/-- From the place to the end these bytes stand. -/
def Here (s : ByteArray) (a : Nat) (l : List UInt8) : Prop := a ≤ s.size ∧ s.data.toList.drop a = l
theorem Here.size {s : ByteArray} {a : Nat} {l : List UInt8} (h : Here s a l) : s.size = a + l.length := by
  have h1 : (s.data.toList.drop a).length = l.length := by rw [h.2]
  have h2 : s.data.toList.length = s.size := Array.length_toList
  rw [List.length_drop, h2] at h1
  have := h.1
  omega
theorem Here.drop {s : ByteArray} {a : Nat} {b r : List UInt8} (h : Here s a (b ++ r)) : Here s (a + b.length) r := by
  have h1 := h.size
  rw [List.length_append] at h1
  refine ⟨by omega, ?_⟩
  rw [← List.drop_drop, h.2]
  simp
theorem Here.one {s : ByteArray} {a : Nat} {x : UInt8} {r : List UInt8} (h : Here s a (x :: r)) : Here s (a + 1) r := Here.drop (b := [x]) h
theorem Here.split {s : ByteArray} {a : Nat} {b r : List UInt8} (h : Here s a (b ++ r)) : ∃ p : ByteArray, p.size = a ∧ s = p ++ ⟨b.toArray⟩ ++ ⟨r.toArray⟩ := by
  have h2 : s.data.toList.length = s.size := Array.length_toList
  refine ⟨⟨(s.data.toList.take a).toArray⟩, ?_, ?_⟩
  · show (s.data.toList.take a).toArray.size = a
    rw [List.size_toArray, List.length_take]
    have := h.1
    omega
  · apply ByteArray.ext
    apply Array.toList_inj.1
    have e := List.take_append_drop a s.data.toList
    rw [h.2] at e
    simp
    exact e.symm
theorem here_get {s : ByteArray} {a w : Nat} {x : Int} {r : List UInt8} (h : Here s a (be w x ++ r)) (h1 : 1 ≤ w) (h2 : w ≤ 8) (hx : 0 ≤ x) (hw : x < ((256 ^ w : Nat) : Int)) : gE s (a : Int) (w : Int) = 0 ∧ gN s (a : Int) (w : Int) = x ∧ gX s (a : Int) (w : Int) = ((a + w : Nat) : Int) := by
  obtain ⟨p, hp, rfl⟩ := h.split
  obtain ⟨e1, e2, e3⟩ := get_back (p := p) (r := ⟨r.toArray⟩) (w := w) hx h1 h2
  rw [hp] at e1 e2 e3
  rw [size_app, hp, beB_size] at e3
  rw [Int.emod_eq_of_lt hx hw] at e2
  exact ⟨e1, e2, e3⟩
theorem here_short {s : ByteArray} {a w : Nat} {l : List UInt8} (h : Here s a l) (h1 : 1 ≤ w) (h2 : w ≤ 8) (hl : l.length < w) : gE s (a : Int) (w : Int) = 3 := by
  have := h.size
  exact (g_short (by omega) (by omega)).1
theorem here_mark {s : ByteArray} {a : Nat} {x : UInt8} {r : List UInt8} (h : Here s a (x :: r)) : gE s (a : Int) 1 = 0 ∧ gN s (a : Int) 1 = (x.toNat : Int) ∧ gX s (a : Int) 1 = ((a + 1 : Nat) : Int) := by
  have hx := x.toNat_lt
  have e : be 1 (x.toNat : Int) = [x] := by
    have e1 : ((x.toNat : Int) % 256).toNat = x.toNat := by omega
    simp only [be, sh, e1]
    simp
  have h' : Here s a (be 1 (x.toNat : Int) ++ r) := by rw [e]; exact h
  exact here_get (w := 1) h' (by decide) (by decide) (by omega) (by simp; omega)
theorem here_none {s : ByteArray} {a : Nat} (h : Here s a []) : gE s (a : Int) 1 = 3 := here_short (w := 1) h (by omega) (by omega) (by simp)

theorem here_text {s : ByteArray} {a : Nat} {t : ByteArray} {r : List UInt8} (ht : t.size ≤ 65535) (h : Here s a (be 2 (t.size : Int) ++ t.data.toList ++ r)) : xE s (a : Int) = 0 ∧ xB s (a : Int) = t ∧ xX s (a : Int) = ((a + (2 + t.size) : Nat) : Int) := by
  obtain ⟨p, hp, rfl⟩ := h.split
  have hb : tB t = beB 2 (t.size : Int) ++ t := (t_ok (by omega)).2
  have e : (⟨(be 2 (t.size : Int) ++ t.data.toList).toArray⟩ : ByteArray) = tB t := by
    rw [hb]; apply ByteArray.ext; simp [beB]
  rw [e]
  obtain ⟨e1, e2, e3⟩ := text_back (p := p) (r := ⟨r.toArray⟩) ht
  rw [size_app, hb, size_app, beB_size] at e3
  rw [hp] at e1 e2 e3
  rw [hb] at *
  exact ⟨e1, e2, e3⟩
theorem text_short {s : ByteArray} {a : Nat} {l : List UInt8} (h : Here s a l) (hl : l.length < 2) : xE s (a : Int) = 3 := by
  have e := here_short (w := 2) h (by omega) (by omega) hl
  have e' : gE s (a : Int) 2 = 3 := e
  rw [(x_err (s := s) (at_ := (a : Int)) (by rw [e']; decide)).1, e']
theorem text_cut {s : ByteArray} {a n : Nat} {l : List UInt8} (hn : n ≤ 65535) (h : Here s a (be 2 (n : Int) ++ l)) (hl : l.length < n) : xE s (a : Int) = 3 := by
  obtain ⟨e1, e2, e3⟩ := here_get h (by omega) (by omega) (by omega) (by omega)
  have hz := h.size
  rw [List.length_append, be_length] at hz
  exact (x_short (s := s) (at_ := (a : Int)) e1 (by
    have e2' : gN s (a : Int) 2 = (n : Int) := e2
    have e3' : gX s (a : Int) 2 = ((a + 2 : Nat) : Int) := e3
    rw [e2', e3']; omega)).1

theorem cut_split {α : Type} {c c' a b : List α} (h : c ++ c' = a ++ b) (_hc : c' ≠ []) : c.length < a.length ∨ ∃ c2, c = a ++ c2 ∧ c2 ++ c' = b := by
  rcases List.append_eq_append_iff.1 h with ⟨as, h1, h2⟩ | ⟨bs, h1, h2⟩
  · rcases as with _ | ⟨x, as⟩
    · right; exact ⟨[], by simpa using h1.symm, by simpa using h2⟩
    · left; rw [h1]; simp
  · right; exact ⟨bs, h1, h2.symm⟩

/-- A value with nothing in the fields that aren't its kind's. -/
def nrm1 (k n : Int) (s : ByteArray) (l : F) : V := if k = 0 then ⟨0, n, ⟨#[]⟩, .nil⟩ else if k = 1 then ⟨1, 0, s, .nil⟩ else ⟨2, 0, ⟨#[]⟩, l⟩
def nrm : F → F
  | .nil => .nil
  | .cons k n s l r => .cons (nrm1 k n s (nrm l)).k (nrm1 k n s (nrm l)).n (nrm1 k n s (nrm l)).s (nrm1 k n s (nrm l)).l (nrm r)
theorem nrm_len : ∀ f : F, (nrm f).len = f.len
  | .nil => rfl
  | .cons k n s l r => by simp [nrm, F.len, nrm_len r]

theorem numR_full {s : ByteArray} {a : Nat} {m : Int} {r : List UInt8} (h0 : 0 ≤ m) (h1 : m < 18446744073709551616) (h : Here s a (UInt8.ofNat (wid m) :: (be (wid m) m ++ r))) : numR s (a : Int) = .ok (m, ((a + (1 + wid m) : Nat) : Int)) := by
  have w8 := wid_8 h1
  obtain ⟨e1, e2, e3⟩ := here_mark h
  have ew : ((UInt8.ofNat (wid m)).toNat : Int) = (wid m : Int) := by simp; omega
  rw [ew] at e2
  unfold numR
  rw [if_neg (by omega), if_neg (by omega)]
  by_cases c : wid m = 0
  · rw [if_pos (by omega), wid_none h0 h1 c, e3, wid_zero]
  · have hm := wid_lt h1
    obtain ⟨f1, f2, f3⟩ := here_get h.one (w := wid m) (by omega) w8 h0 (by omega)
    rw [if_neg (by omega), e3, e2, f1, f2, f3, if_neg (by omega), if_neg (by omega)]
    have : a + 1 + wid m = a + (1 + wid m) := by omega
    rw [this]
theorem numR_cut {s : ByteArray} {a : Nat} {m : Int} {c c' : List UInt8} (_h0 : 0 ≤ m) (h1 : m < 18446744073709551616) (h : Here s a c) (hc : c ++ c' = UInt8.ofNat (wid m) :: be (wid m) m) (hn : c' ≠ []) : numR s (a : Int) = .error 3 := by
  have w8 := wid_8 h1
  match c, h, hc with
  | [], h, _ =>
    have e := here_none h
    unfold numR
    rw [if_pos (by omega), e]
  | x :: c2, h, hc =>
    simp only [List.cons_append, List.cons.injEq] at hc
    obtain ⟨rfl, hc⟩ := hc
    obtain ⟨e1, e2, e3⟩ := here_mark h
    have ew : ((UInt8.ofNat (wid m)).toNat : Int) = (wid m : Int) := by simp; omega
    rw [ew] at e2
    have hl : c2.length < wid m := by
      have h2 : (c2 ++ c').length = wid m := by rw [hc, be_length]
      have h3 : 0 < c'.length := List.length_pos_iff.2 hn
      rw [List.length_append] at h2
      omega
    have e4 := here_short h.one (w := wid m) (by omega) w8 hl
    unfold numR
    rw [if_neg (by omega), if_neg (by omega), if_neg (by omega), e3, e2, e4, if_pos (by decide)]

section
variable {s : ByteArray} {a m d : Nat} {k n : Int} {t : ByteArray} {l : F} {b : List UInt8}

theorem val_full (hn : -9223372036854775808 ≤ n ∧ n < 9223372036854775808) (hm : m + d = 8) (hb : enc1 k n t l.len d (encF l (d + 1)) = .ok b)
    (hl : ∀ m' a bl r, m = m' + 1 → encF l (d + 1) = .ok bl → Here s a (bl ++ r) → rowR (valR s m') l.len (a : Int) = .ok (nrm l, ((a + bl.length : Nat) : Int))) {r : List UInt8} (h : Here s a (b ++ r)) :
    valR s m (a : Int) = .ok (nrm1 k n t (nrm l), ((a + b.length : Nat) : Int)) := by
  unfold enc1 at hb
  split at hb
  · rename_i c
    subst c
    cases hb
    obtain ⟨f1, f2⟩ := fold_range hn.1 hn.2
    obtain ⟨e1, e2, e3⟩ := here_mark (x := 1) h
    have e2' : gN s (a : Int) 1 = 1 := e2
    rw [valR_eq, if_neg (by omega), if_pos e2', e3, numR_full f1 f2 (r := r) (by have := h.one; simpa [numB] using this)]
    simp only [overN, nrm1, unfold_fold, if_true]
    congr 2
    rw [numB_length]
    congr 1
    omega
  split at hb
  · rename_i c
    subst c
    split at hb
    · cases hb
    rename_i c4
    cases hb
    obtain ⟨e1, e2, e3⟩ := here_mark (x := 2) h
    have e2' : gN s (a : Int) 1 = 2 := e2
    obtain ⟨f1, f2, f3⟩ := here_text (s := s) (a := a + 1) (t := t) (r := r) (by omega) (by have := h.one; simpa using this)
    rw [valR_eq, if_neg (by omega), if_neg (by omega), if_pos e2', e3]
    unfold textR
    rw [f1, f2, f3, if_neg (by omega), if_neg c4]
    simp only [overT, nrm1]
    have : t.data.toList.length = t.size := Array.length_toList
    rw [if_neg (by decide), if_pos trivial]
    congr 2
    simp only [List.length_cons, List.length_append, be_length]
    congr 1
    omega
  split at hb
  · rename_i c0 c1 c
    subst c
    split at hb
    · cases hb
    rename_i c4
    cases hx : encF l (d + 1) with
    | error e => rw [hx] at hb; cases hb
    | ok bl =>
      rw [hx] at hb
      cases hb
      obtain ⟨m', rfl⟩ : ∃ m', m = m' + 1 := ⟨m - 1, by omega⟩
      obtain ⟨e1, e2, e3⟩ := here_mark (x := 3) h
      have e2' : gN s (a : Int) 1 = 3 := e2
      have h2 : Here s (a + 1) (be 2 (l.len : Int) ++ (bl ++ r)) := by have := h.one; simpa using this
      obtain ⟨f1, f2, f3⟩ := here_get h2 (by omega) (by omega) (by omega) (by omega)
      have f1' : gE s ((a + 1 : Nat) : Int) 2 = 0 := f1
      have f2' : gN s ((a + 1 : Nat) : Int) 2 = (l.len : Int) := f2
      have f3' : gX s ((a + 1 : Nat) : Int) 2 = ((a + 1 + 2 : Nat) : Int) := f3
      have h3 := h2.drop
      rw [be_length] at h3
      have g := hl m' (a + 1 + 2) bl r rfl hx h3
      rw [valR_eq, if_neg (by omega), if_neg (by omega), if_neg (by omega), if_pos e2', e3]
      simp only [listR]
      rw [if_neg (by omega), if_neg (by omega), f2', f3', Int.toNat_natCast, g]
      simp only [overL, nrm1]
      rw [if_neg (by decide), if_neg (by decide)]
      congr 2
      simp only [List.length_cons, List.length_append, be_length]
      congr 1
      omega
  · cases hb

theorem val_cut (hn : -9223372036854775808 ≤ n ∧ n < 9223372036854775808) (hm : m + d = 8) (hb : enc1 k n t l.len d (encF l (d + 1)) = .ok b)
    (hl : ∀ m' a bl c c', m = m' + 1 → encF l (d + 1) = .ok bl → Here s a c → c ++ c' = bl → c' ≠ [] → rowR (valR s m') l.len (a : Int) = .error 3) {c c' : List UInt8} (h : Here s a c) (hc : c ++ c' = b) (hne : c' ≠ []) :
    valR s m (a : Int) = .error 3 := by
  match c, h, hc with
  | [], h, _ =>
    have e := here_none h
    rw [valR_eq, if_pos (by omega), e]
  | x :: c2, h, hc =>
    obtain ⟨e1, e2, e3⟩ := here_mark h
    have h1 := h.one
    unfold enc1 at hb
    split at hb
    · rename_i c
      subst c
      cases hb
      obtain ⟨f1, f2⟩ := fold_range hn.1 hn.2
      simp only [numB, List.cons_append, List.cons.injEq] at hc
      obtain ⟨rfl, hc⟩ := hc
      have e2' : gN s (a : Int) 1 = 1 := e2
      rw [valR_eq, if_neg (by omega), if_pos e2', e3, numR_cut f1 f2 h1 hc hne]
      rfl
    split at hb
    · rename_i c
      subst c
      split at hb
      · cases hb
      rename_i c4
      cases hb
      simp only [List.cons_append, List.cons.injEq] at hc
      obtain ⟨rfl, hc⟩ := hc
      have e2' : gN s (a : Int) 1 = 2 := e2
      have ex : xE s ((a + 1 : Nat) : Int) = 3 := by
        rcases cut_split hc hne with h2 | ⟨c3, rfl, h3⟩
        · rw [be_length] at h2; exact text_short h1 h2
        · refine text_cut (n := t.size) (by omega) h1 ?_
          have h4 : (c3 ++ c').length = t.size := by rw [h3]; exact Array.length_toList
          have h5 : 0 < c'.length := List.length_pos_iff.2 hne
          rw [List.length_append] at h4
          omega
      rw [valR_eq, if_neg (by omega), if_neg (by omega), if_pos e2', e3]
      unfold textR
      rw [ex, if_pos (by decide)]
      rfl
    split at hb
    · rename_i c0 c1 c
      subst c
      split at hb
      · cases hb
      rename_i c4
      cases hx : encF l (d + 1) with
      | error e => rw [hx] at hb; cases hb
      | ok bl =>
        rw [hx] at hb
        cases hb
        obtain ⟨m', rfl⟩ : ∃ m', m = m' + 1 := ⟨m - 1, by omega⟩
        simp only [List.cons_append, List.cons.injEq] at hc
        obtain ⟨rfl, hc⟩ := hc
        have e2' : gN s (a : Int) 1 = 3 := e2
        rw [valR_eq, if_neg (by omega), if_neg (by omega), if_neg (by omega), if_pos e2', e3]
        simp only [listR]
        rcases cut_split hc hne with h2 | ⟨c3, rfl, h3⟩
        · rw [be_length] at h2
          have f : gE s ((a + 1 : Nat) : Int) 2 = 3 := here_short (w := 2) h1 (by omega) (by omega) h2
          rw [f, if_pos (by decide)]
          rfl
        · obtain ⟨f1, f2, f3⟩ := here_get h1 (by omega) (by omega) (by omega) (by omega)
          have f1' : gE s ((a + 1 : Nat) : Int) 2 = 0 := f1
          have f2' : gN s ((a + 1 : Nat) : Int) 2 = (l.len : Int) := f2
          have f3' : gX s ((a + 1 : Nat) : Int) 2 = ((a + 1 + 2 : Nat) : Int) := f3
          have h4 := h1.drop
          rw [be_length] at h4
          have g := hl m' (a + 1 + 2) bl c3 c' rfl hx h4 h3 hne
          rw [if_neg (by omega), if_neg (by omega), f2', f3', Int.toNat_natCast, g]
          rfl
    · cases hb
end

theorem row_full {s : ByteArray} : ∀ (f : F) (m d a : Nat) (b r : List UInt8), f.ok → m + d = 8 → encF f d = .ok b → Here s a (b ++ r) → rowR (valR s m) f.len (a : Int) = .ok (nrm f, ((a + b.length : Nat) : Int))
  | .nil, m, d, a, b, r, _, _, hb, _ => by
    simp only [encF] at hb
    cases hb
    simp [rowR, F.len, nrm]
  | .cons k n t l q, m, d, a, b, r, ho, hm, hb, h => by
    simp only [encF] at hb
    obtain ⟨b1, b2, h1, h2, rfl⟩ := cat_ok hb
    rw [List.append_assoc] at h
    have e1 := val_full ho.2.1 hm h1 (fun m' a bl r hm' hx hh => row_full l m' (d + 1) a bl r ho.2.2.2.1 (by omega) hx hh) h
    have e2 := row_full q m d (a + b1.length) b2 r ho.2.2.2.2 hm h2 h.drop
    simp only [F.len, rowR, e1, e2, nrm]
    congr 2
    rw [List.length_append]
    congr 1
    omega
theorem row_cut {s : ByteArray} : ∀ (f : F) (m d a : Nat) (b c c' : List UInt8), f.ok → m + d = 8 → encF f d = .ok b → Here s a c → c ++ c' = b → c' ≠ [] → rowR (valR s m) f.len (a : Int) = .error 3
  | .nil, m, d, a, b, c, c', _, _, hb, _, hc, hne => by
    simp only [encF] at hb
    cases hb
    simp at hc
    exact absurd hc.2 hne
  | .cons k n t l q, m, d, a, b, c, c', ho, hm, hb, h, hc, hne => by
    simp only [encF] at hb
    obtain ⟨b1, b2, h1, h2, rfl⟩ := cat_ok hb
    rcases cut_split hc hne with h3 | ⟨c2, rfl, h3⟩
    · obtain ⟨c1', hc1, hne1⟩ : ∃ c1', c ++ c1' = b1 ∧ c1' ≠ [] := by
        rcases List.append_eq_append_iff.1 hc with ⟨as, g1, g2⟩ | ⟨bs, g1, g2⟩
        · refine ⟨as, g1.symm, ?_⟩
          rintro rfl
          rw [g1] at h3
          simp at h3
        · exfalso
          rw [g1, List.length_append] at h3
          omega
      have e1 := val_cut ho.2.1 hm h1 (fun m' a bl c c' hm' hx hh hcc hnn => row_cut l m' (d + 1) a bl c c' ho.2.2.2.1 (by omega) hx hh hcc hnn) h hc1 hne1
      simp only [F.len, rowR, e1]
    · have e1 := val_full ho.2.1 hm h1 (fun m' a bl r hm' hx hh => row_full l m' (d + 1) a bl r ho.2.2.2.1 (by omega) hx hh) h
      have e2 := row_cut q m d (a + b1.length) b2 c2 c' ho.2.2.2.2 hm h2 h.drop h3 hne
      simp only [F.len, rowR, e1, e2]

end Go.Proofs.YtkelipedpjmmaaaDoor.M
