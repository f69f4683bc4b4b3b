/-
  How the law DiskLasts keeps what each sector may be: a slice of four slices of texts, each in a block of its own, and what its own stores do to it. Nothing is asked but what each fact names.
-/
import Derived.Test.YtffhnkljmalbiaaDkRep
namespace Go.Proofs.Ytffhnkljmalbiaa.Wd
open Go.ChangeShapes Go.WideShapes Go.ChangeAt Go.RowKit Go.Proofs.Ytffhnkljmalbiaa.M

/-- Four cells. -/
def r4 (f : Nat → Value) : List Value := (List.range 4).map f
theorem r4_get (f : Nat → Value) (j : Nat) (h : j < 4) : (r4 f)[j]? = some (f j) := by
  unfold r4
  rw [List.getElem?_map, List.getElem?_range h]
  rfl
theorem r4_length (f : Nat → Value) : (r4 f).length = 4 := by simp [r4]
theorem r4_set (f : Nat → Value) (k : Nat) (v : Value) (h : k < 4) : (r4 f).set k v = r4 (upd f k v) := by
  apply List.ext_getElem?
  intro j
  by_cases hj : j < 4
  · rw [r4_get _ _ hj]
    by_cases c : j = k
    · subst c
      rw [List.getElem?_set_self (by rw [r4_length]; exact hj), upd_at]
    · rw [List.getElem?_set_ne (fun e => c e.symm), r4_get _ _ hj, upd_off _ _ c]
  · rw [List.getElem?_eq_none (by rw [List.length_set, r4_length]; omega), List.getElem?_eq_none (by rw [r4_length]; omega)]

/-- The slices: the first J are laid. -/
def mf (J : Nat) (l : Nat → List ByteArray) (g o c : Nat → Nat) : Nat → Value := fun i => if i < J then .slice (some ⟨g i, o i, none⟩) (l i).length (c i) else .slice none 0 0

structure My (w : World) (M J : Nat) (l : Nat → List ByteArray) (H : Nat → Prop) (g o c : Nat → Nat) : Prop where
  row : w.heap[M]? = some (.cells (r4 (mf J l g o c)).toArray 51 (0, 0))
  each : ∀ i, i < J → ∃ cur : List Value, w.heap[g i]? = some (.cells cur.toArray 9 (0, 0)) ∧ cur.length = o i + c i ∧ (l i).length ≤ c i ∧ ∀ t, t < (l i).length → cur[o i + t]? = some (.string ((l i).getD t ⟨#[]⟩))
  inj : ∀ i j, i < J → j < J → g i = g j → i = j
  ownM : H M
  own : ∀ i, i < J → H (g i)
  lt : ∀ b, H b → b < w.heap.size
  hJ : J ≤ 4

theorem My.kept {w w' : World} {M J : Nat} {l : Nat → List ByteArray} {H : Nat → Prop} {g o c : Nat → Nat} (h : My w M J l H g o c) (hs : w.heap.size ≤ w'.heap.size) (hk : ∀ b, H b → w'.heap[b]? = w.heap[b]?) : My w' M J l H g o c where
  row := (hk _ h.ownM).trans h.row
  each := fun i hi => by
    obtain ⟨cur, h1, h2⟩ := h.each i hi
    exact ⟨cur, (hk _ (h.own i hi)).trans h1, h2⟩
  inj := h.inj
  ownM := h.ownM
  own := h.own
  lt := fun b hb => Nat.lt_of_lt_of_le (h.lt b hb) hs
  hJ := h.hJ

/-- One slice turned: its row in w' is told, the others are as they were. -/
theorem My.turn {w w3 : World} {M J J' : Nat} {l : Nat → List ByteArray} {H : Nat → Prop} {g o c : Nat → Nat} (h : My w M J l H g o c) {i : Nat} (hi : i < J') (hJ : J' ≤ 4) (hJJ : ∀ j, j < J' → j ≠ i → j < J) (hJ2 : ∀ j, j < J → j < J') {x : List ByteArray} {g1 o1 c1 : Nat}
    (hs : w.heap.size ≤ w3.heap.size) (hM : w3.heap[M]? = w.heap[M]?) (hk : ∀ j, j < J → j ≠ i → w3.heap[g j]? = w.heap[g j]?) (hg : (i < J ∧ g1 = g i) ∨ w.heap.size ≤ g1)
    (hcur : ∃ cur : List Value, w3.heap[g1]? = some (.cells cur.toArray 9 (0, 0)) ∧ cur.length = o1 + c1 ∧ x.length ≤ c1 ∧ ∀ t, t < x.length → cur[o1 + t]? = some (.string (x.getD t ⟨#[]⟩))) :
    My (w3.setCell ⟨M, i, none⟩ (.slice (some ⟨g1, o1, none⟩) x.length c1)) M J' (upd l i x) (Gr H w w3) (upd g i g1) (upd o i o1) (upd c i c1) := by
  obtain ⟨cur, q1, q2, q3, q4⟩ := hcur
  have hrow := hM.trans h.row
  have hO : ∀ b, b ≠ M → (w3.setCell ⟨M, i, none⟩ (.slice (some ⟨g1, o1, none⟩) x.length c1)).heap[b]? = w3.heap[b]? := fun b hb => Below.heap_setCell _ _ _ _ hb
  have hgM : g1 ≠ M := fun e => by rw [e, hrow] at q1; simp at q1
  have hmf : upd (mf J l g o c) i (.slice (some ⟨g1, o1, none⟩) x.length c1) = fun j => if j < 4 then upd (mf J l g o c) i (.slice (some ⟨g1, o1, none⟩) x.length c1) j else upd (mf J l g o c) i (.slice (some ⟨g1, o1, none⟩) x.length c1) j := by
    funext j; split <;> rfl
  refine ⟨?_, ?_, ?_, .inl h.ownM, ?_, ?_, hJ⟩
  · rw [blk_set hrow, r4_set _ _ _ (by omega)]
    congr 3
    apply List.map_congr_left
    intro j hj
    have hj4 : j < 4 := by simpa using hj
    unfold mf
    by_cases e : j = i
    · subst e
      rw [upd_at, if_pos hi, upd_at, upd_at, upd_at, upd_at]
    · rw [upd_off _ _ e, upd_off _ _ e, upd_off _ _ e, upd_off _ _ e, upd_off _ _ e]
      by_cases hjJ : j < J
      · rw [if_pos hjJ, if_pos (hJ2 j hjJ)]
      · rw [if_neg hjJ, if_neg (fun h' => hjJ (hJJ j h' e))]
  · intro j hj
    by_cases e : j = i
    · subst e
      rw [upd_at, upd_at, upd_at, upd_at]
      exact ⟨cur, (hO g1 hgM).trans q1, q2, q3, q4⟩
    · rw [upd_off _ _ e, upd_off _ _ e, upd_off _ _ e, upd_off _ _ e]
      have hjJ := hJJ j hj e
      obtain ⟨cur', p1, p2⟩ := h.each j hjJ
      have p3 := (hk j hjJ e).trans p1
      exact ⟨cur', (hO _ (fun e2 => by rw [e2, hrow] at p3; simp at p3)).trans p3, p2⟩
  · intro a b ha hb e
    have key : ∀ j, j < J → j ≠ i → g j ≠ g1 := by
      intro j hj hne e
      obtain ⟨cur', p1, _⟩ := h.each j hj
      rcases hg with ⟨q0, rfl⟩ | hg
      · exact hne (h.inj j i hj q0 e)
      · have := blk_lt p1; omega
    by_cases c1' : a = i
    · by_cases c2 : b = i
      · rw [c1', c2]
      · subst c1'
        rw [upd_at, upd_off _ _ c2] at e
        exact absurd e.symm (key b (hJJ b hb c2) c2)
    · by_cases c2 : b = i
      · subst c2
        rw [upd_at, upd_off _ _ c1'] at e
        exact absurd e (key a (hJJ a ha c1') c1')
      · rw [upd_off _ _ c1', upd_off _ _ c2] at e
        exact h.inj a b (hJJ a ha c1') (hJJ b hb c2) e
  · intro j hj
    by_cases e : j = i
    · subst e
      rw [upd_at]
      rcases hg with ⟨q0, rfl⟩ | hg
      · exact .inl (h.own _ q0)
      · exact .inr ⟨hg, blk_lt q1⟩
    · rw [upd_off _ _ e]
      exact .inl (h.own j (hJJ j hj e))
  · intro b hb
    have eS : (w3.setCell ⟨M, i, none⟩ (.slice (some ⟨g1, o1, none⟩) x.length c1)).heap.size = w3.heap.size := by simp [World.setCell]
    rw [eS]
    rcases hb with hb | hb
    · have := h.lt b hb; omega
    · exact hb.2

end Go.Proofs.Ytffhnkljmalbiaa.Wd
