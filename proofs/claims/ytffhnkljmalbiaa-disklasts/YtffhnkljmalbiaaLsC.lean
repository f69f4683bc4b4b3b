/-
  What the law DiskLasts does to its own slices, in memory: a text appended (where there is room, and where there is none), a slice cut to its last text. Nothing is asked but what each fact names.
-/
import Derived.Test.YtffhnkljmalbiaaLsA
import Derived.ArgAppend
namespace Go.Proofs.Ytffhnkljmalbiaa.Wd
open Go.ChangeShapes Go.WideShapes Go.ChangeAt Go.RowKit Go.Proofs.Ytffhnkljmalbiaa.M Go.Proofs.Ytffhnkljmalbiaa.Wv

theorem getD_app {l : List ByteArray} {X : ByteArray} {t : Nat} (h : t < (l ++ [X]).length) : (l ++ [X]).getD t ⟨#[]⟩ = if t < l.length then l.getD t ⟨#[]⟩ else X := by
  have h2 : t ≤ l.length := by simp at h; omega
  rw [List.getD_eq_getElem?_getD]
  by_cases c : t < l.length
  · rw [if_pos c, List.getElem?_append_left c, List.getD_eq_getElem?_getD]
  · have e : t = l.length := by omega
    subst e
    rw [if_neg c, List.getElem?_append_right (Nat.le_refl _)]
    simp

/-- The row of one slice, its type and its marks. -/
theorem My.ne {w : World} {M J : Nat} {l : Nat → List ByteArray} {H : Nat → Prop} {g o c : Nat → Nat} (h : My w M J l H g o c) {i : Nat} (hi : i < J) : g i ≠ M := fun e => by
  obtain ⟨cur, h1, _⟩ := h.each i hi
  rw [e, h.row] at h1
  simp at h1
theorem My.spare {w : World} {M J : Nat} {l : Nat → List ByteArray} {H : Nat → Prop} {g o c : Nat → Nat} (h : My w M J l H g o c) {i : Nat} (hi : i < J) {t : Nat} (ht : t < c i) : (w.cell? ⟨g i, o i + t, none⟩).isSome = true ∧ w.frozen? ⟨g i, o i + t, none⟩ = false := by
  obtain ⟨cur, h1, h2, _⟩ := h.each i hi
  have hlt : o i + t < cur.length := by omega
  rw [blk_cell h1 (List.getElem?_eq_getElem hlt)]
  exact ⟨rfl, by simp [World.frozen?, h1]⟩

theorem Lz.room {W w : World} {D E M : Nat} {d e : Dk} {l : Nat → List ByteArray} {F G H : Nat → Prop} (h : Lz W w D E M 4 d e l F G H) {g o c : Nat → Nat} (m : My w M 4 l H g o c) {p : Nat} (hp : p < 4) (X : ByteArray) (hr : (l p).length + 1 ≤ c p) :
    (∃ H', Lz W ((w.setCell ⟨g p, o p + (l p).length, none⟩ (.string X)).setCell ⟨M, p, none⟩ (.slice (some ⟨g p, o p, none⟩) ((l p).length + 1) (c p))) D E M 4 d e (upd l p (l p ++ [X])) F G H') ∧
      (w.setCell ⟨g p, o p + (l p).length, none⟩ (.string X)).cell? ⟨M, p, none⟩ = w.cell? ⟨M, p, none⟩ ∧ (w.setCell ⟨g p, o p + (l p).length, none⟩ (.string X)).frozen? ⟨M, p, none⟩ = false := by
  have hne := m.ne hp
  have hO : ∀ b, b ≠ g p → (w.setCell ⟨g p, o p + (l p).length, none⟩ (.string X)).heap[b]? = w.heap[b]? := fun b hb => Below.heap_setCell _ _ _ _ hb
  have hM := hO M (fun e => hne e.symm)
  obtain ⟨cur, h1, h2, h3, h4⟩ := m.each p hp
  have hs : (l p ++ [X]).length = (l p).length + 1 := by simp
  refine ⟨?_, ?_, ?_⟩
  · have K := h.turn (J' := 4) (w3 := w.setCell ⟨g p, o p + (l p).length, none⟩ (.string X)) m (i := p) (x := l p ++ [X]) (g1 := g p) (o1 := o p) (c1 := c p) hp (by omega) (fun j h1 h2 => h1) (fun j h => h)
      ((Kept.refl H w).setCell (p := ⟨g p, o p + (l p).length, none⟩) (m.own p hp) _) hM (fun j hj hjp => hO _ (fun e => hjp (m.inj j p hj hp e))) (.inl ⟨hp, rfl⟩)
      ⟨cur.set (o p + (l p).length) (.string X), blk_set h1 _ _, by rw [List.length_set]; exact h2, by rw [hs]; exact hr, fun t ht => by
        rw [getD_app ht]
        by_cases ct : t < (l p).length
        · rw [if_pos ct, List.getElem?_set_ne (by omega)]
          exact h4 t ct
        · have e : t = (l p).length := by rw [hs] at ht; omega
          subst e
          rw [if_neg ct, List.getElem?_set_self (by omega)]⟩
    rw [hs] at K
    exact K
  · simp [World.cell?, hM]
  · have := m.free p
    simp only [World.frozen?, hM] at this ⊢
    exact this

theorem Lz.grown {W w w' : World} {D E M : Nat} {d e : Dk} {l : Nat → List ByteArray} {F G H : Nat → Prop} (h : Lz W w D E M 4 d e l F G H) {g o c : Nat → Nat} (m : My w M 4 l H g o c) {p : Nat} (hp : p < 4) (X : ByteArray) {v' : Value}
    (hown : w'.ownsRow w.heap.size 9 1 v' ((l p).length + 1) ((l p).map .string ++ [.string X])) (hgrow : w.grownBy w' none) :
    ∃ g' cap', v' = .slice (some ⟨g', 0, none⟩) ((l p).length + 1) cap' ∧ (∃ H', Lz W (w'.setCell ⟨M, p, none⟩ (.slice (some ⟨g', 0, none⟩) ((l p).length + 1) cap')) D E M 4 d e (upd l p (l p ++ [X])) F G H') ∧
      w'.cell? ⟨M, p, none⟩ = w.cell? ⟨M, p, none⟩ ∧ w'.frozen? ⟨M, p, none⟩ = false := by
  have hb : ∀ k, k < w.heap.size → w'.heap[k]? = w.heap[k]? := fun k hk => hgrow.block k hk (by simp)
  have hM := hb M (blk_lt m.row)
  have hs : (l p ++ [X]).length = (l p).length + 1 := by simp
  rcases hown.2 with ⟨_, hz⟩ | ⟨g', cap', cur, rfl, hbase, hg', hcap, _, hsz, htk⟩
  · omega
  refine ⟨g', cap', rfl, ?_, ?_, ?_⟩
  · have K := h.turn (J' := 4) (w3 := w') m (i := p) (x := l p ++ [X]) (g1 := g') (o1 := 0) (c1 := cap') hp (by omega) (fun j h1 h2 => h1) (fun j h => h)
      ⟨hgrow.os, hgrow.tape, hgrow.output, hgrow.size, fun k hk _ => hb k hk⟩ hM (fun j hj _ => hb _ (m.lt _ (m.own j hj))) (.inr hbase)
      ⟨cur.toList, by rw [Array.toArray_toList]; exact hg', by rw [Array.length_toList]; omega, by rw [hs]; exact hcap, fun t ht => by
        have e : (cur.toList.take (((l p).length + 1) * 1))[t]? = cur.toList[t]? := by
          rw [List.getElem?_take, if_pos (by rw [hs] at ht; omega)]
        rw [Nat.zero_add, ← e, htk, getD_app ht]
        by_cases ct : t < (l p).length
        · rw [if_pos ct, List.getElem?_append_left (by rw [List.length_map]; exact ct), List.getElem?_map, List.getD_eq_getElem?_getD, List.getElem?_eq_getElem ct]
          rfl
        · have e : t = (l p).length := by rw [hs] at ht; omega
          subst e
          rw [if_neg ct, List.getElem?_append_right (by rw [List.length_map]; exact Nat.le_refl _)]
          simp⟩
    rw [hs] at K
    exact K
  · simp [World.cell?, hM]
  · have := m.free p
    simp only [World.frozen?, hM] at this ⊢
    exact this

theorem Lz.cutLast {W w : World} {D E M : Nat} {d e : Dk} {l : Nat → List ByteArray} {F G H : Nat → Prop} (h : Lz W w D E M 4 d e l F G H) {g o c : Nat → Nat} (m : My w M 4 l H g o c) {p : Nat} (hp : p < 4) {Z : ByteArray} (hz : (l p).getLast? = some Z) :
    ∃ H', Lz W (w.setCell ⟨M, p, none⟩ (.slice (some ⟨g p, o p + ((l p).length - 1), none⟩) 1 (c p - ((l p).length - 1)))) D E M 4 d e (upd l p [Z]) F G H' := by
  obtain ⟨cur, h1, h2, h3, h4⟩ := m.each p hp
  have hpos : 0 < (l p).length := by
    rcases Nat.eq_zero_or_pos (l p).length with e | e
    · rw [List.length_eq_zero_iff.1 e] at hz; cases hz
    · exact e
  have hlast : (l p).getD ((l p).length - 1) ⟨#[]⟩ = Z := by
    rw [List.getLast?_eq_getElem?] at hz
    rw [List.getD_eq_getElem?_getD, hz]
    rfl
  exact h.turn (J' := 4) (w3 := w) m (i := p) (x := [Z]) (g1 := g p) (o1 := o p + ((l p).length - 1)) (c1 := c p - ((l p).length - 1)) hp (by omega) (fun j h1 h2 => h1) (fun j h => h)
    (Kept.refl H w) rfl (fun j hj _ => rfl) (.inl ⟨hp, rfl⟩)
    ⟨cur, h1, by omega, by show 1 ≤ _; omega, fun t ht => by
      obtain rfl : t = 0 := by simpa using ht
      rw [Nat.add_zero, h4 _ (by omega), hlast]
      rfl⟩

end Go.Proofs.Ytffhnkljmalbiaa.Wd
