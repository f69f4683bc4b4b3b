/-
  The walks of the document's None and New: a disk of regions of noughts, one for each of the first eight sizes.
-/
import Derived.Test.YtffhnkljmalbiaaRkA
import Derived.Deep.AppendLies
namespace Go.Proofs.Ytffhnkljmalbiaa.Wr
open Go.ChangeShapes Go.WideShapes Go.ChangeAt Go.RowKit Go.Proofs.Ytffhnkljmalbiaa.M Go.Proofs.Ytffhnkljmalbiaa.Wd

theorem dc_lc : (lc (fun _ => noB) 1) = dc noB := by
  apply List.ext_getElem?
  intro j
  by_cases hj : j < 64
  · rw [lc_get _ _ _ (by omega), dc_get _ _ hj, noB_bt, noB_bt]
  · rw [List.getElem?_eq_none (by rw [lc_length]; omega), List.getElem?_eq_none (by rw [dc_length]; omega)]

set_option maxRecDepth 100000 in
theorem none_ (w : World) : Calls Try.prog 28 #[] w fun e w' => e = .returned (.string noB) ∧ Below w.heap.size w w' := by
  have hm := make64
  rw [dc_lc] at hm
  have hcv := conv_dc (W := w.alloc (.cells (dc noB).toArray 5)) (heap_alloc_last w _) noB_size
  generalize (dc noB).toArray = M at hm hcv
  generalize noB = nb at hcv ⊢
  go_enter Try.func28, Try.ntmps28
  go_wp2
  go_ret
  exact ⟨rfl, (Below.refl _ _).alloc (Nat.le_refl _) _⟩

/-- A disk with one region more. -/
theorem RkL.newreg {w w3 : World} {D : Nat} {d : Dk} {F : Nat → Prop} {L : Lr} (h : RkL w D d F L) (hk8 : d.k < 8) {z : Int} (hr : d.r d.k = newR z) {g cap b lb lm : Nat} (hsz : w.heap.size ≤ w3.heap.size)
    (hblk : ∀ k, k < w.heap.size → (0 < d.k → k ≠ L.R) → w3.heap[k]? = w.heap[k]?) (hg : (0 < d.k ∧ g = L.R) ∨ w.heap.size ≤ g) (hgl : g < w3.heap.size) (hb : w.heap.size ≤ b)
    (hbb : w3.heap[b]? = some (.cells #[.slice (pt (szN z) lb) (szN z) (cp (szN z) lm), .slice none 0 0] 72 (0, 0)))
    (hl : 0 < szN z → w.heap.size ≤ lb ∧ ∃ l : List Value, w3.heap[lb]? = some (.cells l.toArray 9 (0, 0)) ∧ l.length = lm ∧ szN z ≤ lm ∧ lm ≤ maxLen ∧ l.take (szN z) = sl (fun _ => noB) (szN z))
    {l : List Value} (l1 : w3.heap[g]? = some (.cells l.toArray 69 (0, 0))) (l2 : l.length = cap) (l3 : d.k + 1 ≤ cap) (l3' : cap ≤ maxLen) (l4 : ∀ i, i < d.k → l[i]? = some (.pointer (some ⟨L.rb i, 0, none⟩))) (l5 : l[d.k]? = some (.pointer (some ⟨b, 0, none⟩))) :
    RkL (w3.setCell ⟨D, 0, none⟩ (.slice (some ⟨g, 0, none⟩) (d.k + 1) cap)) D { d with k := d.k + 1 } (Gr F w w3) { L with R := g, rc := cap, rb := upd L.rb d.k b, lb := upd L.lb d.k lb, lm := upd L.lm d.k lm } := by
  have hK : ∀ (k : Nat) (cs : Array Value) (T : TypeId) (fr : Nat × Nat), w.heap[k]? = some (.cells cs T fr) → T ≠ 69 → w3.heap[k]? = w.heap[k]? := fun k cs T fr h1 h2 => hblk k (blk_lt h1) (fun hp e => by
    obtain ⟨l', k1, _⟩ := h.rows hp
    rw [e, k1] at h1
    simp at h1
    exact h2 h1.2.1.symm)
  have hD3 := (hK D _ _ _ h.dk (by decide)).trans h.dk
  have hO : ∀ k, k ≠ D → (w3.setCell ⟨D, 0, none⟩ (.slice (some ⟨g, 0, none⟩) (d.k + 1) cap)).heap[k]? = w3.heap[k]? := fun k hk => setD_other hk
  have hK2 : ∀ (k : Nat) (cs : Array Value) (T : TypeId) (fr : Nat × Nat), w.heap[k]? = some (.cells cs T fr) → T ≠ 69 → T ≠ 68 → (w3.setCell ⟨D, 0, none⟩ (.slice (some ⟨g, 0, none⟩) (d.k + 1) cap)).heap[k]? = w.heap[k]? := fun k cs T fr h1 h2 h3 =>
    (hO k (fun e => by rw [e, h.dk] at h1; simp at h1; exact h3 h1.2.1.symm)).trans (hK k cs T fr h1 h2)
  have hgD : g ≠ D := fun e => by rw [e, hD3] at l1; simp at l1
  have hbD : b ≠ D := fun e => by rw [e, hD3] at hbb; simp at hbb
  have hold : ∀ {α : Type} (f : Nat → α) (x : α) i, i < d.k → upd f d.k x i = f i := fun f x i hi => upd_off _ _ (by omega)
  have hqn : (d.r d.k).q = [] := by rw [hr]; rfl
  have hnn : (d.r d.k).n = szN z := by rw [hr]; rfl
  have cas : ∀ i, i < d.k + 1 → i < d.k ∨ i = d.k := fun i hi => by omega
  refine ⟨?_, h.ta, ?_, ?_, ?_, ?_, ?_, ?_, ?_, ?_, .inl h.ownD, ?_, ?_, ?_, ?_, ?_, ?_⟩
  · have := blk_set (l := [_, _, _, _, _]) hD3 0 (.slice (some ⟨g, 0, none⟩) (d.k + 1) cap)
    rw [this]
    show _ = some (Obj.cells #[.slice (pt (d.k + 1) g) (d.k + 1) (cp (d.k + 1) cap), _, _, _, _] _ _)
    rw [pt_pos (n := d.k + 1) g (by omega), cp_pos (n := d.k + 1) cap (by omega)]
    rfl
  · intro _
    refine ⟨l, (hO g hgD).trans l1, l2, l3, l3', fun i hi => ?_⟩
    show _ = some (Value.pointer (some ⟨upd L.rb d.k b i, 0, none⟩))
    rcases cas i hi with c | c
    · rw [hold _ _ i c]; exact l4 i c
    · subst c; rw [upd_at]; exact l5
  · intro i hi
    show (World.setCell _ _ _).heap[upd L.rb d.k b i]? = some (Obj.cells #[.slice (pt (d.r i).n (upd L.lb d.k lb i)) (d.r i).n (cp (d.r i).n (upd L.lm d.k lm i)), .slice (pt (d.r i).q.length (L.qb i)) (d.r i).q.length (cp (d.r i).q.length (L.qm i))] _ _)
    rcases cas i hi with c | c
    · rw [hold _ _ i c, hold _ _ i c, hold _ _ i c]
      exact (hK2 _ _ _ _ (h.reg i c) (by decide) (by decide)).trans (h.reg i c)
    · subst c
      rw [upd_at, upd_at, upd_at, hnn, hqn]
      exact (hO b hbD).trans hbb
  · intro i hi hn
    have hn' : 0 < (d.r i).n := hn
    show ∃ l : List Value, (World.setCell _ _ _).heap[upd L.lb d.k lb i]? = _ ∧ l.length = upd L.lm d.k lm i ∧ (d.r i).n ≤ upd L.lm d.k lm i ∧ upd L.lm d.k lm i ≤ maxLen ∧ l.take (d.r i).n = sl (d.r i).s (d.r i).n
    rcases cas i hi with c | c
    · rw [hold _ _ i c, hold _ _ i c]
      obtain ⟨l', k1, k2⟩ := h.las i c hn'
      exact ⟨l', (hK2 _ _ _ _ k1 (by decide) (by decide)).trans k1, k2⟩
    · subst c
      rw [hnn] at hn'
      rw [upd_at, upd_at, hnn]
      obtain ⟨_, l', k1, k2, k3, k4, k5⟩ := hl hn'
      refine ⟨l', (hO lb (fun e => by rw [e, hD3] at k1; simp at k1)).trans k1, k2, k3, k4, ?_⟩
      rw [k5, hr]
      rfl
  · intro i hi hq
    rcases cas i hi with c | c
    · obtain ⟨l', k1, k2⟩ := h.que i c hq
      exact ⟨l', (hK2 _ _ _ _ k1 (by decide) (by decide)).trans k1, k2⟩
    · subst c
      exact absurd hq (by show ¬ 0 < (d.r d.k).q.length; rw [hqn]; simp)
  · intro i j hi hj e
    have e' : upd L.rb d.k b i = upd L.rb d.k b j := e
    rcases cas i hi with c1 | c1 <;> rcases cas j hj with c2 | c2
    · rw [hold _ _ i c1, hold _ _ j c2] at e'
      exact h.injr i j c1 c2 e'
    · subst c2
      rw [hold _ _ i c1, upd_at] at e'
      have := blk_lt (h.reg i c1)
      omega
    · subst c1
      rw [hold _ _ j c2, upd_at] at e'
      have := blk_lt (h.reg j c2)
      omega
    · omega
  · intro i j hi hj hni hnj e
    have e' : upd L.lb d.k lb i = upd L.lb d.k lb j := e
    have hni' : 0 < (d.r i).n := hni
    have hnj' : 0 < (d.r j).n := hnj
    rcases cas i hi with c1 | c1 <;> rcases cas j hj with c2 | c2
    · rw [hold _ _ i c1, hold _ _ j c2] at e'
      exact h.injl i j c1 c2 hni' hnj' e'
    · subst c2
      rw [hold _ _ i c1, upd_at] at e'
      obtain ⟨l', k1, _⟩ := h.las i c1 hni'
      have := blk_lt k1
      rw [hnn] at hnj'
      have := (hl hnj').1
      omega
    · subst c1
      rw [hold _ _ j c2, upd_at] at e'
      obtain ⟨l', k1, _⟩ := h.las j c2 hnj'
      have := blk_lt k1
      rw [hnn] at hni'
      have := (hl hni').1
      omega
    · omega
  · intro i j hi hj hqi hqj e
    rcases cas i hi with c1 | c1
    · rcases cas j hj with c2 | c2
      · exact h.injq i j c1 c2 hqi hqj e
      · subst c2; exact absurd hqj (by show ¬ 0 < (d.r d.k).q.length; rw [hqn]; simp)
    · subst c1; exact absurd hqi (by show ¬ 0 < (d.r d.k).q.length; rw [hqn]; simp)
  · exact h.kr.kept (fun k cs fr h1 _ => hK2 k cs _ fr h1 (by decide) (by decide)) fun _ hb => .inl hb
  · intro _
    show Gr F w w3 g
    rcases hg with ⟨q0, rfl⟩ | hg
    · exact .inl (h.ownR q0)
    · exact .inr ⟨hg, hgl⟩
  · intro i hi
    show Gr F w w3 (upd L.rb d.k b i)
    rcases cas i hi with c | c
    · rw [hold _ _ i c]; exact .inl (h.ownr i c)
    · subst c; rw [upd_at]; exact .inr ⟨hb, blk_lt hbb⟩
  · intro i hi hn
    have hn' : 0 < (d.r i).n := hn
    show Gr F w w3 (upd L.lb d.k lb i)
    rcases cas i hi with c | c
    · rw [hold _ _ i c]; exact .inl (h.ownl i c hn')
    · subst c
      rw [hnn] at hn'
      obtain ⟨k0, l', k1, _⟩ := hl hn'
      rw [upd_at]; exact .inr ⟨k0, blk_lt k1⟩
  · intro i hi hq
    rcases cas i hi with c | c
    · exact .inl (h.ownq i c hq)
    · subst c; exact absurd hq (by show ¬ 0 < (d.r d.k).q.length; rw [hqn]; simp)
  · intro k hk
    rw [setD_size]
    rcases hk with hk | hk
    · have := h.lt k hk; omega
    · exact hk.2
  · refine ⟨by show d.k + 1 ≤ 8; omega, fun i hi => ?_, fun a l K e => ?_⟩
    · rcases cas i hi with c | c
      · exact h.ok.r i c
      · subst c
        show (d.r d.k).ok
        rw [hr]; exact newR_ok _
    · have := h.ok.ask a l K e
      exact ⟨by show a < d.k + 1; omega, this.2⟩

/-- The document's disk at its start. -/
theorem startR (w : World) (z : Nat → Int) : RkL (w.alloc (.cells #[.slice none 0 0, .bool false, .int .i64 0, .int .i64 0, .slice none 0 0] 68)) w.heap.size (newD z 0) (Gr no w (w.alloc (.cells #[.slice none 0 0, .bool false, .int .i64 0, .int .i64 0, .slice none 0 0] 68))) { R := 0, rc := 0, rb := fun _ => 0, lb := fun _ => 0, lm := fun _ => 0, qb := fun _ => 0, qm := fun _ => 0, ta := 0, ka := none, kc := 0 } where
  dk := heap_alloc_last w _
  ta := fun a l K e => by cases e
  rows := fun hp => absurd hp (by show ¬ 0 < 0; omega)
  reg := fun i hi => absurd hi (by show ¬ i < 0; omega)
  las := fun i hi => absurd hi (by show ¬ i < 0; omega)
  que := fun i hi => absurd hi (by show ¬ i < 0; omega)
  injr := fun i j hi => absurd hi (by show ¬ i < 0; omega)
  injl := fun i j hi => absurd hi (by show ¬ i < 0; omega)
  injq := fun i j hi => absurd hi (by show ¬ i < 0; omega)
  kr := .inl rfl
  ownD := .inr ⟨Nat.le_refl _, by simp⟩
  ownR := fun hp => absurd hp (by show ¬ 0 < 0; omega)
  ownr := fun i hi => absurd hi (by show ¬ i < 0; omega)
  ownl := fun i hi => absurd hi (by show ¬ i < 0; omega)
  ownq := fun i hi => absurd hi (by show ¬ i < 0; omega)
  lt := fun b hb => by
    rcases hb with hb | hb
    · exact absurd hb id
    · exact hb.2
  ok := newD_ok _ _ (by omega)

end Go.Proofs.Ytffhnkljmalbiaa.Wr
