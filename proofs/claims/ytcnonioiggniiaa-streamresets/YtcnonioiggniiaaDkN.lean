/-
  The walks of newRegion and New: a disk of regions of noughts, one for each of the first eight sizes.
-/
import Derived.Test.YtcnonioiggniiaaDkI
import Derived.Deep.OwnRows
namespace Go.Proofs.Ytcnonioiggniiaa.Wd
open Go.ChangeShapes Go.WideShapes Go.ChangeAt Go.RowKit Go.Proofs.Ytcnonioiggniiaa.M

theorem made_lc (n : Nat) : madeCells #[.int .u8 0] (64 * n) = (lc (fun _ => noB) n).toArray := by
  apply Array.ext
  · rw [size_madeCells, List.size_toArray, lc_length]
  · intro j h1 h2
    have hj : j < 64 * n := by rw [List.size_toArray, lc_length] at h2; exact h2
    have e : (lc (fun _ => noB) n)[j]? = some (.int .u8 0) := by rw [lc_get _ _ _ hj, noB_bt]
    have e2 : (lc (fun _ => noB) n).toArray[j] = .int .u8 0 := by
      rw [List.getElem_toArray]
      have := List.getElem?_eq_some_iff.1 e
      exact this.2
    rw [e2]
    simp [madeCells, Nat.mod_one]

theorem make_lc (n : Nat) (hn : n ≤ 4096) (u : World) : (Instr.makeSlice 67 (.int .i64 ((n : Int) * 64)) (.int .i64 ((n : Int) * 64))).run Try.prog u = .ok (lv n u.heap.size) (u.alloc (.cells (lc (fun _ => noB) n).toArray 5)) := by
  obtain ⟨i0, hi, hz0, hz1, hz2⟩ := info_parts info8z
  have h := run_make (P := Try.prog) u 67 5 i0 (.int .u8 0) Try.underlying67 hi hz0 .i64 .i64 ((n : Int) * 64) ((n : Int) * 64) (by omega) (Int.le_refl _) (by rw [hz2]; omega) (by omega)
  have e1 : ((n : Int) * 64).toNat = 64 * n := by omega
  rw [e1] at h
  rw [← made_lc]
  simpa [hz1, Value.cells, lv] using h

theorem info2 : (Try.prog.info? 70).map (·.size) = some 2 := by kernel_rfl

set_option maxRecDepth 100000 in
theorem newRegion (z : Int) (w : World) :
    Calls Try.prog 29 #[.int .i64 z] w fun e w' => e = .returned (.agg #[lv (szN z) (w.heap.size + 1), .slice none 0 0]) ∧ w'.heap[w.heap.size + 1]? = some (.cells (lc (fun _ => noB) (szN z)).toArray 5 (0, 0)) ∧ Below w.heap.size w w' := by
  have hn : szN z ≤ 4096 := by unfold szN; omega
  have hm := make_lc (szN z) hn
  unfold lv at hm ⊢
  rcases (show z < 0 ∨ (0 ≤ z ∧ z ≤ 4096) ∨ 4096 < z by omega) with c | c | c
  · have e : szN z = 0 := by unfold szN; omega
    rw [e] at hm ⊢
    simp only [Int.natCast_zero, Int.zero_mul, Nat.mul_zero] at hm ⊢
    go_enter Try.func29, Try.ntmps29
    go_wp2
    exact bodyPost_ret (v := .agg #[.slice (some ⟨w.heap.size + 1, 0, none⟩) 0 0, .slice none 0 0]) (results_cell_row Try.results29 _ _ w.heap.size 70 #[.slice (some ⟨w.heap.size + 1, 0, none⟩) 0 0, .slice none 0 0] (0, 0) _ rfl (heap_alloc2_old w _ _) Try.underlying70 rfl info2) rfl ⟨rfl, heap_alloc2_new w _ _, ((Below.refl _ _).alloc (Nat.le_refl _) _).alloc (by simp) _⟩
  · obtain ⟨n, rfl⟩ := Int.eq_ofNat_of_zero_le c.1
    have e : szN (n : Int) = n := by unfold szN; omega
    rw [e] at hm hn ⊢
    clear e
    go_enter Try.func29, Try.ntmps29
    go_wp2
    exact bodyPost_ret (v := .agg #[.slice (some ⟨w.heap.size + 1, 0, none⟩) (64 * n) (64 * n), .slice none 0 0]) (results_cell_row Try.results29 _ _ w.heap.size 70 #[.slice (some ⟨w.heap.size + 1, 0, none⟩) (64 * n) (64 * n), .slice none 0 0] (0, 0) _ rfl (heap_alloc2_old w _ _) Try.underlying70 rfl info2) rfl ⟨rfl, heap_alloc2_new w _ _, ((Below.refl _ _).alloc (Nat.le_refl _) _).alloc (by simp) _⟩
  · have e : szN z = 4096 := by unfold szN; omega
    rw [e] at hm ⊢
    have e2 : (((4096 : Nat) : Int) * 64) = 262144 := by decide
    rw [e2] at hm
    generalize hl : (lc (fun _ => noB) 4096).toArray = LL at hm ⊢
    have HL := hid hl
    clear hl
    go_enter Try.func29, Try.ntmps29
    go_wp2
    exact bodyPost_ret (v := .agg #[.slice (some ⟨w.heap.size + 1, 0, none⟩) 262144 262144, .slice none 0 0]) (results_cell_row Try.results29 _ _ w.heap.size 70 #[.slice (some ⟨w.heap.size + 1, 0, none⟩) 262144 262144, .slice none 0 0] (0, 0) _ rfl (heap_alloc2_old w _ _) Try.underlying70 rfl info2) rfl ⟨rfl, heap_alloc2_new w _ _, ((Below.refl _ _).alloc (Nat.le_refl _) _).alloc (by simp) _⟩

/-- The rows of the regions, as the laws on append ask them. -/
theorem DkL.ownR2 {w : World} {D : Nat} {d : Dk} {F : Nat → Prop} {L : Ly} (h : DkL w D d F L) (hm : L.rc ≤ maxLen) : ∃ xs : List Value, w.ownsRow 0 70 2 (.slice (pt d.k L.R) d.k (cp d.k L.rc)) d.k xs ∧ ∀ i, i < d.k → xs[i * 2]? = some (lv (d.r i).n (L.lb i)) ∧ xs[i * 2 + 1]? = some (qv (d.r i).q (L.qb i) (L.qm i)) := by
  by_cases c : 0 < d.k
  · obtain ⟨l, h1, h2, h3, h4⟩ := h.rows c
    refine ⟨l.take (d.k * 2), ⟨by rw [List.length_take]; omega, .inr ⟨L.R, L.rc, l.toArray, by rw [pt_pos _ c, cp_pos _ c], Nat.zero_le _, h1, h3, hm, by rw [List.size_toArray]; exact h2, rfl⟩⟩, fun i hi => ?_⟩
    rw [List.getElem?_take, List.getElem?_take, if_pos (by omega), if_pos (by omega)]
    exact h4 i hi
  · have e : d.k = 0 := by omega
    rw [e]
    exact ⟨[], ⟨rfl, .inl ⟨rfl, rfl⟩⟩, fun i hi => absurd hi (by omega)⟩

/-- A disk with one region more. -/
theorem DkL.newreg {w w3 : World} {D : Nat} {d : Dk} {F : Nat → Prop} {L : Ly} (h : DkL w D d F L) (hk8 : d.k < 8) {z : Int} (hr : d.r d.k = newR z) {g cap b : Nat} (hsz : w.heap.size ≤ w3.heap.size)
    (hblk : ∀ k, k < w.heap.size → (0 < d.k → k ≠ L.R) → w3.heap[k]? = w.heap[k]?) (hg : (0 < d.k ∧ g = L.R) ∨ w.heap.size ≤ g) (hgl : g < w3.heap.size) (hb : w.heap.size ≤ b) (hbb : w3.heap[b]? = some (.cells (lc (fun _ => noB) (szN z)).toArray 5 (0, 0)))
    {l : List Value} (l1 : w3.heap[g]? = some (.cells l.toArray 70 (0, 0))) (l2 : l.length = cap * 2) (l3 : d.k + 1 ≤ cap) (l4 : ∀ i, i < d.k → l[i * 2]? = some (lv (d.r i).n (L.lb i)) ∧ l[i * 2 + 1]? = some (qv (d.r i).q (L.qb i) (L.qm i))) (l5 : l[d.k * 2]? = some (lv (szN z) b)) (l6 : l[d.k * 2 + 1]? = some (.slice none 0 0)) :
    DkL (w3.setCell ⟨D, 0, none⟩ (.slice (some ⟨g, 0, none⟩) (d.k + 1) cap)) D { d with k := d.k + 1 } (Gr F w w3) { L with R := g, rc := cap, lb := upd L.lb d.k b } := by
  have hK : ∀ (k : Nat) (cs : Array Value) (T : TypeId) (fr : Nat × Nat), w.heap[k]? = some (.cells cs T fr) → T ≠ 70 → w3.heap[k]? = w.heap[k]? := fun k cs T fr h1 h2 => hblk k (blk_lt h1) (fun hp e => by
    obtain ⟨l', k1, _⟩ := h.rows hp
    rw [e, k1] at h1
    simp at h1
    exact h2 h1.2.1.symm)
  have hD3 := (hK D _ _ _ h.dk (by decide)).trans h.dk
  have hO : ∀ k, k ≠ D → (w3.setCell ⟨D, 0, none⟩ (.slice (some ⟨g, 0, none⟩) (d.k + 1) cap)).heap[k]? = w3.heap[k]? := fun k hk => setD_other hk
  have hK2 : ∀ (k : Nat) (cs : Array Value) (T : TypeId) (fr : Nat × Nat), w.heap[k]? = some (.cells cs T fr) → T ≠ 70 → T ≠ 66 → (w3.setCell ⟨D, 0, none⟩ (.slice (some ⟨g, 0, none⟩) (d.k + 1) cap)).heap[k]? = w.heap[k]? := fun k cs T fr h1 h2 h3 =>
    (hO k (fun e => by rw [e, h.dk] at h1; simp at h1; exact h3 h1.2.1.symm)).trans (hK k cs T fr h1 h2)
  have hgD : g ≠ D := fun e => by rw [e, hD3] at l1; simp at l1
  have hbD : b ≠ D := fun e => by rw [e, hD3] at hbb; simp at hbb
  have hold : ∀ i, i < d.k → upd L.lb d.k b i = L.lb i := fun i hi => upd_off _ _ (by omega)
  have hqn : (d.r d.k).q = [] := by rw [hr]; rfl
  have cas : ∀ i, i < d.k + 1 → i < d.k ∨ i = d.k := fun i hi => by omega
  refine ⟨?_, ?_, ?_, ?_, ?_, ?_, ?_, .inl h.ownD, ?_, ?_, ?_, ?_, ?_⟩
  · have := setD_cell (j := 0) (v := .slice (some ⟨g, 0, none⟩) (d.k + 1) cap) hD3
    rw [this]
    show _ = some (Obj.cells #[.slice (pt (d.k + 1) g) (d.k + 1) (cp (d.k + 1) cap), _, _, _, _] _ _)
    rw [pt_pos (n := d.k + 1) g (by omega), cp_pos (n := d.k + 1) cap (by omega)]
    rfl
  · intro _
    refine ⟨l, (hO g hgD).trans l1, l2, l3, fun i hi => ?_⟩
    rcases cas i hi with c | c
    · show _ = some (lv _ (upd L.lb d.k b i)) ∧ _
      rw [hold i c]
      exact l4 i c
    · subst c
      show _ = some (lv _ (upd L.lb d.k b d.k)) ∧ _ = some (qv (d.r d.k).q _ _)
      rw [upd_at, hqn, l5, l6]
      refine ⟨?_, rfl⟩
      rw [show ({ d with k := d.k + 1 } : Dk).r d.k = newR z from hr]
      rfl
  · intro i hi
    rcases cas i hi with c | c
    · show (World.setCell _ _ _).heap[upd L.lb d.k b i]? = _
      rw [hold i c]
      exact (hK2 _ _ _ _ (h.lb i c) (by decide) (by decide)).trans (h.lb i c)
    · subst c
      show (World.setCell _ _ _).heap[upd L.lb d.k b d.k]? = _
      rw [upd_at, show ({ d with k := d.k + 1 } : Dk).r d.k = newR z from hr]
      exact (hO b hbD).trans hbb
  · intro i hi hq
    rcases cas i hi with c | c
    · obtain ⟨l', k1, k2⟩ := h.qb i c hq
      exact ⟨l', (hK2 _ _ _ _ k1 (by decide) (by decide)).trans k1, k2⟩
    · subst c
      exact absurd hq (by show ¬ 0 < (d.r d.k).q.length; rw [hqn]; simp)
  · intro i j hi hj e
    have e' : upd L.lb d.k b i = upd L.lb d.k b j := e
    rcases cas i hi with c1 | c1 <;> rcases cas j hj with c2 | c2
    · rw [hold i c1, hold j c2] at e'
      exact h.injl i j c1 c2 e'
    · subst c2
      rw [hold i c1, upd_at] at e'
      have := blk_lt (h.lb i c1)
      omega
    · subst c1
      rw [hold j c2, upd_at] at e'
      have := blk_lt (h.lb j c2)
      omega
    · omega
  · intro i j hi hj hqi hqj e
    rcases cas i hi with c1 | c1
    · rcases cas j hj with c2 | c2
      · exact h.injq i j c1 c2 hqi hqj e
      · subst c2; exact absurd hqj (by show ¬ 0 < (d.r d.k).q.length; rw [hqn]; simp)
    · subst c1; exact absurd hqi (by show ¬ 0 < (d.r d.k).q.length; rw [hqn]; simp)
  · exact h.kr.kept (fun k cs fr h1 _ => hK2 k cs _ fr h1 (by decide) (by decide)) fun _ hb => .inl hb
  · intro _
    show Gr F w w3 g
    rcases hg with ⟨q0, rfl⟩ | hg
    · exact .inl (h.ownR q0)
    · exact .inr ⟨hg, hgl⟩
  · intro i hi
    show Gr F w w3 (upd L.lb d.k b i)
    rcases cas i hi with c | c
    · rw [hold i c]; exact .inl (h.ownl i c)
    · subst c; rw [upd_at]; exact .inr ⟨hb, blk_lt hbb⟩
  · intro i hi hq
    rcases cas i hi with c | c
    · exact .inl (h.ownq i c hq)
    · subst c; exact absurd hq (by show ¬ 0 < (d.r d.k).q.length; rw [hqn]; simp)
  · intro k hk
    rw [setD_size]
    rcases hk with hk | hk
    · have := h.lt k hk; omega
    · exact hk.2
  · refine ⟨by show d.k + 1 ≤ 8; omega, fun i hi => ?_, fun a l K e => ?_⟩
    · rcases cas i hi with c | c
      · exact h.ok.r i c
      · subst c
        show (d.r d.k).ok
        rw [hr]; exact newR_ok _
    · have := h.ok.ask a l K e
      exact ⟨by show a < d.k + 1; omega, this.2⟩

theorem info64z : (Try.prog.info? 70).map (fun i => (i.zero, i.size, i.bytes)) = some (some (.agg #[.slice none 0 0, .slice none 0 0]), 2, 48) := by kernel_rfl

def no : Nat → Prop := fun _ => False

/-- The disk at its start. -/
theorem startD (w : World) (z : Nat → Int) : DkL (w.alloc (.cells #[.slice none 0 0, .bool false, .int .i64 0, .int .i64 0, .slice none 0 0] 66)) w.heap.size (newD z 0) (Gr no w (w.alloc (.cells #[.slice none 0 0, .bool false, .int .i64 0, .int .i64 0, .slice none 0 0] 66))) { R := 0, rc := 0, lb := fun _ => 0, qb := fun _ => 0, qm := fun _ => 0, ka := none, kc := 0 } where
  dk := heap_alloc_last w _
  rows := fun hp => absurd hp (by show ¬ 0 < 0; omega)
  lb := fun i hi => absurd hi (by show ¬ i < 0; omega)
  qb := fun i hi => absurd hi (by show ¬ i < 0; omega)
  injl := fun i j hi => absurd hi (by show ¬ i < 0; omega)
  injq := fun i j hi => absurd hi (by show ¬ i < 0; omega)
  kr := .inl rfl
  ownD := .inr ⟨Nat.le_refl _, by simp⟩
  ownR := fun hp => absurd hp (by show ¬ 0 < 0; omega)
  ownl := fun i hi => absurd hi (by show ¬ i < 0; omega)
  ownq := fun i hi => absurd hi (by show ¬ i < 0; omega)
  lt := fun b hb => by
    rcases hb with hb | hb
    · exact absurd hb id
    · exact hb.2
  ok := newD_ok _ _ (by omega)

/-- Behind the append and the store of a new region. -/
theorem new_end {w wr w1 w3 : World} {D : Nat} {z : Nat → Int} {j : Nat} {L : Ly} (hd : DkL wr D (newD z j) (Gr no w wr) L) (hDw : D = w.heap.size) (hbel : Below w.heap.size w wr) (hj : j < 8) {xs : List Value} {b : Nat}
    (hxs : ∀ i, i < j → xs[i * 2]? = some (lv (newR (z i)).n (L.lb i)) ∧ xs[i * 2 + 1]? = some (qv (newR (z i)).q (L.qb i) (L.qm i))) (hxl : xs.length = j * 2)
    (b1 : Below wr.heap.size wr w1) (hb : wr.heap.size ≤ b) (hbb : w1.heap[b]? = some (.cells (lc (fun _ => noB) (szN (z j))).toArray 5 (0, 0))) {g cap : Nat} {o : Obj}
    (own3 : w3.ownsRow 0 70 2 (.slice (some ⟨g, 0, none⟩) (j + 1) cap) (j + 1) (xs ++ [lv (szN (z j)) b, .slice none 0 0])) (gr3 : (w1.alloc o).grownBy w3 (Value.slice (pt j L.R) j (cp j L.rc)).ownBlock) (hg3 : (Value.slice (pt j L.R) j (cp j L.rc)).ownBlock = some g ∨ g = w1.heap.size + 1) (hlt3 : g < w3.heap.size) :
    (w3.cell? ⟨D, 0, none⟩ = some (.slice (pt j L.R) j (cp j L.rc)) ∧ w3.frozen? ⟨D, 0, none⟩ = false) ∧
    ∃ L', DkL (w3.setCell ⟨D, 0, none⟩ (.slice (some ⟨g, 0, none⟩) (j + 1) cap)) D (newD z (j + 1)) (Gr no w (w3.setCell ⟨D, 0, none⟩ (.slice (some ⟨g, 0, none⟩) (j + 1) cap))) L' ∧ L'.rc ≤ maxLen ∧ Below w.heap.size w (w3.setCell ⟨D, 0, none⟩ (.slice (some ⟨g, 0, none⟩) (j + 1) cap)) := by
  have bW : Below wr.heap.size wr (w1.alloc o) := b1.alloc b1.size o
  have hob : ∀ k, (Value.slice (pt j L.R) j (cp j L.rc)).ownBlock = some k → 0 < j ∧ k = L.R := by
    intro k hk
    by_cases c : 0 < j
    · rw [pt_pos _ c] at hk
      exact ⟨c, by simpa [Value.ownBlock] using hk.symm⟩
    · have e : j = 0 := by omega
      rw [e, pt_zero] at hk
      cases hk
  have sz1 := b1.size
  have sz2 : (w1.alloc o).heap.size = w1.heap.size + 1 := by simp
  have hsz := gr3.size
  rw [sz2] at hsz
  have hblk : ∀ k, k < wr.heap.size → (0 < j → k ≠ L.R) → w3.heap[k]? = wr.heap[k]? := fun k hk hne =>
    (gr3.block k (by omega) (fun e => by
      obtain ⟨q0, e'⟩ := hob k e.symm
      exact hne q0 e')).trans (bW.block k hk)
  have hbl := blk_lt hbb
  have hbb3 : w3.heap[b]? = some (.cells (lc (fun _ => noB) (szN (z j))).toArray 5 (0, 0)) := by
    rw [gr3.block b (by omega) (fun e => by
      obtain ⟨q0, e'⟩ := hob b e.symm
      obtain ⟨l', k1, _⟩ := hd.rows q0
      have := blk_lt k1
      omega), Below.heap_alloc w1 o b hbl]
    exact hbb
  rcases own3.2 with ⟨_, e⟩ | ⟨g', cap', cur, e, _, k1, k2, k3, k4, k5⟩
  · omega
  · simp at e
    obtain ⟨rfl, rfl⟩ := e
    have hD3 : w3.heap[D]? = _ := (hblk D (blk_lt hd.dk) (fun hp e => by
      obtain ⟨l', q1, _⟩ := hd.rows hp
      have q2 := hd.dk
      rw [e, q1] at q2
      simp at q2)).trans hd.dk
    have hk5 : ∀ i, i < (j + 1) * 2 → cur.toList[i]? = (xs ++ [lv (szN (z j)) b, .slice none 0 0])[i]? := fun i hi => by
      rw [← k5, List.getElem?_take, if_pos hi]
    have P := hd.newreg (w3 := w3) (by exact hj) (z := z j) rfl (g := g) (cap := cap) (b := b) (by omega) hblk (by
      rcases hg3 with e | e
      · exact .inl (hob g e)
      · exact .inr (by omega)) hlt3 hb hbb3 (l := cur.toList) (by simpa using k1) (by simpa using k4) k2 (fun i hi => by
        have hi' : i < j := hi
        rw [hk5 _ (by omega), hk5 _ (by omega), List.getElem?_append_left (by omega), List.getElem?_append_left (by omega)]
        exact hxs i hi') (by
        show cur.toList[j * 2]? = _
        rw [hk5 _ (by omega), List.getElem?_append_right (by omega), hxl, Nat.sub_self]
        rfl) (by
        show cur.toList[j * 2 + 1]? = _
        rw [hk5 _ (by omega), List.getElem?_append_right (by omega), hxl, Nat.add_sub_cancel_left]
        rfl)
    have eS : (w3.setCell ⟨D, 0, none⟩ (.slice (some ⟨g, 0, none⟩) (j + 1) cap)).heap.size = w3.heap.size := setD_size
    have eG : Gr (Gr no w wr) wr w3 = Gr no w (w3.setCell ⟨D, 0, none⟩ (.slice (some ⟨g, 0, none⟩) (j + 1) cap)) := by
      rw [Gr.trans hbel.size (by omega)]
      unfold Gr
      rw [eS]
    rw [eG] at P
    refine ⟨⟨blk_cell (l := [_, _, _, _, _]) hD3 rfl, blk_free hD3 _⟩, _, P, k3, ?_⟩
    have hbs := hbel.size
    refine ⟨gr3.os.trans (bW.os.trans hbel.os), gr3.tape.trans (bW.tape.trans hbel.tape), gr3.output.trans (bW.output.trans hbel.output), by rw [eS]; omega, fun k hk => ?_⟩
    rw [setD_other (by omega), hblk k (by omega) (fun hp e => by
      have := hd.ownR hp
      rcases this with h | h
      · exact h
      · omega)]
    exact hbel.block k hk

end Go.Proofs.Ytcnonioiggniiaa.Wd
