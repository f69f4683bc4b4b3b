/-
  Several texts in one. The walks of newRegion and New: a disk of regions of noughts, one for each of the first eight sizes. The walk of New. The walks of slices.Clone and of the disk's Cut. A disk of a law's own: its calls, with the memory that the law found left as it was.
-/
import Derived.Test.YtaojoecmbgmhoaaDb
import Derived.Deep.OwnRows
import Derived.Laws.AppendOwn
import Derived.Lib.SliceRun
namespace Go.Proofs.Ytaojoecmbgmhoaa.Wd
open Go.ChangeShapes Go.WideShapes Go.ChangeAt Go.RowKit Go.Proofs.Ytaojoecmbgmhoaa.M

theorem made_lc (n : Nat) : madeCells #[.int .u8 0] (64 * n) = (lc (fun _ => noB) n).toArray := by
  apply Array.ext
  · rw [size_madeCells, List.size_toArray, lc_length]
  · intro j h1 h2
    have hj : j < 64 * n := by rw [List.size_toArray, lc_length] at h2; exact h2
    have e : (lc (fun _ => noB) n)[j]? = some (.int .u8 0) := by rw [lc_get _ _ _ hj, noB_bt]
    have e2 : (lc (fun _ => noB) n).toArray[j] = .int .u8 0 := by
      rw [List.getElem_toArray]
      have := List.getElem?_eq_some_iff.1 e
      exact this.2
    rw [e2]
    simp [madeCells, Nat.mod_one]

theorem make_lc (n : Nat) (hn : n ≤ 4096) (u : World) : (Instr.makeSlice 52 (.int .i64 ((n : Int) * 64)) (.int .i64 ((n : Int) * 64))).run Try.prog u = .ok (lv n u.heap.size) (u.alloc (.cells (lc (fun _ => noB) n).toArray 5)) := by
  obtain ⟨i0, hi, hz0, hz1, hz2⟩ := info_parts info8z
  have h := run_make (P := Try.prog) u 52 5 i0 (.int .u8 0) Try.underlying52 hi hz0 .i64 .i64 ((n : Int) * 64) ((n : Int) * 64) (by omega) (Int.le_refl _) (by rw [hz2]; omega) (by omega)
  have e1 : ((n : Int) * 64).toNat = 64 * n := by omega
  rw [e1] at h
  rw [← made_lc]
  simpa [hz1, Value.cells, lv] using h

theorem info2 : (Try.prog.info? 55).map (·.size) = some 2 := by kernel_rfl

set_option maxRecDepth 100000 in
theorem newRegion (z : Int) (w : World) :
    Calls Try.prog 15 #[.int .i64 z] w fun e w' => e = .returned (.agg #[lv (szN z) (w.heap.size + 1), .slice none 0 0]) ∧ w'.heap[w.heap.size + 1]? = some (.cells (lc (fun _ => noB) (szN z)).toArray 5 (0, 0)) ∧ Below w.heap.size w w' := by
  have hn : szN z ≤ 4096 := by unfold szN; omega
  have hm := make_lc (szN z) hn
  unfold lv at hm ⊢
  rcases (show z < 0 ∨ (0 ≤ z ∧ z ≤ 4096) ∨ 4096 < z by omega) with c | c | c
  · have e : szN z = 0 := by unfold szN; omega
    rw [e] at hm ⊢
    simp only [Int.natCast_zero, Int.zero_mul, Nat.mul_zero] at hm ⊢
    go_enter Try.func15, Try.ntmps15
    go_wp2
    exact bodyPost_ret (v := .agg #[.slice (some ⟨w.heap.size + 1, 0, none⟩) 0 0, .slice none 0 0]) (results_cell_row Try.results15 _ _ w.heap.size 55 #[.slice (some ⟨w.heap.size + 1, 0, none⟩) 0 0, .slice none 0 0] (0, 0) _ rfl (heap_alloc2_old w _ _) Try.underlying55 rfl info2) rfl ⟨rfl, heap_alloc2_new w _ _, ((Below.refl _ _).alloc (Nat.le_refl _) _).alloc (by simp) _⟩
  · obtain ⟨n, rfl⟩ := Int.eq_ofNat_of_zero_le c.1
    have e : szN (n : Int) = n := by unfold szN; omega
    rw [e] at hm hn ⊢
    clear e
    go_enter Try.func15, Try.ntmps15
    go_wp2
    exact bodyPost_ret (v := .agg #[.slice (some ⟨w.heap.size + 1, 0, none⟩) (64 * n) (64 * n), .slice none 0 0]) (results_cell_row Try.results15 _ _ w.heap.size 55 #[.slice (some ⟨w.heap.size + 1, 0, none⟩) (64 * n) (64 * n), .slice none 0 0] (0, 0) _ rfl (heap_alloc2_old w _ _) Try.underlying55 rfl info2) rfl ⟨rfl, heap_alloc2_new w _ _, ((Below.refl _ _).alloc (Nat.le_refl _) _).alloc (by simp) _⟩
  · have e : szN z = 4096 := by unfold szN; omega
    rw [e] at hm ⊢
    have e2 : (((4096 : Nat) : Int) * 64) = 262144 := by decide
    rw [e2] at hm
    generalize hl : (lc (fun _ => noB) 4096).toArray = LL at hm ⊢
    have HL := hid hl
    clear hl
    go_enter Try.func15, Try.ntmps15
    go_wp2
    exact bodyPost_ret (v := .agg #[.slice (some ⟨w.heap.size + 1, 0, none⟩) 262144 262144, .slice none 0 0]) (results_cell_row Try.results15 _ _ w.heap.size 55 #[.slice (some ⟨w.heap.size + 1, 0, none⟩) 262144 262144, .slice none 0 0] (0, 0) _ rfl (heap_alloc2_old w _ _) Try.underlying55 rfl info2) rfl ⟨rfl, heap_alloc2_new w _ _, ((Below.refl _ _).alloc (Nat.le_refl _) _).alloc (by simp) _⟩

/-- The rows of the regions, as the laws on append ask them. -/
theorem DkL.ownR2 {w : World} {D : Nat} {d : Dk} {F : Nat → Prop} {L : Ly} (h : DkL w D d F L) (hm : L.rc ≤ maxLen) : ∃ xs : List Value, w.ownsRow 0 55 2 (.slice (pt d.k L.R) d.k (cp d.k L.rc)) d.k xs ∧ ∀ i, i < d.k → xs[i * 2]? = some (lv (d.r i).n (L.lb i)) ∧ xs[i * 2 + 1]? = some (qv (d.r i).q (L.qb i) (L.qm i)) := by
  by_cases c : 0 < d.k
  · obtain ⟨l, h1, h2, h3, h4⟩ := h.rows c
    refine ⟨l.take (d.k * 2), ⟨by rw [List.length_take]; omega, .inr ⟨L.R, L.rc, l.toArray, by rw [pt_pos _ c, cp_pos _ c], Nat.zero_le _, h1, h3, hm, by rw [List.size_toArray]; exact h2, rfl⟩⟩, fun i hi => ?_⟩
    rw [List.getElem?_take, List.getElem?_take, if_pos (by omega), if_pos (by omega)]
    exact h4 i hi
  · have e : d.k = 0 := by omega
    rw [e]
    exact ⟨[], ⟨rfl, .inl ⟨rfl, rfl⟩⟩, fun i hi => absurd hi (by omega)⟩

/-- A disk with one region more. -/
theorem DkL.newreg {w w3 : World} {D : Nat} {d : Dk} {F : Nat → Prop} {L : Ly} (h : DkL w D d F L) (hk8 : d.k < 8) {z : Int} (hr : d.r d.k = newR z) {g cap b : Nat} (hsz : w.heap.size ≤ w3.heap.size)
    (hblk : ∀ k, k < w.heap.size → (0 < d.k → k ≠ L.R) → w3.heap[k]? = w.heap[k]?) (hg : (0 < d.k ∧ g = L.R) ∨ w.heap.size ≤ g) (hgl : g < w3.heap.size) (hb : w.heap.size ≤ b) (hbb : w3.heap[b]? = some (.cells (lc (fun _ => noB) (szN z)).toArray 5 (0, 0)))
    {l : List Value} (l1 : w3.heap[g]? = some (.cells l.toArray 55 (0, 0))) (l2 : l.length = cap * 2) (l3 : d.k + 1 ≤ cap) (l4 : ∀ i, i < d.k → l[i * 2]? = some (lv (d.r i).n (L.lb i)) ∧ l[i * 2 + 1]? = some (qv (d.r i).q (L.qb i) (L.qm i))) (l5 : l[d.k * 2]? = some (lv (szN z) b)) (l6 : l[d.k * 2 + 1]? = some (.slice none 0 0)) :
    DkL (w3.setCell ⟨D, 0, none⟩ (.slice (some ⟨g, 0, none⟩) (d.k + 1) cap)) D { d with k := d.k + 1 } (Gr F w w3) { L with R := g, rc := cap, lb := upd L.lb d.k b } := by
  have hK : ∀ (k : Nat) (cs : Array Value) (T : TypeId) (fr : Nat × Nat), w.heap[k]? = some (.cells cs T fr) → T ≠ 55 → w3.heap[k]? = w.heap[k]? := fun k cs T fr h1 h2 => hblk k (blk_lt h1) (fun hp e => by
    obtain ⟨l', k1, _⟩ := h.rows hp
    rw [e, k1] at h1
    simp at h1
    exact h2 h1.2.1.symm)
  have hD3 := (hK D _ _ _ h.dk (by decide)).trans h.dk
  have hO : ∀ k, k ≠ D → (w3.setCell ⟨D, 0, none⟩ (.slice (some ⟨g, 0, none⟩) (d.k + 1) cap)).heap[k]? = w3.heap[k]? := fun k hk => setD_other hk
  have hK2 : ∀ (k : Nat) (cs : Array Value) (T : TypeId) (fr : Nat × Nat), w.heap[k]? = some (.cells cs T fr) → T ≠ 55 → T ≠ 51 → (w3.setCell ⟨D, 0, none⟩ (.slice (some ⟨g, 0, none⟩) (d.k + 1) cap)).heap[k]? = w.heap[k]? := fun k cs T fr h1 h2 h3 =>
    (hO k (fun e => by rw [e, h.dk] at h1; simp at h1; exact h3 h1.2.1.symm)).trans (hK k cs T fr h1 h2)
  have hgD : g ≠ D := fun e => by rw [e, hD3] at l1; simp at l1
  have hbD : b ≠ D := fun e => by rw [e, hD3] at hbb; simp at hbb
  have hold : ∀ i, i < d.k → upd L.lb d.k b i = L.lb i := fun i hi => upd_off _ _ (by omega)
  have hqn : (d.r d.k).q = [] := by rw [hr]; rfl
  have cas : ∀ i, i < d.k + 1 → i < d.k ∨ i = d.k := fun i hi => by omega
  refine ⟨?_, ?_, ?_, ?_, ?_, ?_, ?_, .inl h.ownD, ?_, ?_, ?_, ?_, ?_⟩
  · have := setD_cell (j := 0) (v := .slice (some ⟨g, 0, none⟩) (d.k + 1) cap) hD3
    rw [this]
    show _ = some (Obj.cells #[.slice (pt (d.k + 1) g) (d.k + 1) (cp (d.k + 1) cap), _, _, _, _] _ _)
    rw [pt_pos (n := d.k + 1) g (by omega), cp_pos (n := d.k + 1) cap (by omega)]
    rfl
  · intro _
    refine ⟨l, (hO g hgD).trans l1, l2, l3, fun i hi => ?_⟩
    rcases cas i hi with c | c
    · show _ = some (lv _ (upd L.lb d.k b i)) ∧ _
      rw [hold i c]
      exact l4 i c
    · subst c
      show _ = some (lv _ (upd L.lb d.k b d.k)) ∧ _ = some (qv (d.r d.k).q _ _)
      rw [upd_at, hqn, l5, l6]
      refine ⟨?_, rfl⟩
      rw [show ({ d with k := d.k + 1 } : Dk).r d.k = newR z from hr]
      rfl
  · intro i hi
    rcases cas i hi with c | c
    · show (World.setCell _ _ _).heap[upd L.lb d.k b i]? = _
      rw [hold i c]
      exact (hK2 _ _ _ _ (h.lb i c) (by decide) (by decide)).trans (h.lb i c)
    · subst c
      show (World.setCell _ _ _).heap[upd L.lb d.k b d.k]? = _
      rw [upd_at, show ({ d with k := d.k + 1 } : Dk).r d.k = newR z from hr]
      exact (hO b hbD).trans hbb
  · intro i hi hq
    rcases cas i hi with c | c
    · obtain ⟨l', k1, k2⟩ := h.qb i c hq
      exact ⟨l', (hK2 _ _ _ _ k1 (by decide) (by decide)).trans k1, k2⟩
    · subst c
      exact absurd hq (by show ¬ 0 < (d.r d.k).q.length; rw [hqn]; simp)
  · intro i j hi hj e
    have e' : upd L.lb d.k b i = upd L.lb d.k b j := e
    rcases cas i hi with c1 | c1 <;> rcases cas j hj with c2 | c2
    · rw [hold i c1, hold j c2] at e'
      exact h.injl i j c1 c2 e'
    · subst c2
      rw [hold i c1, upd_at] at e'
      have := blk_lt (h.lb i c1)
      omega
    · subst c1
      rw [hold j c2, upd_at] at e'
      have := blk_lt (h.lb j c2)
      omega
    · omega
  · intro i j hi hj hqi hqj e
    rcases cas i hi with c1 | c1
    · rcases cas j hj with c2 | c2
      · exact h.injq i j c1 c2 hqi hqj e
      · subst c2; exact absurd hqj (by show ¬ 0 < (d.r d.k).q.length; rw [hqn]; simp)
    · subst c1; exact absurd hqi (by show ¬ 0 < (d.r d.k).q.length; rw [hqn]; simp)
  · exact h.kr.kept (fun k cs fr h1 _ => hK2 k cs _ fr h1 (by decide) (by decide)) fun _ hb => .inl hb
  · intro _
    show Gr F w w3 g
    rcases hg with ⟨q0, rfl⟩ | hg
    · exact .inl (h.ownR q0)
    · exact .inr ⟨hg, hgl⟩
  · intro i hi
    show Gr F w w3 (upd L.lb d.k b i)
    rcases cas i hi with c | c
    · rw [hold i c]; exact .inl (h.ownl i c)
    · subst c; rw [upd_at]; exact .inr ⟨hb, blk_lt hbb⟩
  · intro i hi hq
    rcases cas i hi with c | c
    · exact .inl (h.ownq i c hq)
    · subst c; exact absurd hq (by show ¬ 0 < (d.r d.k).q.length; rw [hqn]; simp)
  · intro k hk
    rw [setD_size]
    rcases hk with hk | hk
    · have := h.lt k hk; omega
    · exact hk.2
  · refine ⟨by show d.k + 1 ≤ 8; omega, fun i hi => ?_, fun a l K e => ?_⟩
    · rcases cas i hi with c | c
      · exact h.ok.r i c
      · subst c
        show (d.r d.k).ok
        rw [hr]; exact newR_ok _
    · have := h.ok.ask a l K e
      exact ⟨by show a < d.k + 1; omega, this.2⟩

theorem info64z : (Try.prog.info? 55).map (fun i => (i.zero, i.size, i.bytes)) = some (some (.agg #[.slice none 0 0, .slice none 0 0]), 2, 48) := by kernel_rfl

def no : Nat → Prop := fun _ => False

/-- The disk at its start. -/
theorem startD (w : World) (z : Nat → Int) : DkL (w.alloc (.cells #[.slice none 0 0, .bool false, .int .i64 0, .int .i64 0, .slice none 0 0] 51)) w.heap.size (newD z 0) (Gr no w (w.alloc (.cells #[.slice none 0 0, .bool false, .int .i64 0, .int .i64 0, .slice none 0 0] 51))) { R := 0, rc := 0, lb := fun _ => 0, qb := fun _ => 0, qm := fun _ => 0, ka := none, kc := 0 } where
  dk := heap_alloc_last w _
  rows := fun hp => absurd hp (by show ¬ 0 < 0; omega)
  lb := fun i hi => absurd hi (by show ¬ i < 0; omega)
  qb := fun i hi => absurd hi (by show ¬ i < 0; omega)
  injl := fun i j hi => absurd hi (by show ¬ i < 0; omega)
  injq := fun i j hi => absurd hi (by show ¬ i < 0; omega)
  kr := .inl rfl
  ownD := .inr ⟨Nat.le_refl _, by simp⟩
  ownR := fun hp => absurd hp (by show ¬ 0 < 0; omega)
  ownl := fun i hi => absurd hi (by show ¬ i < 0; omega)
  ownq := fun i hi => absurd hi (by show ¬ i < 0; omega)
  lt := fun b hb => by
    rcases hb with hb | hb
    · exact absurd hb id
    · exact hb.2
  ok := newD_ok _ _ (by omega)

/-- Behind the append and the store of a new region. -/
theorem new_end {w wr w1 w3 : World} {D : Nat} {z : Nat → Int} {j : Nat} {L : Ly} (hd : DkL wr D (newD z j) (Gr no w wr) L) (hDw : D = w.heap.size) (hbel : Below w.heap.size w wr) (hj : j < 8) {xs : List Value} {b : Nat}
    (hxs : ∀ i, i < j → xs[i * 2]? = some (lv (newR (z i)).n (L.lb i)) ∧ xs[i * 2 + 1]? = some (qv (newR (z i)).q (L.qb i) (L.qm i))) (hxl : xs.length = j * 2)
    (b1 : Below wr.heap.size wr w1) (hb : wr.heap.size ≤ b) (hbb : w1.heap[b]? = some (.cells (lc (fun _ => noB) (szN (z j))).toArray 5 (0, 0))) {g cap : Nat} {o : Obj}
    (own3 : w3.ownsRow 0 55 2 (.slice (some ⟨g, 0, none⟩) (j + 1) cap) (j + 1) (xs ++ [lv (szN (z j)) b, .slice none 0 0])) (gr3 : (w1.alloc o).grownBy w3 (Value.slice (pt j L.R) j (cp j L.rc)).ownBlock) (hg3 : (Value.slice (pt j L.R) j (cp j L.rc)).ownBlock = some g ∨ g = w1.heap.size + 1) (hlt3 : g < w3.heap.size) :
    (w3.cell? ⟨D, 0, none⟩ = some (.slice (pt j L.R) j (cp j L.rc)) ∧ w3.frozen? ⟨D, 0, none⟩ = false) ∧
    ∃ L', DkL (w3.setCell ⟨D, 0, none⟩ (.slice (some ⟨g, 0, none⟩) (j + 1) cap)) D (newD z (j + 1)) (Gr no w (w3.setCell ⟨D, 0, none⟩ (.slice (some ⟨g, 0, none⟩) (j + 1) cap))) L' ∧ L'.rc ≤ maxLen ∧ Below w.heap.size w (w3.setCell ⟨D, 0, none⟩ (.slice (some ⟨g, 0, none⟩) (j + 1) cap)) := by
  have bW : Below wr.heap.size wr (w1.alloc o) := b1.alloc b1.size o
  have hob : ∀ k, (Value.slice (pt j L.R) j (cp j L.rc)).ownBlock = some k → 0 < j ∧ k = L.R := by
    intro k hk
    by_cases c : 0 < j
    · rw [pt_pos _ c] at hk
      exact ⟨c, by simpa [Value.ownBlock] using hk.symm⟩
    · have e : j = 0 := by omega
      rw [e, pt_zero] at hk
      cases hk
  have sz1 := b1.size
  have sz2 : (w1.alloc o).heap.size = w1.heap.size + 1 := by simp
  have hsz := gr3.size
  rw [sz2] at hsz
  have hblk : ∀ k, k < wr.heap.size → (0 < j → k ≠ L.R) → w3.heap[k]? = wr.heap[k]? := fun k hk hne =>
    (gr3.block k (by omega) (fun e => by
      obtain ⟨q0, e'⟩ := hob k e.symm
      exact hne q0 e')).trans (bW.block k hk)
  have hbl := blk_lt hbb
  have hbb3 : w3.heap[b]? = some (.cells (lc (fun _ => noB) (szN (z j))).toArray 5 (0, 0)) := by
    rw [gr3.block b (by omega) (fun e => by
      obtain ⟨q0, e'⟩ := hob b e.symm
      obtain ⟨l', k1, _⟩ := hd.rows q0
      have := blk_lt k1
      omega), Below.heap_alloc w1 o b hbl]
    exact hbb
  rcases own3.2 with ⟨_, e⟩ | ⟨g', cap', cur, e, _, k1, k2, k3, k4, k5⟩
  · omega
  · simp at e
    obtain ⟨rfl, rfl⟩ := e
    have hD3 : w3.heap[D]? = _ := (hblk D (blk_lt hd.dk) (fun hp e => by
      obtain ⟨l', q1, _⟩ := hd.rows hp
      have q2 := hd.dk
      rw [e, q1] at q2
      simp at q2)).trans hd.dk
    have hk5 : ∀ i, i < (j + 1) * 2 → cur.toList[i]? = (xs ++ [lv (szN (z j)) b, .slice none 0 0])[i]? := fun i hi => by
      rw [← k5, List.getElem?_take, if_pos hi]
    have P := hd.newreg (w3 := w3) (by exact hj) (z := z j) rfl (g := g) (cap := cap) (b := b) (by omega) hblk (by
      rcases hg3 with e | e
      · exact .inl (hob g e)
      · exact .inr (by omega)) hlt3 hb hbb3 (l := cur.toList) (by simpa using k1) (by simpa using k4) k2 (fun i hi => by
        have hi' : i < j := hi
        rw [hk5 _ (by omega), hk5 _ (by omega), List.getElem?_append_left (by omega), List.getElem?_append_left (by omega)]
        exact hxs i hi') (by
        show cur.toList[j * 2]? = _
        rw [hk5 _ (by omega), List.getElem?_append_right (by omega), hxl, Nat.sub_self]
        rfl) (by
        show cur.toList[j * 2 + 1]? = _
        rw [hk5 _ (by omega), List.getElem?_append_right (by omega), hxl, Nat.add_sub_cancel_left]
        rfl)
    have eS : (w3.setCell ⟨D, 0, none⟩ (.slice (some ⟨g, 0, none⟩) (j + 1) cap)).heap.size = w3.heap.size := setD_size
    have eG : Gr (Gr no w wr) wr w3 = Gr no w (w3.setCell ⟨D, 0, none⟩ (.slice (some ⟨g, 0, none⟩) (j + 1) cap)) := by
      rw [Gr.trans hbel.size (by omega)]
      unfold Gr
      rw [eS]
    rw [eG] at P
    refine ⟨⟨blk_cell (l := [_, _, _, _, _]) hD3 rfl, blk_free hD3 _⟩, _, P, k3, ?_⟩
    have hbs := hbel.size
    refine ⟨gr3.os.trans (bW.os.trans hbel.os), gr3.tape.trans (bW.tape.trans hbel.tape), gr3.output.trans (bW.output.trans hbel.output), by rw [eS]; omega, fun k hk => ?_⟩
    rw [setD_other (by omega), hblk k (by omega) (fun hp e => by
      have := hd.ownR hp
      rcases this with h | h
      · exact h
      · omega)]
    exact hbel.block k hk

end Go.Proofs.Ytaojoecmbgmhoaa.Wd

namespace Go.Proofs.Ytaojoecmbgmhoaa.Wd
open Go.ChangeShapes Go.WideShapes Go.ChangeAt Go.RowKit Go.Proofs.Ytaojoecmbgmhoaa.M

theorem own_below {w w' : World} {base e size n : Nat} {v : Value} {xs : List Value} (h : w.ownsRow base e size v n xs) (b : Below w.heap.size w w') : w'.ownsRow base e size v n xs :=
  h.kept (row := none) ⟨b.os, b.tape, b.output, b.size, fun k hk _ => b.block k hk⟩ (by cases v.ownBlock <;> simp)

set_option maxRecDepth 100000 in
set_option maxHeartbeats 1600000 in
theorem new (ao : Option Addr) (n cap : Nat) (z : Nat → Int) (w : World) (hn : n ≤ 140737488355328) (hcap : n ≤ cap) (hc : ∀ j, j < n → ∃ b o, ao = some ⟨b, o, none⟩ ∧ b < w.heap.size ∧ w.cell? ⟨b, o + j, none⟩ = some (.int .i64 (z j))) :
    Calls Try.prog 5 #[.slice ao n cap] w fun e w' => e = .returned (.pointer (some ⟨w.heap.size, 0, none⟩)) ∧ (∃ L, DkL w' w.heap.size (newD z (min n 8)) (Gr no w w') L) ∧ Below w.heap.size w w' := by
  obtain ⟨i0, hi0, hzz, hsz0, hby⟩ := info_parts info64z
  have m1 : (if 8 < (n : Int) then 8 else (n : Int)) = ((min n 8 : Nat) : Int) := by split <;> omega
  have m2 : min (n : Int) 8 = ((min n 8 : Nat) : Int) := by omega
  obtain ⟨k, hk⟩ : ∃ k, k = min n 8 := ⟨_, rfl⟩
  have hk8 : k ≤ 8 := by omega
  have hkn : k ≤ n := by omega
  rw [← hk] at m1 m2 ⊢
  have HK := hid hk
  have HS := hid (startD w z)
  clear hk
  go_enter Try.func5, Try.ntmps5
  go_wp2
  go_loopw [14] (fun iv wr => ∃ j : Nat, j ≤ k ∧ iv = .int .i64 (j : Int) ∧ ∃ L, DkL wr w.heap.size (newD z j) (Gr no w wr) L ∧ L.rc ≤ maxLen ∧ Below w.heap.size w wr) (fun iv _ => k - (intOf iv).toNat)
  case atStart => exact ⟨0, Nat.zero_le _, rfl, _, HS.out, Nat.zero_le _, (Below.refl _ _).alloc (Nat.le_refl _) _⟩
  case round =>
    obtain ⟨j, hj, rfl, L, hd, hrc, hbel⟩ := hrel
    by_cases hlt : j < k
    · obtain ⟨b, o, rfl, hb, hcl⟩ := hc j (by omega)
      have r1 := (hbel.cell (p := ⟨b, o + j, none⟩) (by exact hb)).trans hcl
      obtain ⟨xs, hox, hxs⟩ := hd.ownR2 hrc
      have hxl : xs.length = j * 2 := hox.1
      have rD : Hid (∀ W, Below wr.heap.size wr W → W.cell? ⟨w.heap.size, 0, none⟩ = some (.slice (pt j L.R) j (cp j L.rc))) := fun W hW => (hW.cell (hd.lt _ hd.ownD)).trans hd.cD.1
      have rD0 := rD.out wr (Below.refl _ _)
      have CN := hid (newRegion (z j) wr.drew)
      have OWN : Hid (∀ W o, Below wr.heap.size wr W → (World.alloc W o).ownsRow 0 55 2 (.slice (pt j L.R) j (cp j L.rc)) j xs) := fun W o hW => World.ownsRow.alloc (own_below hox hW) o
      have FIN := hid (fun (w1 w3 : World) (g cap : Nat) (o : Obj) (bw : Below wr.heap.size wr w1) (hbb : w1.heap[wr.heap.size + 1]? = some (.cells (lc (fun _ => noB) (szN (z j))).toArray 5 (0, 0))) own3 gr3 hg3 hlt3 => new_end (w3 := w3) (g := g) (cap := cap) (o := o) hd rfl hbel (by omega) hxs hxl bw (by omega : wr.heap.size ≤ wr.heap.size + 1) hbb own3 gr3 hg3 hlt3)
      clear hox hxs hd hc hcl
      generalize z j = zj at *
      unfold lv at CN FIN
      go_wp2_with fail
      refine wp_region_any (by kernel_rfl) ?_
      change wpAny _ _ _ _ _ _ _ (World.drew _)
      refine wpAny_take (i := 0) (v := .pointer (some ⟨w.heap.size, 0, none⟩)) rfl (by kernel_rfl) (by kernel_rfl) (by kernel_rfl) (fun _ _ _ h => h) (Or.inl ⟨by rfl, fun w => by go_simp⟩) ?_
      refine wpAny_take (i := 1) (v := .pointer (some ⟨w.heap.size, 0, none⟩)) rfl (by kernel_rfl) (by kernel_rfl) (by kernel_rfl) (fun _ _ _ h => h) (Or.inl ⟨by rfl, fun w => by go_simp⟩) ?_
      refine wpAny_take (i := 2) (v := .pointer (some ⟨w.heap.size, 0, none⟩)) rfl (by kernel_rfl) (by kernel_rfl) (by kernel_rfl) (fun _ _ _ h => h) (Or.inl ⟨by rfl, fun w => by go_simp⟩) ?_
      refine wpAny_take (i := 3) (v := .pointer (some ⟨w.heap.size, 0, none⟩)) rfl (by kernel_rfl) (by kernel_rfl) (by kernel_rfl) (fun _ _ _ h => h) (Or.inl ⟨by rfl, fun w => by go_simp⟩) ?_
      refine wpAny_take (i := 5) (v := .int .i64 zj) rfl (by kernel_rfl) (by kernel_rfl) (by kernel_rfl) (fun _ _ _ h => h) (Or.inl ⟨by rfl, fun w => by go_simp⟩) ?_
      refine wpAny_ready (rs := [4, 6]) (by kernel_rfl) (by simp) ?_
      refine AllReady.cons rfl (fun K hK => ?_) (AllReady.cons rfl (fun K hK => ?_) AllReady.nil)
      · go_simp
        refine hK _ _ ?_
        clear hK K
        refine wpAny_ready (rs := [6]) (by kernel_rfl) (by simp) ?_
        refine AllReady.cons rfl (fun K hK => ?_) AllReady.nil
        go_simp
        refine CN.out.mono ?_
        rintro e w1 ⟨rfl, hbb, b0⟩
        have b1 := (Below.refl wr.heap.size wr).drew.trans b0
        have rD1 := rD.out w1 b1
        have HB := hid (And.intro hbb b1)
        clear hbb b0 b1
        try dsimp only
        refine hK _ _ ?_
        clear hK K
        refine wpAny_ready (rs := [7]) (by kernel_rfl) (by simp) ?_
        refine AllReady.cons rfl (fun K hK => ?_) AllReady.nil
        go_simp
        refine hK _ _ ?_
        clear hK K
        refine wpAny_ready (rs := [8]) (by kernel_rfl) (by simp) ?_
        refine AllReady.cons rfl (fun K hK => ?_) AllReady.nil
        refine step_append_lies _ rfl (.tmp 22) (.tmp 25) 46 rfl 0 55 i0 (.agg #[.slice none 0 0, .slice none 0 0]) 2 48 Try.underlying46 hi0 hzz hsz0 hby rfl (by decide) _ _ _ rfl (OWN.out _ _ HB.out.2) ⟨w1.heap.size, 0, none⟩ 1 1 [.slice (some ⟨wr.heap.size + 1, 0, none⟩) (64 * szN zj) (64 * szN zj), .slice none 0 0] rfl rfl (World.news_of_block (heap_alloc_last w1 _)) (by intro u hu; simp at hu; rcases hu with rfl | rfl <;> rfl) (by decide) (by unfold maxLen; omega) (by omega) (Nat.zero_le _) (w1.heap.size + 1) (by simp) ?_
        intro g cap w3 own3 gr3 hg3 hlt3
        obtain ⟨⟨f1, f2⟩, f3⟩ := FIN.out w1 w3 g cap _ HB.out.2 HB.out.1 own3 gr3 hg3 hlt3
        have F3 := hid f3
        clear f3 own3 gr3 hg3 hlt3
        refine hK _ _ ?_
        clear hK K
        refine wpAny_take (i := 9) (v := .pointer (some ⟨w.heap.size, 0, none⟩)) rfl (by kernel_rfl) (by kernel_rfl) (by kernel_rfl) (fun _ _ _ h => h) (Or.inl ⟨by rfl, fun w => by go_simp⟩) ?_
        refine wpAny_take (i := 10) (v := .pointer (some ⟨w.heap.size, 0, none⟩)) rfl (by kernel_rfl) (by kernel_rfl) (by kernel_rfl) (fun _ _ _ h => h) (Or.inl ⟨by rfl, fun w => by go_simp⟩) ?_
        refine wpAny_ready (rs := [11]) (by kernel_rfl) (by simp) ?_
        refine AllReady.cons rfl (fun K hK => ?_) AllReady.nil
        go_simp
        refine hK _ _ ?_
        clear hK K
        refine wpAny_done (by kernel_rfl) ?_ _
        go_wp2
        go_roundw
        case rel => exact ⟨j + 1, by omega, by go_num, F3.out⟩
        case measure => simp [intOf] <;> omega
      · go_simp
        refine CN.out.mono ?_
        rintro e w1 ⟨rfl, hbb, b0⟩
        have b1 := (Below.refl wr.heap.size wr).drew.trans b0
        have rD1 := rD.out w1 b1
        have HB := hid (And.intro hbb b1)
        clear hbb b0 b1
        try dsimp only
        refine hK _ _ ?_
        clear hK K
        refine wpAny_ready (rs := [4, 7]) (by kernel_rfl) (by simp) ?_
        refine AllReady.cons rfl (fun K hK => ?_) (AllReady.cons rfl (fun K hK => ?_) AllReady.nil)
        · go_simp
          refine hK _ _ ?_
          clear hK K
          refine wpAny_ready (rs := [7]) (by kernel_rfl) (by simp) ?_
          refine AllReady.cons rfl (fun K hK => ?_) AllReady.nil
          go_simp
          refine hK _ _ ?_
          clear hK K
          refine wpAny_ready (rs := [8]) (by kernel_rfl) (by simp) ?_
          refine AllReady.cons rfl (fun K hK => ?_) AllReady.nil
          refine step_append_lies _ rfl (.tmp 22) (.tmp 25) 46 rfl 0 55 i0 (.agg #[.slice none 0 0, .slice none 0 0]) 2 48 Try.underlying46 hi0 hzz hsz0 hby rfl (by decide) _ _ _ rfl (OWN.out _ _ HB.out.2) ⟨w1.heap.size, 0, none⟩ 1 1 [.slice (some ⟨wr.heap.size + 1, 0, none⟩) (64 * szN zj) (64 * szN zj), .slice none 0 0] rfl rfl (World.news_of_block (heap_alloc_last w1 _)) (by intro u hu; simp at hu; rcases hu with rfl | rfl <;> rfl) (by decide) (by unfold maxLen; omega) (by omega) (Nat.zero_le _) (w1.heap.size + 1) (by simp) ?_
          intro g cap w3 own3 gr3 hg3 hlt3
          obtain ⟨⟨f1, f2⟩, f3⟩ := FIN.out w1 w3 g cap _ HB.out.2 HB.out.1 own3 gr3 hg3 hlt3
          have F3 := hid f3
          clear f3 own3 gr3 hg3 hlt3
          refine hK _ _ ?_
          clear hK K
          refine wpAny_take (i := 9) (v := .pointer (some ⟨w.heap.size, 0, none⟩)) rfl (by kernel_rfl) (by kernel_rfl) (by kernel_rfl) (fun _ _ _ h => h) (Or.inl ⟨by rfl, fun w => by go_simp⟩) ?_
          refine wpAny_take (i := 10) (v := .pointer (some ⟨w.heap.size, 0, none⟩)) rfl (by kernel_rfl) (by kernel_rfl) (by kernel_rfl) (fun _ _ _ h => h) (Or.inl ⟨by rfl, fun w => by go_simp⟩) ?_
          refine wpAny_ready (rs := [11]) (by kernel_rfl) (by simp) ?_
          refine AllReady.cons rfl (fun K hK => ?_) AllReady.nil
          go_simp
          refine hK _ _ ?_
          clear hK K
          refine wpAny_done (by kernel_rfl) ?_ _
          go_wp2
          go_roundw
          case rel => exact ⟨j + 1, by omega, by go_num, F3.out⟩
          case measure => simp [intOf] <;> omega
        · go_simp
          refine hK _ _ ?_
          clear hK K
          have rD2 : (w1.alloc (.cells #[.slice (some ⟨wr.heap.size + 1, 0, none⟩) (64 * szN zj) (64 * szN zj), .slice none 0 0] 55)).cell? ⟨w.heap.size, 0, none⟩ = _ := rD.out _ (HB.out.2.alloc HB.out.2.size _)
          refine wpAny_ready (rs := [4]) (by kernel_rfl) (by simp) ?_
          refine AllReady.cons rfl (fun K hK => ?_) AllReady.nil
          go_simp
          refine hK _ _ ?_
          clear hK K
          refine wpAny_ready (rs := [8]) (by kernel_rfl) (by simp) ?_
          refine AllReady.cons rfl (fun K hK => ?_) AllReady.nil
          refine step_append_lies _ rfl (.tmp 22) (.tmp 25) 46 rfl 0 55 i0 (.agg #[.slice none 0 0, .slice none 0 0]) 2 48 Try.underlying46 hi0 hzz hsz0 hby rfl (by decide) _ _ _ rfl (OWN.out _ _ HB.out.2) ⟨w1.heap.size, 0, none⟩ 1 1 [.slice (some ⟨wr.heap.size + 1, 0, none⟩) (64 * szN zj) (64 * szN zj), .slice none 0 0] rfl rfl (World.news_of_block (heap_alloc_last w1 _)) (by intro u hu; simp at hu; rcases hu with rfl | rfl <;> rfl) (by decide) (by unfold maxLen; omega) (by omega) (Nat.zero_le _) (w1.heap.size + 1) (by simp) ?_
          intro g cap w3 own3 gr3 hg3 hlt3
          obtain ⟨⟨f1, f2⟩, f3⟩ := FIN.out w1 w3 g cap _ HB.out.2 HB.out.1 own3 gr3 hg3 hlt3
          have F3 := hid f3
          clear f3 own3 gr3 hg3 hlt3
          refine hK _ _ ?_
          clear hK K
          refine wpAny_take (i := 9) (v := .pointer (some ⟨w.heap.size, 0, none⟩)) rfl (by kernel_rfl) (by kernel_rfl) (by kernel_rfl) (fun _ _ _ h => h) (Or.inl ⟨by rfl, fun w => by go_simp⟩) ?_
          refine wpAny_take (i := 10) (v := .pointer (some ⟨w.heap.size, 0, none⟩)) rfl (by kernel_rfl) (by kernel_rfl) (by kernel_rfl) (fun _ _ _ h => h) (Or.inl ⟨by rfl, fun w => by go_simp⟩) ?_
          refine wpAny_ready (rs := [11]) (by kernel_rfl) (by simp) ?_
          refine AllReady.cons rfl (fun K hK => ?_) AllReady.nil
          go_simp
          refine hK _ _ ?_
          clear hK K
          refine wpAny_done (by kernel_rfl) ?_ _
          go_wp2
          go_roundw
          case rel => exact ⟨j + 1, by omega, by go_num, F3.out⟩
          case measure => simp [intOf] <;> omega
    · have hE : j = k := by omega
      subst hE
      have HD := hid (show (∃ L, DkL wr w.heap.size (newD z j) (Gr no w wr) L) ∧ Below w.heap.size w wr from ⟨⟨L, hd⟩, hbel⟩)
      clear hd hbel hrc hc
      go_wp2
      go_ret
      exact ⟨rfl, HD.out⟩

end Go.Proofs.Ytaojoecmbgmhoaa.Wd

namespace Go.Proofs.Ytaojoecmbgmhoaa.Wd
open Go.ChangeShapes Go.WideShapes Go.ChangeAt Go.RowKit Go.Proofs.Ytaojoecmbgmhoaa.M

theorem Gr.same {F : Nat → Prop} {w w' : World} (h : w'.heap.size = w.heap.size) : Gr F w w' = F := by
  have e := Gr.self F w
  unfold Gr at e ⊢
  rw [h]
  exact e

theorem infoU : (Try.prog.info? 32).map (fun i => (i.zero, i.size, i.bytes)) = some (some (.int .u64 0), 1, 8) := by kernel_rfl
/-- The cells of numbers. -/
def uc (K : List Int) : List Value := K.map fun x => .int .u64 x
theorem uc_length (K : List Int) : (uc K).length = K.length := by simp [uc]
theorem uc_get (K : List Int) (j : Nat) (h : j < K.length) : (uc K)[j]? = some (.int .u64 (K.getD j 0)) := by
  unfold uc
  rw [List.getElem?_map, List.getElem?_eq_getElem h, List.getD_eq_getElem?_getD, List.getElem?_eq_getElem h]
  rfl

/-- What Clone comes to. -/
def ClP (w : World) (K : List Int) (e : Ending) (w' : World) : Prop := ∃ ka kc, e = .returned (.slice ka K.length kc) ∧ KO (Gr no w w') w' ka K ∧ Below w.heap.size w w'

set_option maxRecDepth 100000 in
theorem clone (ao : Option Addr) (K : List Int) (c : Nat) (w : World) (hb : K.length * 8 ≤ 140737488355328) (hn : ao = none → K = []) (ha : ∀ j, j < K.length → ∃ b o, ao = some ⟨b, o, none⟩ ∧ b < w.heap.size ∧ w.cell? ⟨b, o + j, none⟩ = some (.int .u64 (K.getD j 0))) :
    Calls Try.prog 17 #[.slice ao K.length c] w fun e w' => ClP w K e w' := by
  obtain ⟨i0, hi0, hz0, hz1, hz2⟩ := info_parts infoU
  rcases ao with _ | ad
  · obtain rfl := hn rfl
    clear ha hn
    simp only [List.length_nil]
    have heq := fun u => Lib.run_eql_slice_nil (P := Try.prog) u 47 32 none 0 c 0 0 Try.underlying47
    go_enter Try.func17, Try.ntmps17
    go_wp2
    go_ret
    exact ⟨none, 0, rfl, .inl rfl, Below.refl _ _⟩
  · have OW : Hid ((w.alloc (.cells #[] 32)).ownsRow w.heap.size 32 1 (.slice (some ⟨w.heap.size, 0, none⟩) 0 0) 0 []) := World.ownsRow_made w #[] 0 (Nat.le_refl _) (Nat.zero_le _) rfl
    have NEW : Hid (∀ j u, (uc K)[j]? = some u → (w.alloc (.cells #[] 32)).cell? (ad.add j) = some u) := fun j u hj => by
      have hj' : j < K.length := by
        have := (List.getElem?_eq_some_iff.1 hj).1
        rwa [uc_length] at this
      obtain ⟨b, o, e1, e2, e3⟩ := ha j hj'
      simp at e1
      subst e1
      rw [uc_get _ _ hj'] at hj
      rw [Addr.add_lit, World.cell?_of_block (w := w) (Below.heap_alloc w _ _ (by exact e2)), e3, hj]
    have ONE : Hid (∀ u ∈ uc K, u.oneCell' = true) := fun u hu => by
      unfold uc at hu
      rw [List.mem_map] at hu
      obtain ⟨_, _, rfl⟩ := hu
      rfl
    have LEN := hid (show (uc K).length = K.length * 1 by rw [uc_length, Nat.mul_one])
    have UG := hid (uc_get K)
    clear ha hn
    obtain ⟨kl, hkl⟩ : ∃ kl, kl = K.length := ⟨_, rfl⟩
    rw [← hkl]
    rw [← hkl] at LEN hb
    have HKL := hid hkl.symm
    clear hkl
    have heq := fun u => Lib.run_eql_slice_nil (P := Try.prog) u 47 32 (some ad) kl c 0 0 Try.underlying47
    go_enter Try.func17, Try.ntmps17
    go_wp2_with (at_builtin; refine wpList_append_own _ rfl _ _ 47 rfl w.heap.size 32 i0 (.int .u64 0) 1 8 Try.underlying47 hi0 hz0 hz1 hz2 rfl (by decide) _ _ _ rfl OW.out ad kl c (uc K) rfl LEN.out NEW.out ONE.out ?c3 ?c4 ?c5 ?_)
    case c3 => unfold maxLen; omega
    case c4 => omega
    case c5 => simp
    · intro v' w1 own1 gr1 _
      have B1 := hid (((Below.refl w.heap.size w).alloc (Nat.le_refl _) (.cells #[] 32)).grown gr1 (by simp) (fun k hk => by simp [Value.ownBlock] at hk; omega))
      rcases own1.2 with ⟨e1, e2⟩ | ⟨g, cap, cur, e1, e2, k1, k2, k3, k4, k5⟩
      · subst e1
        have e3 : kl = 0 := by omega
        subst e3
        clear own1 gr1
        go_wp2
        go_ret
        have hK0 : K = [] := List.eq_nil_of_length_eq_zero HKL.out
        refine ⟨none, 0, by rw [HKL.out]; rfl, .inl hK0, B1.out⟩
      · subst e1
        have P : Hid (KO (Gr no w w1) w1 (some ⟨g, 0, none⟩) K) := .inr ⟨g, 0, cur, (0, 0), rfl, k1, .inr ⟨e2, blk_lt k1⟩, fun j hj => by
          have := UG.out j hj
          rw [← this]
          have h2 : cur.toList[j]? = (uc K)[j]? := by
            have k6 : cur.toList.take kl = uc K := by simpa using k5
            rw [← k6, List.getElem?_take, if_pos (by have := HKL.out; omega)]
          rw [Nat.zero_add, ← h2, Array.getElem?_toList]⟩
        clear own1 gr1 k1 k2 k3 k4 k5
        go_wp2
        go_ret
        exact ⟨some ⟨g, 0, none⟩, cap, by rw [HKL.out]; first | rfl | (simp; rfl), P.out, B1.out⟩

set_option maxRecDepth 100000 in
set_option maxHeartbeats 1000000 in
theorem cutD {w : World} {D : Nat} {d : Dk} {F : Nat → Prop} {L : Ly} (h : DkL w D d F L) (a n : Int) (hn63 : n < 9223372036854775808) (ao : Option Addr) (K : List Int) (c : Nat) (h64 : K64 K) (hb : K.length * 8 ≤ 140737488355328) (hnil : ao = none → K = []) (ha : ∀ j, j < K.length → ∃ b o, ao = some ⟨b, o, none⟩ ∧ b < w.heap.size ∧ ¬ F b ∧ w.cell? ⟨b, o + j, none⟩ = some (.int .u64 (K.getD j 0))) :
    Calls Try.prog 7 #[dp D, .int .i64 a, .int .i64 n, .slice ao K.length c] w fun e w' => e = .returned (.tuple #[]) ∧ (∃ L', DkL w' D (d.cut a n K) (Gr F w w') L') ∧ Kept F w w' := by
  obtain ⟨c1, c2, c3, c4, c5, c6⟩ := h.cD
  have e1 := setD_cell (j := 2) (v := .int .i64 0) h.dk
  have e2 := setD_cell (j := 3) (v := .int .i64 0) e1
  have e3 := setD_cell (j := 4) (v := .slice none 0 0) e2
  obtain ⟨w0, hw0⟩ : ∃ w0, w0 = (((w.setCell ⟨D, 2, none⟩ (.int .i64 0)).setCell ⟨D, 3, none⟩ (.int .i64 0)).setCell ⟨D, 4, none⟩ (.slice none 0 0)) := ⟨_, rfl⟩
  rw [← hw0] at e3
  have hW : w0.heap.size = w.heap.size := by rw [hw0, setD_size, setD_size, setD_size]
  have ho : ∀ k, k ≠ D → w0.heap[k]? = w.heap[k]? := fun k hk => by rw [hw0, setD_other hk, setD_other hk, setD_other hk]
  have P0 := h.setD (w' := w0) (G := F) (off := d.off) (ask := none) (ka := none) (kc := 0) e3 (fun k hk _ => ho k hk) (fun _ hb => hb) (fun k hk => by rw [hW]; exact h.lt k hk) (.inl rfl) (fun a l K e => by cases e)
  have K0 : Kept F w w0 := by rw [hw0]; exact Kept.setCell (Kept.setCell (Kept.setCell (Kept.refl _ _) h.ownD _) h.ownD _) h.ownD _
  have hDF := h.ownD
  have HW0 := hid hw0.symm
  have NONE : ∀ (_ : ¬ (1 ≤ n ∧ d.has a = true)), (∃ L', DkL w0 D (d.cut a n K) (Gr F w w0) L') ∧ Kept F w w0 := fun hno => by
    have ec : d.cut a n K = { d with off := d.off, ask := none } := by unfold Dk.cut; rw [if_neg hno]
    rw [Gr.same hW, ec]
    exact ⟨⟨_, P0⟩, K0⟩
  have HNONE := hid NONE
  have CF := hid (find P0 (a := a))
  have hhas : ({ d with off := d.off, ask := none } : Dk).has a = d.has a := rfl
  rw [hhas] at CF
  have CC := hid (clone ao K c w0 hb hnil (fun j hj => by
    obtain ⟨b, o, q1, q2, q3, q4⟩ := ha j hj
    refine ⟨b, o, q1, by omega, ?_⟩
    rw [World.cell?_of_block (w := w) (ho b (fun e => q3 (by rw [e]; exact hDF)))]
    exact q4))
  unfold dp
  clear ha NONE hhas hw0 e1 e2 e3 ho
  by_cases cn : 1 ≤ n
  · by_cases ch : d.has a = true
    · rw [if_pos ch] at CF
      unfold rp at CF
      obtain ⟨i, rfl, hi⟩ := has_nat ch
      rw [Int.toNat_natCast] at CF
      have hcut : Hid (d.cut (i : Int) n K = { d with ask := some (i, n.toNat, K) }) := by
        show _ = _
        unfold Dk.cut
        rw [if_pos ⟨cn, ch⟩, Int.toNat_natCast]
      have HP := hid P0
      have HK0 := hid K0
      clear ch HNONE P0 K0
      go_enter Try.func7, Try.ntmps7
      go_wp2_with fail
      rw [HW0.out]
      refine CF.out.mono ?_
      rintro e w1 ⟨rfl, rfl⟩
      go_wp2_with fail
      refine CC.out.mono ?_
      rintro e w2 hcl
      obtain ⟨ka, kc, rfl, ko, b2⟩ := hcl
      have q0 := HP.out.below b2
      obtain ⟨s1, s2, s3, s4, s5, s6⟩ := q0.cD
      have f1 := setD_cell (j := 2) (v := .int .i64 (i : Int)) q0.dk
      have f2 := setD_cell (j := 3) (v := .int .i64 n) f1
      have f3 := setD_cell (j := 4) (v := .slice ka K.length kc) f2
      have FIN : Hid ((∃ L', DkL (((w2.setCell ⟨D, 2, none⟩ (.int .i64 (i : Int))).setCell ⟨D, 3, none⟩ (.int .i64 n)).setCell ⟨D, 4, none⟩ (.slice ka K.length kc)) D (d.cut (i : Int) n K) (Gr F w (((w2.setCell ⟨D, 2, none⟩ (.int .i64 (i : Int))).setCell ⟨D, 3, none⟩ (.int .i64 n)).setCell ⟨D, 4, none⟩ (.slice ka K.length kc))) L') ∧ Kept F w (((w2.setCell ⟨D, 2, none⟩ (.int .i64 (i : Int))).setCell ⟨D, 3, none⟩ (.int .i64 n)).setCell ⟨D, 4, none⟩ (.slice ka K.length kc))) := by
        have hsz : (((w2.setCell ⟨D, 2, none⟩ (.int .i64 (i : Int))).setCell ⟨D, 3, none⟩ (.int .i64 n)).setCell ⟨D, 4, none⟩ (.slice ka K.length kc)).heap.size = w2.heap.size := by rw [setD_size, setD_size, setD_size]
        have hbs := b2.size
        refine ⟨?_, ?_⟩
        · rw [hcut.out]
          have := q0.setD (w' := (((w2.setCell ⟨D, 2, none⟩ (.int .i64 (i : Int))).setCell ⟨D, 3, none⟩ (.int .i64 n)).setCell ⟨D, 4, none⟩ (.slice ka K.length kc))) (G := Gr F w (((w2.setCell ⟨D, 2, none⟩ (.int .i64 (i : Int))).setCell ⟨D, 3, none⟩ (.int .i64 n)).setCell ⟨D, 4, none⟩ (.slice ka K.length kc))) (off := d.off) (ask := some (i, n.toNat, K)) (ka := ka) (kc := kc) (by
            rw [f3]
            show some (Obj.cells #[_, _, _, .int .i64 n, _] _ _) = some (Obj.cells #[_, _, _, .int .i64 ((n.toNat : Nat) : Int), _] _ _)
            rw [Int.toNat_of_nonneg (by omega)]
            rfl) (fun k hk _ => by rw [setD_other hk, setD_other hk, setD_other hk]) (fun _ hb => .inl hb) (fun k hk => by
            rw [hsz]
            rcases hk with hk | hk
            · have := q0.lt k hk; omega
            · rw [hsz] at hk; exact hk.2) (ko.kept (fun b cs fr hb _ => by
              rw [setD_other (fun e => by rw [e, q0.dk] at hb; simp at hb), setD_other (fun e => by rw [e, q0.dk] at hb; simp at hb), setD_other (fun e => by rw [e, q0.dk] at hb; simp at hb)]) (fun b hb => by
              rcases hb with hb | hb
              · exact absurd hb id
              · exact .inr ⟨by omega, by rw [hsz]; exact hb.2⟩)) (fun a' l' K' e => by
            simp at e
            obtain ⟨rfl, rfl, rfl⟩ := e
            exact ⟨hi, by omega, h64⟩)
          exact ⟨_, this⟩
        · exact Kept.setCell (Kept.setCell (Kept.setCell (HK0.out.trans (Kept.of_below b2)) (p := ⟨D, 2, none⟩) hDF _) (p := ⟨D, 3, none⟩) hDF _) (p := ⟨D, 4, none⟩) hDF _
      clear q0 f1 f2 f3 ko b2 HP HK0
      go_wp2
      go_end0
      exact ⟨rfl, FIN.out⟩
    · rw [if_neg ch] at CF
      have FIN := hid (HNONE.out (fun hh => ch hh.2))
      clear CC HNONE P0
      go_enter Try.func7, Try.ntmps7
      go_wp2_with fail
      rw [HW0.out]
      refine CF.out.mono ?_
      rintro e w1 ⟨rfl, rfl⟩
      go_wp2
      go_end0
      exact ⟨rfl, FIN.out⟩
  · have FIN := hid (HNONE.out (fun hh => cn hh.1))
    clear CC CF HNONE P0
    go_enter Try.func7, Try.ntmps7
    go_wp2
    rw [HW0.out]
    go_end0
    exact ⟨rfl, FIN.out⟩

end Go.Proofs.Ytaojoecmbgmhoaa.Wd

namespace Go.Proofs.Ytaojoecmbgmhoaa.Wd
open Go.ChangeShapes Go.WideShapes Go.ChangeAt Go.RowKit Go.Proofs.Ytaojoecmbgmhoaa.M

/-- A disk in memory that was made since W. -/
structure One (W w : World) (D : Nat) (d : Dk) (F : Nat → Prop) : Prop where
  at_ : ∃ L, DkL w D d F L
  own : ∀ b, F b → W.heap.size ≤ b
  bel : Below W.heap.size W w


theorem One.ok {W w : World} {D : Nat} {d : Dk} {F : Nat → Prop} (h : One W w D d F) : d.ok := by
  obtain ⟨L, l⟩ := h.at_
  exact l.ok

theorem One.below {W w w' : World} {D : Nat} {d : Dk} {F : Nat → Prop} (h : One W w D d F) (b : Below w.heap.size w w') : One W w' D d F := by
  obtain ⟨L, l⟩ := h.at_
  exact ⟨⟨L, l.below b⟩, h.own, h.bel.trans (b.mono h.bel.size)⟩

theorem One.step {W w w' : World} {D : Nat} {d d' : Dk} {F : Nat → Prop} (h : One W w D d F) (hl : ∃ L, DkL w' D d' (Gr F w w') L) (hk : Kept F w w') : One W w' D d' (Gr F w w') :=
  ⟨hl, fun b hb => by
    rcases hb with hb | hb
    · exact h.own b hb
    · exact Nat.le_trans h.bel.size hb.1, h.bel.trans (hk.below h.bel.size h.own)⟩
theorem One.congr {W w : World} {D : Nat} {d d' : Dk} {F : Nat → Prop} (h : One W w D d F) (hk : d'.k = d.k) (ho : d'.off = d.off) (ha : d'.ask = d.ask) (hr : ∀ j, j < d.k → d'.r j = d.r j) : One W w D d' F := by
  obtain ⟨L, l⟩ := h.at_
  exact ⟨⟨L, l.congr hk ho ha hr⟩, h.own, h.bel⟩


theorem One.new {W w : World} (bel : Below W.heap.size W w) (ao : Option Addr) (n cap : Nat) (z : Nat → Int) (hn : n ≤ 140737488355328) (hcap : n ≤ cap) (hc : ∀ j, j < n → ∃ b o, ao = some ⟨b, o, none⟩ ∧ b < w.heap.size ∧ w.cell? ⟨b, o + j, none⟩ = some (.int .i64 (z j))) :
    Calls Try.prog 5 #[.slice ao n cap] w fun e w' => e = .returned (.pointer (some ⟨w.heap.size, 0, none⟩)) ∧ One W w' w.heap.size (newD z (min n 8)) (Gr no w w') ∧ Below w.heap.size w w' :=
  (Wd.new ao n cap z w hn hcap hc).mono fun e w' ⟨h1, h2, h3⟩ => ⟨h1, ⟨h2, fun b hb => by
    rcases hb with hb | hb
    · exact absurd hb id
    · exact Nat.le_trans bel.size hb.1, bel.trans (h3.mono bel.size)⟩, h3⟩

theorem One.write {W w : World} {D : Nat} {d : Dk} {F : Nat → Prop} (h : One W w D d F) (hq : ∀ j, j < d.k → (d.r j).q.length < 1048576) (a b : Int) (x : ByteArray) :
    Calls Try.prog 54 #[.pointer (some ⟨D, 0, none⟩), .int .i64 a, .int .i64 b, .string x] w fun e w' => e = .returned (.int .i64 (d.writeE a b x)) ∧ One W w' D (d.write a b x) (Gr F w w') ∧ Kept F w w' := by
  obtain ⟨L, l⟩ := h.at_
  exact (writeD l hq a b x).mono fun e w' ⟨h1, h2, h3, _⟩ => ⟨h1, h.step h2 h3, h3⟩

theorem One.flush {W w : World} {D : Nat} {d : Dk} {F : Nat → Prop} (h : One W w D d F) (hq : ∀ j, j < d.k → (d.r j).q.length ≤ 1048576) (a : Int) :
    Calls Try.prog 55 #[.pointer (some ⟨D, 0, none⟩), .int .i64 a] w fun e w' => e = .returned (.int .i64 (d.flushE a)) ∧ One W w' D (d.flush a) (Gr F w w') ∧ Kept F w w' := by
  obtain ⟨L, l⟩ := h.at_
  exact (flushD l hq a).mono fun e w' ⟨h1, h2, h3, _⟩ => ⟨h1, h.step h2 h3, h3⟩

theorem One.on {W w : World} {D : Nat} {d : Dk} {F : Nat → Prop} (h : One W w D d F) :
    Calls Try.prog 11 #[.pointer (some ⟨D, 0, none⟩)] w fun e w' => e = .returned (.tuple #[]) ∧ One W w' D d.on (Gr F w w') ∧ Kept F w w' := by
  obtain ⟨L, l⟩ := h.at_
  exact (onD l).mono fun e w' ⟨h1, h2, h3, _, h5⟩ => ⟨h1, h.step (by rw [Gr.same h5]; exact h2) h3, h3⟩

theorem One.crash {W w : World} {D : Nat} {d : Dk} {F : Nat → Prop} (h : One W w D d F) (hq : ∀ j, j < d.k → (d.r j).q.length ≤ 1048576) {K : List Int} {ao : Option Addr} (hK : KR F w ao K) (h64 : K64 K) (c : Nat) :
    Calls Try.prog 14 #[.pointer (some ⟨D, 0, none⟩), .slice ao K.length c] w fun e w' => e = .returned (.tuple #[]) ∧ One W w' D (d.crash K) (Gr F w w') ∧ Kept F w w' := by
  obtain ⟨L, l⟩ := h.at_
  exact (crashD l hq hK h64 c).mono fun e w' ⟨h1, h2, h3, _⟩ => ⟨h1, h.step h2 h3, h3⟩

theorem One.read {W w : World} {D : Nat} {d : Dk} {F : Nat → Prop} (h : One W w D d F) (hq : ∀ j, j < d.k → (d.r j).q.length ≤ 1048576) (a b : Int) :
    Calls Try.prog 29 #[.pointer (some ⟨D, 0, none⟩), .int .i64 a, .int .i64 b] w fun e w' => e = .returned (.tuple #[.string (d.readB a b), .int .i64 (d.readE a b)]) ∧ w = w' := by
  obtain ⟨L, l⟩ := h.at_
  exact readD l hq a b

theorem One.sectors {W w : World} {D : Nat} {d : Dk} {F : Nat → Prop} (h : One W w D d F) (a : Int) :
    Calls Try.prog 18 #[.pointer (some ⟨D, 0, none⟩), .int .i64 a] w fun e w' => e = .returned (.int .i64 (d.secs a : Int)) ∧ w = w' := by
  obtain ⟨L, l⟩ := h.at_
  exact sectorsD l a

theorem One.off {W w : World} {D : Nat} {d : Dk} {F : Nat → Prop} (h : One W w D d F) :
    Calls Try.prog 10 #[.pointer (some ⟨D, 0, none⟩)] w fun e w' => e = .returned (.bool d.off) ∧ w = w' := by
  obtain ⟨L, l⟩ := h.at_
  exact offD l

/-- The length of no queue is greater than before, but for one write. -/
theorem q_at {d : Dk} {m : Nat} (h : ∀ j, j < d.k → (d.r j).q.length ≤ m) {i : Nat} {r : Rg} (hr : r.q.length ≤ m) : ∀ j, j < (d.at i r).k → ((d.at i r).r j).q.length ≤ m := fun j hj => by
  show (upd d.r i r j).q.length ≤ m
  unfold upd
  split
  · exact hr
  · exact h j hj
theorem q_lose {d : Dk} {m : Nat} (K : List Int) : ∀ j, j < (d.lose K).k → ((d.lose K).r j).q.length ≤ m := fun _ _ => Nat.zero_le _
theorem q_cnt {d : Dk} {m : Nat} (h : ∀ j, j < d.k → (d.r j).q.length ≤ m) (a : Nat) : ∀ j, j < (d.cnt a).k → ((d.cnt a).r j).q.length ≤ m := by
  rcases ha : d.ask with _ | ⟨b, l, K⟩
  · rw [(now_none ha).2]; exact h
  · rw [(now_some ha).2]
    split
    · split
      · exact q_lose K
      · exact h
    · exact h
theorem q_write {d : Dk} {m : Nat} (h : ∀ j, j < d.k → (d.r j).q.length ≤ m) (a b : Int) (x : ByteArray) : ∀ j, j < (d.write a b x).k → ((d.write a b x).r j).q.length ≤ m + 1 := by
  unfold Dk.write
  split
  · apply q_cnt
    unfold Dk.put
    have h1 : ∀ j, j < d.k → (d.r j).q.length ≤ m + 1 := fun j hj => Nat.le_succ_of_le (h j hj)
    refine q_at h1 ?_
    rename_i c
    obtain ⟨c1, _⟩ := preW_ok c
    obtain ⟨i, s, rfl, rfl, hi, _⟩ := readE_ok c1
    show ((d.r i).q ++ [_]).length ≤ _
    have := h i hi
    simp
    omega
  · exact fun j hj => Nat.le_succ_of_le (h j hj)
theorem q_flush {d : Dk} {m : Nat} (h : ∀ j, j < d.k → (d.r j).q.length ≤ m) (a : Int) : ∀ j, j < (d.flush a).k → ((d.flush a).r j).q.length ≤ m := by
  unfold Dk.flush
  split
  · split
    · exact q_cnt h _
    · exact q_at (q_cnt h _) (Nat.zero_le _)
  · exact h
theorem q_lay {d : Dk} {m : Nat} (h : ∀ j, j < d.k → (d.r j).q.length ≤ m) (a : Int) (x : ByteArray) : ∀ j, j < (d.lay a x).k → ((d.lay a x).r j).q.length ≤ m := by
  unfold Dk.lay
  split
  · exact q_at h (Nat.zero_le _)
  · exact h
theorem q_crash {d : Dk} {m : Nat} (K : List Int) : ∀ j, j < (d.crash K).k → ((d.crash K).r j).q.length ≤ m := q_lose K
theorem q_new {z : Nat → Int} {k m : Nat} : ∀ j, j < (newD z k).k → ((newD z k).r j).q.length ≤ m := fun _ _ => Nat.zero_le _

theorem one_cut {W w : World} {D : Nat} {d : Dk} {F : Nat → Prop} (h : One W w D d F) (a n : Int) (hn63 : n < 9223372036854775808) (ao : Option Addr) (K : List Int) (c : Nat) (h64 : K64 K) (hb : K.length * 8 ≤ 140737488355328) (hnil : ao = none → K = []) (ha : ∀ j, j < K.length → ∃ b o, ao = some ⟨b, o, none⟩ ∧ b < w.heap.size ∧ ¬ F b ∧ w.cell? ⟨b, o + j, none⟩ = some (.int .u64 (K.getD j 0))) :
    Calls Try.prog 7 #[.pointer (some ⟨D, 0, none⟩), .int .i64 a, .int .i64 n, .slice ao K.length c] w fun e w' => e = .returned (.tuple #[]) ∧ One W w' D (d.cut a n K) (Gr F w w') ∧ Kept F w w' := by
  obtain ⟨L, l⟩ := h.at_
  exact (cutD l a n hn63 ao K c h64 hb hnil ha).mono fun e w' ⟨h1, h2, h3⟩ => ⟨h1, h.step h2 h3, h3⟩



theorem one_lt {W w : World} {D : Nat} {d : Dk} {F : Nat → Prop} (h : One W w D d F) {b : Nat} (hb : F b) : b < w.heap.size := by
  obtain ⟨L, l⟩ := h.at_
  exact l.lt b hb
theorem one_other {W w w' : World} {E : Nat} {e : Dk} {F G : Nat → Prop} (h : One W w E e G) (hk : Kept F w w') (dis : ∀ b, G b → ¬ F b) (bel : Below W.heap.size W w') : One W w' E e G := by
  obtain ⟨L, l⟩ := h.at_
  exact ⟨⟨L, l.kept hk.size fun b hb => hk.block b (l.lt b hb) (dis b hb)⟩, h.own, bel⟩

end Go.Proofs.Ytaojoecmbgmhoaa.Wd
