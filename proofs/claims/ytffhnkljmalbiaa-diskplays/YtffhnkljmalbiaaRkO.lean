/-
  The walk of the document's New.
-/
import Derived.Test.YtffhnkljmalbiaaRkN
namespace Go.Proofs.Ytffhnkljmalbiaa.Wr
open Go.ChangeShapes Go.WideShapes Go.ChangeAt Go.RowKit Go.Proofs.Ytffhnkljmalbiaa.M Go.Proofs.Ytffhnkljmalbiaa.Wd

theorem infoS : (Try.prog.info? 9).map (fun i => (i.zero, i.size, i.bytes)) = some (some (.string ⟨#[]⟩), 1, 16) := by kernel_rfl
theorem infoP : (Try.prog.info? 69).map (fun i => (i.zero, i.size, i.bytes)) = some (some (.pointer none), 1, 8) := by kernel_rfl

/-- A region of k sectors, under way. -/
def Inn (wr : World) (k lb lm : Nat) (wk : World) : Prop :=
  wk.heap[wr.heap.size]? = some (.cells #[.slice (pt k lb) k (cp k lm), .slice none 0 0] 72 (0, 0)) ∧
  (0 < k → wr.heap.size ≤ lb ∧ ∃ l : List Value, wk.heap[lb]? = some (.cells l.toArray 9 (0, 0)) ∧ l.length = lm ∧ k ≤ lm ∧ lm ≤ maxLen ∧ l.take k = sl (fun _ => noB) k) ∧ Below wr.heap.size wr wk
theorem Inn.own {wr wk : World} {k lb lm : Nat} (h : Inn wr k lb lm wk) : wk.ownsRow 0 9 1 (.slice (pt k lb) k (cp k lm)) k (sl (fun _ => noB) k) := by
  refine ⟨by rw [sl_length, Nat.mul_one], ?_⟩
  by_cases c : 0 < k
  · obtain ⟨_, l, h1, h2, h3, h4, h5⟩ := h.2.1 c
    exact .inr ⟨lb, lm, l.toArray, by rw [pt_pos _ c, cp_pos _ c], Nat.zero_le _, h1, h3, h4, by rw [List.size_toArray, h2, Nat.mul_one], by rw [Nat.mul_one]; exact h5⟩
  · have e : k = 0 := by omega
    subst e
    exact .inl ⟨rfl, rfl⟩
theorem Inn.push {wr wk w3 : World} {k lb lm g cap : Nat} {o : Obj} (h : Inn wr k lb lm wk) (hs : wr.heap.size < wk.heap.size) (own3 : w3.ownsRow 0 9 1 (.slice (some ⟨g, 0, none⟩) (k + 1) cap) (k + 1) (sl (fun _ => noB) k ++ [.string noB])) (gr3 : (wk.alloc o).grownBy w3 (Value.slice (pt k lb) k (cp k lm)).ownBlock)
    (hg3 : (Value.slice (pt k lb) k (cp k lm)).ownBlock = some g ∨ g = wk.heap.size + 1) :
    (w3.cell? ⟨wr.heap.size, 0, none⟩ = some (.slice (pt k lb) k (cp k lm)) ∧ w3.frozen? ⟨wr.heap.size, 0, none⟩ = false) ∧ wr.heap.size < (w3.setCell ⟨wr.heap.size, 0, none⟩ (.slice (some ⟨g, 0, none⟩) (k + 1) cap)).heap.size ∧ Inn wr (k + 1) g cap (w3.setCell ⟨wr.heap.size, 0, none⟩ (.slice (some ⟨g, 0, none⟩) (k + 1) cap)) := by
  have hob : ∀ b, (Value.slice (pt k lb) k (cp k lm)).ownBlock = some b → 0 < k ∧ b = lb := by
    intro b hb
    by_cases c : 0 < k
    · rw [pt_pos _ c] at hb
      exact ⟨c, by simpa [Value.ownBlock] using hb.symm⟩
    · have e : k = 0 := by omega
      subst e
      rw [pt_zero] at hb
      cases hb
  have sW : (wk.alloc o).heap.size = wk.heap.size + 1 := by simp
  have hsz : wk.heap.size + 1 ≤ w3.heap.size := by rw [← sW]; exact gr3.size
  have hblk : ∀ b, b < wk.heap.size → (0 < k → b ≠ lb) → w3.heap[b]? = wk.heap[b]? := fun b hb hne =>
    (gr3.block b (by omega) (fun e => by
      obtain ⟨q0, e'⟩ := hob b e.symm
      exact hne q0 e')).trans (Below.heap_alloc wk o b hb)
  have hrb : w3.heap[wr.heap.size]? = wk.heap[wr.heap.size]? := hblk _ hs (fun hp e => by
    obtain ⟨_, l, k1, _⟩ := h.2.1 hp
    have k2 := h.1
    rw [e, k1] at k2
    simp at k2)
  have hb3 := hrb.trans h.1
  have hne : g ≠ wr.heap.size := by
    intro e
    rcases hg3 with e2 | e2
    · obtain ⟨hp, e3⟩ := hob g e2
      obtain ⟨_, l, k1, _⟩ := h.2.1 hp
      have k2 := h.1
      rw [← e, e3, k1] at k2
      simp at k2
    · omega
  refine ⟨⟨blk_cell (l := [_, _]) hb3 rfl, blk_free hb3 _⟩, by rw [setD_size]; omega, ?_, ?_, ?_⟩
  · rw [pt_pos _ (by omega), cp_pos _ (by omega)]
    exact blk_set (l := [_, _]) hb3 0 _
  · intro _
    rcases own3.2 with ⟨_, e⟩ | ⟨g', cap', cur, e, _, k1, k2, k3, k4, k5⟩
    · omega
    · simp at e
      obtain ⟨rfl, rfl⟩ := e
      refine ⟨?_, cur.toList, ?_, by simpa using k4, k2, k3, ?_⟩
      · rcases hg3 with e2 | e2
        · obtain ⟨hp, e3⟩ := hob g e2
          rw [e3]
          exact (h.2.1 hp).1
        · omega
      · rw [setD_other hne]
        simpa using k1
      · rw [Nat.mul_one] at k5
        rw [k5, sl_succ]
  · refine h.2.2.trans ⟨gr3.os, gr3.tape, gr3.output, by rw [setD_size]; omega, fun b hb => ?_⟩
    rw [setD_other (by omega)]
    exact hblk b (by have := h.2.2.size; omega) (fun hp e => by
      have := (h.2.1 hp).1
      omega)

theorem RkL.ownR2 {w : World} {D : Nat} {d : Dk} {F : Nat → Prop} {L : Lr} (h : RkL w D d F L) : ∃ xs : List Value, w.ownsRow 0 69 1 (.slice (pt d.k L.R) d.k (cp d.k L.rc)) d.k xs ∧ ∀ i, i < d.k → xs[i]? = some (.pointer (some ⟨L.rb i, 0, none⟩)) := by
  by_cases c : 0 < d.k
  · obtain ⟨l, h1, h2, h3, h4, h5⟩ := h.rows c
    refine ⟨l.take (d.k * 1), ⟨by rw [List.length_take]; omega, .inr ⟨L.R, L.rc, l.toArray, by rw [pt_pos _ c, cp_pos _ c], Nat.zero_le _, h1, h3, h4, by rw [List.size_toArray, h2, Nat.mul_one], rfl⟩⟩, fun i hi => ?_⟩
    rw [List.getElem?_take, if_pos (by omega)]
    exact h5 i hi
  · have e : d.k = 0 := by omega
    rw [e]
    exact ⟨[], ⟨rfl, .inl ⟨rfl, rfl⟩⟩, fun i hi => absurd hi (by omega)⟩

/-- Behind the append of a new region's pointer. -/
theorem new_end {w wr wk w3 : World} {D : Nat} {z : Nat → Int} {j lb lm : Nat} {L : Lr} (hd : RkL wr D (newD z j) (Gr no w wr) L) (hDw : D = w.heap.size) (hbel : Below w.heap.size w wr) (hj : j < 8) {xs : List Value} (hin : Inn wr (szN (z j)) lb lm wk) (hs : wr.heap.size < wk.heap.size)
    (hxs : ∀ i, i < j → xs[i]? = some (.pointer (some ⟨L.rb i, 0, none⟩))) (hxl : xs.length = j * 1) {g cap : Nat} {o : Obj}
    (own3 : w3.ownsRow 0 69 1 (.slice (some ⟨g, 0, none⟩) (j + 1) cap) (j + 1) (xs ++ [.pointer (some ⟨wr.heap.size, 0, none⟩)])) (gr3 : (wk.alloc o).grownBy w3 (Value.slice (pt j L.R) j (cp j L.rc)).ownBlock) (hg3 : (Value.slice (pt j L.R) j (cp j L.rc)).ownBlock = some g ∨ g = wk.heap.size + 1) (hlt3 : g < w3.heap.size) :
    (w3.cell? ⟨D, 0, none⟩ = some (.slice (pt j L.R) j (cp j L.rc)) ∧ w3.frozen? ⟨D, 0, none⟩ = false) ∧
    ∃ L', RkL (w3.setCell ⟨D, 0, none⟩ (.slice (some ⟨g, 0, none⟩) (j + 1) cap)) D (newD z (j + 1)) (Gr no w (w3.setCell ⟨D, 0, none⟩ (.slice (some ⟨g, 0, none⟩) (j + 1) cap))) L' ∧ Below w.heap.size w (w3.setCell ⟨D, 0, none⟩ (.slice (some ⟨g, 0, none⟩) (j + 1) cap)) := by
  have hob : ∀ k, (Value.slice (pt j L.R) j (cp j L.rc)).ownBlock = some k → 0 < j ∧ k = L.R := by
    intro k hk
    by_cases c : 0 < j
    · rw [pt_pos _ c] at hk
      exact ⟨c, by simpa [Value.ownBlock] using hk.symm⟩
    · have e : j = 0 := by omega
      rw [e, pt_zero] at hk
      cases hk
  have sz1 := hin.2.2.size
  have sW : (wk.alloc o).heap.size = wk.heap.size + 1 := by simp
  have hsz : wk.heap.size + 1 ≤ w3.heap.size := by rw [← sW]; exact gr3.size
  have hRlt : 0 < j → L.R < wr.heap.size := fun hp => by
    obtain ⟨l', k1, _⟩ := hd.rows hp
    exact blk_lt k1
  have hnew : ∀ k, k < wk.heap.size → (0 < j → k ≠ L.R) → w3.heap[k]? = wk.heap[k]? := fun k hk hne =>
    (gr3.block k (by omega) (fun e => by
      obtain ⟨q0, e'⟩ := hob k e.symm
      exact hne q0 e')).trans (Below.heap_alloc wk o k hk)
  have hblk : ∀ k, k < wr.heap.size → (0 < j → k ≠ L.R) → w3.heap[k]? = wr.heap[k]? := fun k hk hne => (hnew k (by omega) hne).trans (hin.2.2.block k hk)
  rcases own3.2 with ⟨_, e⟩ | ⟨g', cap', cur, e, _, k1, k2, k3, k4, k5⟩
  · omega
  · simp at e
    obtain ⟨rfl, rfl⟩ := e
    have hD3 : w3.heap[D]? = _ := (hblk D (blk_lt hd.dk) (fun hp e => by
      obtain ⟨l', q1, _⟩ := hd.rows hp
      have q2 := hd.dk
      rw [e, q1] at q2
      simp at q2)).trans hd.dk
    have hk5 : ∀ i, i < j + 1 → cur.toList[i]? = (xs ++ [.pointer (some ⟨wr.heap.size, 0, none⟩)])[i]? := fun i hi => by
      rw [← k5, List.getElem?_take, if_pos (by omega)]
    have P := hd.newreg (w3 := w3) (by exact hj) (z := z j) rfl (g := g) (cap := cap) (b := wr.heap.size) (lb := lb) (lm := lm) (by omega) hblk (by
      rcases hg3 with e | e
      · exact .inl (hob g e)
      · exact .inr (by omega)) hlt3 (Nat.le_refl _) ((hnew _ hs (fun hp e => by have := hRlt hp; omega)).trans hin.1) (fun hp => by
        obtain ⟨q0, l', q1, q2⟩ := hin.2.1 hp
        exact ⟨q0, l', (hnew _ (blk_lt q1) (fun hp e => by have := hRlt hp; omega)).trans q1, q2⟩) (l := cur.toList) (by simpa using k1) (by simpa using k4) k2 k3 (fun i hi => by
        have hi' : i < j := hi
        rw [hk5 _ (by omega), List.getElem?_append_left (by omega)]
        exact hxs i hi') (by
        show cur.toList[j]? = _
        rw [hk5 _ (by omega), List.getElem?_append_right (by omega), hxl, Nat.mul_one, Nat.sub_self]
        rfl)
    have eS : (w3.setCell ⟨D, 0, none⟩ (.slice (some ⟨g, 0, none⟩) (j + 1) cap)).heap.size = w3.heap.size := setD_size
    have eG : Gr (Gr no w wr) wr w3 = Gr no w (w3.setCell ⟨D, 0, none⟩ (.slice (some ⟨g, 0, none⟩) (j + 1) cap)) := by
      rw [Gr.trans hbel.size (by omega)]
      unfold Gr
      rw [eS]
    rw [eG] at P
    refine ⟨⟨blk_cell (l := [_, _, _, _, _]) hD3 rfl, blk_free hD3 _⟩, _, P, ?_⟩
    have hbs := hbel.size
    refine ⟨gr3.os.trans (hin.2.2.os.trans hbel.os), gr3.tape.trans (hin.2.2.tape.trans hbel.tape), gr3.output.trans (hin.2.2.output.trans hbel.output), by rw [eS]; omega, fun k hk => ?_⟩
    rw [setD_other (by omega), hblk k (by omega) (fun hp e => by
      have := hd.ownR hp
      rcases this with h | h
      · exact h
      · omega)]
    exact hbel.block k hk

set_option maxRecDepth 100000 in
set_option maxHeartbeats 1600000 in
theorem new (ao : Option Addr) (n cap : Nat) (z : Nat → Int) (w : World) (hn : n ≤ 140737488355328) (hz : ∀ j, -9223372036854775808 ≤ z j ∧ z j < 9223372036854775808) (hc : ∀ j, j < n → ∃ b o, ao = some ⟨b, o, none⟩ ∧ b < w.heap.size ∧ w.cell? ⟨b, o + j, none⟩ = some (.int .i64 (z j))) :
    Calls Try.prog 11 #[.slice ao n cap] w fun e w' => e = .returned (.pointer (some ⟨w.heap.size, 0, none⟩)) ∧ (∃ L, RkL w' w.heap.size (newD z (min n 8)) (Gr no w w') L) ∧ Below w.heap.size w w' := by
  obtain ⟨i0, hi0, hz0, hz1, hz2⟩ := info_parts infoS
  obtain ⟨i1, hi1, hy0, hy1, hy2⟩ := info_parts infoP
  obtain ⟨k, hk⟩ : ∃ k, k = min n 8 := ⟨_, rfl⟩
  rw [← hk]
  have HK := hid hk
  have hk8 : k ≤ 8 := by omega
  have hkn : k ≤ n := by omega
  have hkm : k = n ∨ k = 8 := by omega
  have HS := hid (startR w z)
  clear hk
  go_enter Try.func11, Try.ntmps11
  go_wp2
  go_loopw [4] (fun iv wr => ∃ j : Nat, j ≤ k ∧ iv = .int .i64 (j : Int) ∧ ∃ L, RkL wr w.heap.size (newD z j) (Gr no w wr) L ∧ Below w.heap.size w wr) (fun iv _ => k - (intOf iv).toNat)
  case atStart => exact ⟨0, Nat.zero_le _, rfl, _, HS.out, (Below.refl _ _).alloc (Nat.le_refl _) _⟩
  case round =>
    obtain ⟨j, hj, rfl, L, hd, hbel⟩ := hrel
    rename World => wo
    by_cases hlt : j < k
    · obtain ⟨b, o, rfl, hb, hcl⟩ := hc j (by omega)
      have r1 := (hbel.cell (p := ⟨b, o + j, none⟩) (by exact hb)).trans hcl
      have hzj := hz j
      obtain ⟨xs, hox, hxs⟩ := hd.ownR2
      have hxl : xs.length = j * 1 := hox.1
      have rD : Hid (∀ W, Below wo.heap.size wo W → W.cell? ⟨w.heap.size, 0, none⟩ = some (.slice (pt j L.R) j (cp j L.rc))) := fun W hW => (hW.cell (hd.lt _ hd.ownD)).trans hd.cD.1
      have OWN : Hid (∀ W o, Below wo.heap.size wo W → (World.alloc W o).ownsRow 0 69 1 (.slice (pt j L.R) j (cp j L.rc)) j xs) := fun W o hW => World.ownsRow.alloc (own_below hox hW) o
      have FIN := hid (fun (wk w3 : World) (lb lm g cap : Nat) (o : Obj) (hin : Inn wo (szN (z j)) lb lm wk) (hs : wo.heap.size < wk.heap.size) own3 gr3 hg3 hlt3 => new_end (w3 := w3) (g := g) (cap := cap) (o := o) hd rfl hbel (by omega) hin hs hxs hxl own3 gr3 hg3 hlt3)
      have hszn : (z j ≤ 4096 ∧ szN (z j) = (z j).toNat) ∨ (4096 < z j ∧ szN (z j) = 4096) := by unfold szN; omega
      have hN4 : szN (z j) ≤ 4096 := by unfold szN; omega
      have CN := hid (none_ (wo.alloc (.cells #[.slice none 0 0, .slice none 0 0] 72)))
      have I0 : Hid (∀ W, Below (wo.heap.size + 1) (wo.alloc (.cells #[.slice none 0 0, .slice none 0 0] 72)) W → wo.heap.size < W.heap.size ∧ Inn wo 0 0 0 W) := fun W hW => by
        have h1 := hW.size
        simp at h1
        refine ⟨by omega, (hW.block _ (by omega)).trans (heap_alloc_last wo _), fun h => absurd h (by omega), ?_⟩
        exact ((Below.refl wo.heap.size wo).alloc (Nat.le_refl _) _).trans (hW.mono (by omega))
      clear hox hxs hd hc hcl
      generalize hNg : szN (z j) = N at *
      have HNg := hid hNg
      clear hNg
      generalize z j = zj at *
      rcases hszn with ⟨hA, hB⟩ | ⟨hA, hB⟩
      all_goals
        go_wp2_with fail
        refine CN.out.mono ?_
        rintro e w1 ⟨rfl, b0⟩
        have I1 := hid (I0.out w1 (b0.mono (by simp)))
        clear b0
        go_wp2
        go_loopw [8] (fun kv wk => ∃ m : Nat, m ≤ N ∧ kv = .int .i64 (m : Int) ∧ ∃ lb lm, wo.heap.size < wk.heap.size ∧ Inn wo m lb lm wk) (fun kv _ => N - (intOf kv).toNat)
        case atStart => exact ⟨0, Nat.zero_le _, rfl, 0, 0, I1.out⟩
        case round =>
          clear I1
          obtain ⟨m, hm, rfl, lb, lm, hs, hin⟩ := hrel
          by_cases hmN : m < N
          · have c0 : wr.cell? ⟨wo.heap.size, 0, none⟩ = some (.slice (pt m lb) m (cp m lm)) := blk_cell (l := [_, _]) hin.1 rfl
            have OW := hid (fun o => hin.own.alloc o)
            have PU := hid (fun (w3 : World) (g cap : Nat) (o : Obj) own3 gr3 hg3 => hin.push (w3 := w3) (g := g) (cap := cap) (o := o) hs own3 gr3 hg3)
            clear hin
            generalize noB = nb at *
            go_wp2_with (at_builtin; refine wpList_append_lies _ rfl _ _ 51 rfl 0 9 i0 (.string ⟨#[]⟩) 1 16 Try.underlying51 hi0 hz0 hz1 hz2 rfl (by decide) _ _ _ rfl (OW.out _) ⟨wr.heap.size, 0, none⟩ 1 1 [.string nb] rfl rfl (World.news_of_block (heap_alloc_last wr _)) (by intro u hu; simp at hu; subst hu; rfl) (by decide) (by unfold maxLen; omega) (by omega) (Nat.zero_le _) (wr.heap.size + 1) (by simp) ?_; intro g cap w3 own3 gr3 hg3 hlt3; obtain ⟨⟨f1, f2⟩, f3, f4⟩ := PU.out w3 g cap _ own3 gr3 hg3; have F3 := hid (And.intro f3 f4); clear f3 f4 own3 gr3 hg3 hlt3)
            go_roundw
            case rel => exact ⟨m + 1, by omega, by go_num, _, _, F3.out⟩
            case measure => simp [intOf] <;> omega
          · have hE : m = N := by omega
            have hin2 := hin
            rw [hE] at hin2
            have HI := hid hin2
            have rD1 := rD.out _ hin.2.2
            have rb := hid hin.2.2
            clear hin hin2
            go_wp2_with (at_builtin; refine wpList_append_lies _ rfl _ _ 66 rfl 0 69 i1 (.pointer none) 1 8 Try.underlying66 hi1 hy0 hy1 hy2 rfl (by decide) _ _ _ rfl (OWN.out _ _ rb.out) ⟨wr.heap.size, 0, none⟩ 1 1 [.pointer (some ⟨wo.heap.size, 0, none⟩)] rfl rfl (World.news_of_block (heap_alloc_last wr _)) (by intro u hu; simp at hu; subst hu; rfl) (by decide) (by unfold maxLen; omega) (by omega) (Nat.zero_le _) (wr.heap.size + 1) (by simp) ?_; intro g cap w3 own3 gr3 hg3 hlt3; obtain ⟨⟨f1, f2⟩, f3⟩ := FIN.out _ w3 lb lm g cap _ HI.out hs own3 gr3 hg3 hlt3; have F3 := hid f3; clear f3 own3 gr3 hg3 hlt3)
            go_roundw
            case rel => exact ⟨j + 1, by omega, by go_num, F3.out⟩
            case measure => simp [intOf] <;> omega
    · have hE : j = k := by omega
      subst hE
      have HD := hid (show (∃ L, RkL wo w.heap.size (newD z j) (Gr no w wo) L) ∧ Below w.heap.size w wo from ⟨⟨L, hd⟩, hbel⟩)
      clear hd hbel hc
      rcases hkm with hkm | hkm
      · subst hkm
        go_wp2
        go_ret
        exact ⟨rfl, HD.out⟩
      · subst hkm
        go_wp2
        all_goals
          go_ret
          exact ⟨rfl, HD.out⟩

end Go.Proofs.Ytffhnkljmalbiaa.Wr
