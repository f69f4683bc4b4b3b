/-
  The walk of the document's Cut.
-/
import Derived.Test.YtffhnkljmalbiaaRkD
import Derived.Test.YtffhnkljmalbiaaDkK
import Derived.Deep.RegionLaw
namespace Go.Proofs.Ytffhnkljmalbiaa.Wr
open Go.ChangeShapes Go.WideShapes Go.ChangeAt Go.RowKit Go.Proofs.Ytffhnkljmalbiaa.M Go.Proofs.Ytffhnkljmalbiaa.Wd

theorem uc_take_succ {K : List Int} {t : Nat} (h : t < K.length) : uc (K.take (t + 1)) = uc (K.take t) ++ [.int .u64 (K.getD t 0)] := by
  unfold uc
  rw [List.take_succ_eq_append_getElem h, List.map_append, List.getD_eq_getElem?_getD, List.getElem?_eq_getElem h]
  rfl

/-- Behind the append of one number. -/
theorem cut_end {w0 wr w3 : World} {D : Nat} {d : Dk} {F : Nat → Prop} {L : Lr} {i l : Nat} {K : List Int} {t : Nat} {o : Obj} {g cap : Nat} (ht : t < K.length) (h64 : K64 K) (hd : RkL wr D { d with ask := some (i, l, K.take t) } (Gr F w0 wr) L) (hk : Kept F w0 wr) (hDF : F D) (hDl : D < w0.heap.size)
    (own : wr.ownsRow w0.heap.size 49 1 (.slice L.ka t L.kc) t (uc (K.take t)))
    (own3 : w3.ownsRow w0.heap.size 49 1 (.slice (some ⟨g, 0, none⟩) (t + 1) cap) (t + 1) (uc (K.take t) ++ [.int .u64 (K.getD t 0)])) (gr3 : (wr.drew.alloc o).grownBy w3 (Value.slice L.ka t L.kc).ownBlock) :
    (w3.cell? ⟨D, 4, none⟩ = some (.slice L.ka t L.kc) ∧ w3.frozen? ⟨D, 4, none⟩ = false) ∧ ∃ L', (w3.setCell ⟨D, 4, none⟩ (.slice (some ⟨g, 0, none⟩) (t + 1) cap)).ownsRow w0.heap.size 49 1 (.slice L'.ka (t + 1) L'.kc) (t + 1) (uc (K.take (t + 1))) ∧
      RkL (w3.setCell ⟨D, 4, none⟩ (.slice (some ⟨g, 0, none⟩) (t + 1) cap)) D { d with ask := some (i, l, K.take (t + 1)) } (Gr F w0 (w3.setCell ⟨D, 4, none⟩ (.slice (some ⟨g, 0, none⟩) (t + 1) cap))) L' ∧ Kept F w0 (w3.setCell ⟨D, 4, none⟩ (.slice (some ⟨g, 0, none⟩) (t + 1) cap)) := by
  have bW : Below wr.heap.size wr (wr.drew.alloc o) := (Below.refl wr.heap.size wr).drew.alloc (Nat.le_refl _) o
  have hrow : ∀ k, (Value.slice L.ka t L.kc).ownBlock = some k → w0.heap.size ≤ k ∧ ∃ cs, wr.heap[k]? = some (.cells cs 49 (0, 0)) := by
    intro k hk'
    rcases own.2 with ⟨e1, _⟩ | ⟨g', cap', cur, e1, e2, k1, _⟩
    · rw [e1] at hk'; cases hk'
    · rw [e1] at hk'
      have e : g' = k := by simpa [Value.ownBlock] using hk'
      subst e
      exact ⟨e2, _, k1⟩
  have hsW : (wr.drew.alloc o).heap.size = wr.heap.size + 1 := by simp
  have hsz := gr3.size
  rw [hsW] at hsz
  have hblk : ∀ b, b < wr.heap.size → (Value.slice L.ka t L.kc).ownBlock ≠ some b → w3.heap[b]? = wr.heap[b]? := fun b hb hne => (gr3.block b (by omega) (fun e => hne e.symm)).trans (bW.block b hb)
  have hks := hk.size
  have hD3 : w3.heap[D]? = _ := (hblk D (by omega) (fun e => by have := (hrow D e).1; omega)).trans hd.dk
  have hlen : (K.take t).length = t := by rw [List.length_take]; omega
  have hlen1 : (K.take (t + 1)).length = t + 1 := by rw [List.length_take]; omega
  have hca : aK (some (i, l, K.take t)) = K.take t := rfl
  have hc3 : w3.cell? ⟨D, 4, none⟩ = some (.slice L.ka (K.take t).length L.kc) := blk_cell (l := [_, _, _, _, _]) hD3 rfl
  rw [hlen] at hc3
  have s1 := setR_cell (j := 4) (v := .slice (some ⟨g, 0, none⟩) (t + 1) cap) hD3
  have eS : (w3.setCell ⟨D, 4, none⟩ (.slice (some ⟨g, 0, none⟩) (t + 1) cap)).heap.size = w3.heap.size := setD_size
  have own4 : (w3.setCell ⟨D, 4, none⟩ (.slice (some ⟨g, 0, none⟩) (t + 1) cap)).ownsRow w0.heap.size 49 1 (.slice (some ⟨g, 0, none⟩) (t + 1) cap) (t + 1) (uc (K.take (t + 1))) := by
    rw [uc_take_succ ht]
    exact ownsRow_setCell_below own3 (by exact hDl) _
  have hta := hd.ta i l _ rfl
  have hok := hd.ok.ask i l _ rfl
  refine ⟨⟨hc3, blk_free hD3 _⟩, { L with ta := L.ta, ka := some ⟨g, 0, none⟩, kc := cap }, own4, ?_, ?_⟩
  · refine hd.setD (off := d.off) (ask := some (i, l, K.take (t + 1))) (ta := L.ta) (ka := some ⟨g, 0, none⟩) (kc := cap) (by
      rw [s1]
      show some (Obj.cells #[_, _, _, _, .slice (some ⟨g, 0, none⟩) (t + 1) cap] _ _) = some (Obj.cells #[_, _, _, _, .slice (some ⟨g, 0, none⟩) (K.take (t + 1)).length cap] _ _)
      rw [hlen1]
      rfl) (fun b hb hbl hnt => by
      rw [setD_other hb]
      exact hblk b hbl (fun e => by
        obtain ⟨_, cs, e2⟩ := hrow b e
        exact hnt cs _ e2)) (fun b hb => by
      rcases hb with hb | hb
      · exact .inl hb
      · exact .inr ⟨hb.1, by rw [eS]; omega⟩) (fun b hb => by
      rcases hb with hb | hb
      · have := hd.lt b (.inl hb); rw [eS]; omega
      · exact hb.2) ?_ (fun a' l' K' e => by
      simp at e
      rw [← e.1]; exact hta) (fun a' l' K' e => by
      simp at e
      obtain ⟨rfl, rfl, rfl⟩ := e
      exact ⟨hok.1, hok.2.1, fun x hx => h64 x (List.mem_of_mem_take hx)⟩)
    rcases own4.2 with ⟨e1, _⟩ | ⟨g', cap', cur, e1, e2, k1, k2, k3, k4, k5⟩
    · cases e1
    · simp at e1
      obtain ⟨rfl, rfl⟩ := e1
      refine .inr ⟨g, 0, cur, (0, 0), rfl, k1, .inr ⟨e2, blk_lt k1⟩, fun j hj => ?_⟩
      have hj' : j < (K.take (t + 1)).length := hj
      have := uc_get (K.take (t + 1)) j hj'
      rw [← k5, List.getElem?_take, if_pos (by rw [hlen1] at hj'; omega)] at this
      rw [Nat.zero_add, ← Array.getElem?_toList]
      exact this
  · refine Kept.setCell ⟨gr3.os.trans (bW.os.trans hk.os), gr3.tape.trans (bW.tape.trans hk.tape), gr3.output.trans (bW.output.trans hk.output), by omega, fun b hb hF => ?_⟩ hDF _
    rw [hblk b (by omega) (fun e => by have := (hrow b e).1; omega)]
    exact hk.block b hb hF

set_option maxRecDepth 100000 in
set_option maxHeartbeats 1000000 in
theorem cutR {w : World} {D : Nat} {d : Dk} {F : Nat → Prop} {L : Lr} (h : RkL w D d F L) (a n : Int) (hn63 : n < 9223372036854775808) (ao : Option Addr) (K : List Int) (c : Nat) (h64 : K64 K) (hb : K.length * 8 ≤ 140737488351232) (ha : ∀ j, j < K.length → ∃ b o, ao = some ⟨b, o, none⟩ ∧ b < w.heap.size ∧ ¬ F b ∧ w.cell? ⟨b, o + j, none⟩ = some (.int .u64 (K.getD j 0))) :
    Calls Try.prog 32 #[.pointer (some ⟨D, 0, none⟩), .int .i64 a, .int .i64 n, .slice ao K.length c] w fun e w' => e = .returned (.tuple #[]) ∧ (∃ L', RkL w' D (d.cut a n K) (Gr F w w') L') ∧ Kept F w w' := by
  obtain ⟨i0, hi0, hz0, hz1, hz2⟩ := info_parts infoU
  obtain ⟨c1, c2, c3, c4, c5, c6⟩ := h.cD
  have hk8 := h.ok.k
  have e1 := setR_cell (j := 3) (v := .int .i64 0) h.dk
  have e2 := setR_cell (j := 4) (v := .slice none 0 0) e1
  have hDF := h.ownD
  have hDl := h.lt D hDF
  by_cases cv : 1 ≤ n ∧ d.has a = true
  · obtain ⟨cn, ch⟩ := cv
    obtain ⟨i, rfl, hi⟩ := has_nat ch
    have e3 := setR_cell (j := 2) (v := .int .i64 (i : Int)) e2
    have e4 := setR_cell (j := 3) (v := .int .i64 n) e3
    obtain ⟨w1, hw1⟩ : ∃ w1, w1 = (((w.setCell ⟨D, 3, none⟩ (.int .i64 0)).setCell ⟨D, 4, none⟩ (.slice none 0 0)).setCell ⟨D, 2, none⟩ (.int .i64 (i : Int))).setCell ⟨D, 3, none⟩ (.int .i64 n) := ⟨_, rfl⟩
    rw [← hw1] at e4
    have hs1 : w1.heap.size = w.heap.size := by rw [hw1, setD_size, setD_size, setD_size, setD_size]
    have ho : ∀ k, k ≠ D → w1.heap[k]? = w.heap[k]? := fun k hk => by rw [hw1, setD_other hk, setD_other hk, setD_other hk, setD_other hk]
    have K1 : Kept F w w1 := by rw [hw1]; exact Kept.setCell (Kept.setCell (Kept.setCell (Kept.setCell (Kept.refl _ _) hDF _) hDF _) hDF _) hDF _
    have P1 := h.setD (w' := w1) (G := Gr F w w1) (off := d.off) (ask := some (i, n.toNat, K.take 0)) (ta := (i : Int)) (ka := none) (kc := 0) (by
      rw [e4]
      show some (Obj.cells #[_, _, _, .int .i64 n, .slice none 0 0] _ _) = some (Obj.cells #[_, _, _, .int .i64 ((n.toNat : Nat) : Int), .slice none 0 0] _ _)
      rw [Int.toNat_of_nonneg (by omega)]) (fun k hk _ _ => ho k hk) (fun _ hb => .inl hb) (fun k hk => by
      rcases hk with hk | hk
      · rw [hs1]; exact h.lt k hk
      · exact hk.2) (.inl rfl) (fun a' l' K' e => by simp at e; rw [e.1]) (fun a' l' K' e => by
      simp at e
      obtain ⟨rfl, rfl, rfl⟩ := e
      exact ⟨hi, by omega, fun x hx => by cases hx⟩)
    have hcut : Hid (d.cut (i : Int) n K = { d with ask := some (i, n.toNat, K) }) := by
      show _ = _
      unfold Dk.cut
      rw [if_pos ⟨cn, ch⟩, Int.toNat_natCast]
    have START : Hid (∃ L', w1.ownsRow w.heap.size 49 1 (.slice L'.ka 0 L'.kc) 0 (uc (K.take 0)) ∧ RkL w1 D { d with ask := some (i, n.toNat, K.take 0) } (Gr F w w1) L' ∧ Kept F w w1) := ⟨_, ⟨rfl, .inl ⟨rfl, rfl⟩⟩, P1, K1⟩
    have HW1 := hid hw1.symm
    have hd1 : decide (d.k ≤ i) = false := by simp; omega
    have hd2 : decide ((i : Int) < 0) = false := by simp
    rw [pt_pos _ (by omega), cp_pos _ (by omega)] at c1
    clear ch P1 K1 e1 e2 e3 e4 ho
    go_enter Try.func32, Try.ntmps32
    go_wp2
    rw [HW1.out]
    go_loopw [8] (fun tv wr => ∃ t : Nat, t ≤ K.length ∧ tv = .int .i64 (t : Int) ∧ ∃ L', wr.ownsRow w.heap.size 49 1 (.slice L'.ka t L'.kc) t (uc (K.take t)) ∧ RkL wr D { d with ask := some (i, n.toNat, K.take t) } (Gr F w wr) L' ∧ Kept F w wr) (fun tv _ => K.length - (intOf tv).toNat)
    case atStart => exact ⟨0, Nat.zero_le _, rfl, START.out⟩
    case round =>
      clear START
      obtain ⟨t, ht, rfl, L', own, hd, hkp⟩ := hrel
      by_cases htl : t < K.length
      · obtain ⟨b, o, rfl, q2, q3, q4⟩ := ha t htl
        have r1 := (hkp.cell (p := ⟨b, o + t, none⟩) (by exact q2) (by exact q3)).trans q4
        have r2 := hd.cD.2.2.2.2.1
        have hlen : (K.take t).length = t := by rw [List.length_take]; omega
        have r3 : wr.cell? ⟨D, 4, none⟩ = some (.slice L'.ka t L'.kc) := by
          rw [← hlen]
          exact r2
        have r4 : ∀ o, (wr.alloc o).cell? ⟨D, 4, none⟩ = some (.slice L'.ka t L'.kc) := fun o => (World.cell?_of_block (w := wr) (Below.heap_alloc wr o D (by have := hkp.size; omega))).trans r3
        have OW : Hid (∀ o, (wr.drew.alloc o).ownsRow w.heap.size 49 1 (.slice L'.ka t L'.kc) t (uc (K.take t))) := fun o => World.ownsRow.alloc (w := wr.drew) own o
        have FI := hid (fun (w3 : World) (g cap : Nat) (o : Obj) own3 gr3 => cut_end (w3 := w3) (o := o) (g := g) (cap := cap) htl h64 hd hkp hDF hDl own own3 gr3)
        have hsz := hkp.size
        clear r2 own hd hkp ha q4
        generalize K.getD t 0 = kx at *
        go_wp2_with fail
        go_region_law (refine step_append_lies _ rfl (.tmp 48) (.tmp 53) 31 rfl w.heap.size 49 i0 (.int .u64 0) 1 8 Try.underlying31 hi0 hz0 hz1 hz2 rfl (by decide) _ _ _ rfl (OW.out _) ⟨wr.heap.size, 0, none⟩ 1 1 [.int .u64 kx] rfl rfl (World.news_of_block (heap_alloc_last wr.drew _)) (by intro u hu; simp at hu; subst hu; rfl) (by decide) (by unfold maxLen; omega) (by omega) (by show _ ≤ (World.alloc _ _).heap.size; simp; omega) (wr.heap.size + 1) (by simp) ?_; intro g cap w3 own3 gr3 hg3 hlt3; obtain ⟨⟨f1, f2⟩, f3⟩ := FI.out w3 g cap _ own3 gr3; have F3 := hid f3; clear f3 own3 gr3 hg3 hlt3)
        all_goals try go_wp2
        all_goals go_roundw
        all_goals first | exact ⟨t + 1, by omega, by go_num, F3.out⟩ | (simp [intOf] <;> omega)
      · have hE : t = K.length := by omega
        have hT : K.take t = K := by rw [hE]; exact List.take_length
        rw [hT] at hd
        have FI := hid (And.intro hd hkp)
        clear own hd hkp ha hT
        go_wp2
        go_end0
        obtain ⟨f1, f2⟩ := FI.out
        rw [hcut.out]
        exact ⟨rfl, ⟨L', f1⟩, f2⟩
  · have hcut : d.cut a n K = { d with off := d.off, ask := none } := by unfold Dk.cut; rw [if_neg cv]
    obtain ⟨w0, hw0⟩ : ∃ w0, w0 = (w.setCell ⟨D, 3, none⟩ (.int .i64 0)).setCell ⟨D, 4, none⟩ (.slice none 0 0) := ⟨_, rfl⟩
    rw [← hw0] at e2
    have hs1 : w0.heap.size = w.heap.size := by rw [hw0, setD_size, setD_size]
    have ho : ∀ k, k ≠ D → w0.heap[k]? = w.heap[k]? := fun k hk => by rw [hw0, setD_other hk, setD_other hk]
    have K1 : Kept F w w0 := by rw [hw0]; exact Kept.setCell (Kept.setCell (Kept.refl _ _) hDF _) hDF _
    have P1 := h.setD (w' := w0) (G := F) (off := d.off) (ask := none) (ta := L.ta) (ka := none) (kc := 0) e2 (fun k hk _ _ => ho k hk) (fun _ hb => hb) (fun k hk => by rw [hs1]; exact h.lt k hk) (.inl rfl) (fun a' l' K' e => by cases e) (fun a' l' K' e => by cases e)
    have FI : Hid ((∃ L', RkL w0 D (d.cut a n K) (Gr F w w0) L') ∧ Kept F w w0) := by
      rw [Gr.same hs1, hcut]
      exact ⟨⟨_, P1⟩, K1⟩
    have HW0 := hid hw0.symm
    have c0 : n < 1 ∨ a < 0 ∨ (d.k : Int) ≤ a := by
      by_cases c1 : 1 ≤ n
      · have : ¬ (0 ≤ a ∧ a < d.k) := fun hh => cv ⟨c1, has_iff.2 hh⟩
        omega
      · omega
    clear P1 K1 e1 e2 ho cv hcut ha
    rcases (show a < 0 ∨ (0 ≤ a ∧ (d.k : Int) ≤ a) ∨ (0 ≤ a ∧ a < d.k ∧ n < 1) by omega) with q | q | q
    all_goals
      go_enter Try.func32, Try.ntmps32
      go_wp2
      rw [HW0.out]
      refine bodyPost_ret (results_none rfl _ _ _) rfl ?_
      exact ⟨rfl, FI.out⟩

end Go.Proofs.Ytffhnkljmalbiaa.Wr
