/-
  The walk of the law GrantMutual: those that can be come to come to just the same, and one edge more takes none of them away: it returns true, and nothing that was in memory has turned. Conditions: none but that the arguments lie in memory as such do.
-/
import Derived.Test.YtpbbamoeaalolaaGtRs
namespace Go.Proofs.Ytpbbamoeaalolaa.Wg
open Go.ChangeShapes Go.WideShapes Go.ChangeAt Go.RowKit Go.Proofs.Ytpbbamoeaalolaa.M Go.Maps

theorem isr_i64 {es : List Ed} {f : Int} {R : List Int} (h : IsR es f R) (hf : I64 f) (hok : ∀ e ∈ es, EOk e) : ∀ x ∈ R, I64 x := fun x hx => by
  have := con_ends ((h.mem x).1 hx)
  rcases List.mem_cons.1 this with rfl | hm
  · exact hf
  · unfold ends at hm
    obtain ⟨e, he, h'⟩ := List.mem_flatMap.1 hm
    simp at h'
    rcases h' with rfl | rfl
    · exact (hok e he).a
    · exact (hok e he).b
theorem isr_more {es : List Ed} {f : Int} {R S : List Int} {e : Ed} (h : IsR es f R) (k : IsR (es ++ [e]) f S) : ∀ x ∈ R, x ∈ S := fun x hx => (k.mem x).2 (((h.mem x).1 hx).mono fun _ he => List.mem_append.2 (.inl he))
theorem zeroI (w : World) : (zeroValue 3).run Try.prog w = .ok (.int .i64 0) w := by kernel_rfl
/-- How often a number was met. -/
def Mt (D : DataW Unit) (S : List Int) : Prop := ∀ x, I64 x → D.atKey (.int .i64 x) (.lit (.int .i64 0)) = .lit (.int .i64 (if x ∈ S then 1 else 0))
theorem mt_nil : Mt (.map []) [] := fun _ _ => rfl
theorem mt_at {D : DataW Unit} {S : List Int} (h : Mt D S) {x c : Int} (hx : I64 x) (hat : D.atKey (.int .i64 x) (.lit (.int .i64 0)) = .lit (.int .i64 c)) : c = if x ∈ S then 1 else 0 := by
  rw [h x hx] at hat
  injection hat with e
  injection e with _ e
  exact e.symm
theorem mt_put {D : DataW Unit} {S : List Int} (h : Mt D S) (hm : IsMap D) {x : Int} : Mt (D.put (.int .i64 x) (.lit (.int .i64 1))) (S ++ [x]) := fun y hy => by
  by_cases e : y = x
  · subst e
    rw [atKey_put_same hm (show WideAt.IsKeyLit (.int .i64 y) from trivial), if_pos (by simp)]
  · rw [atKey_put_other (litI_ne e), h y hy]
    simp [e]
theorem not_before {R : List Int} (h : R.Nodup) {j : Nat} {x : Int} (hx : R[j]? = some x) : x ∉ R.take j := fun hm => by
  rw [← List.take_append_drop j R, List.nodup_append] at h
  exact h.2.2 x hm x (List.mem_of_getElem? (i := 0) (by rw [List.getElem?_drop]; exact hx)) rfl
def mO (a b : Int) : Obj := .cells #[.int .i64 a, .int .i64 b] 51

set_option maxRecDepth 100000 in
set_option maxHeartbeats 3200000 in
theorem mutually (f : Int) (p : Option Addr) (n cap : Nat) (A : Nat → Ed) (ea eb : Int) (w : World) (hf1 : -9223372036854775808 ≤ f) (hf2 : f < 9223372036854775808) (hc : n ≤ cap) (_ : cap ≤ maxLen) (hA : Eds w p n A) (hab : EOk (ea, eb)) :
    Calls Try.prog 7 #[.int .i64 f, .slice p n cap, .agg #[.int .i64 ea, .int .i64 eb]] w fun e w' => e = .returned (.bool true) ∧ Below w.heap.size w w' := by
  have k1' : min (n : Int) 40 = ((min n 40 : Nat) : Int) := by omega
  obtain ⟨kk, hkk⟩ : ∃ k, k = min n 40 := ⟨_, rfl⟩
  have hkk1 : kk ≤ 40 := by omega
  have hkk2 : kk ≤ n := by omega
  rw [← hkk] at k1'
  clear hkk
  have HA := hid hA
  have HO := hid (edl_ok hA hkk2)
  have HF : Hid (I64 f) := ⟨hf1, hf2⟩
  have WK := hid Wg.wakes
  have hmm := @run_makeMap Try.prog
  obtain ⟨i0, hi, hz0, hz1, hz2⟩ := info_parts infoE
  have hb0 : (w.alloc (mO ea eb)).heap[w.heap.size]? = some (mO ea eb) := heap_alloc_new w _
  have bw0 : Below w.heap.size w (w.alloc (mO ea eb)) := (Below.refl _ _).alloc (Nat.le_refl _) _
  clear hA hf1 hf2
  go_enter Try.func7, Try.ntmps7
  go_wp2
  go_loopw [7, 26] (fun v i wr => ∃ m : Nat, i = .int .i64 m ∧ m ≤ kk ∧ wr.ownsRow (w.heap.size + 1) 52 2 v (edl A m).length ((edl A m).flatMap eC) ∧ Below w.heap.size w wr ∧ Hid (wr.heap[w.heap.size]? = some (mO ea eb))) (fun _ i _ => kk - (intOf i).toNat)
  case atStart => exact ⟨0, rfl, Nat.zero_le _, World.ownsRow_nil _ _ _ _, bw0, hb0⟩
  case round =>
    clear hb0 bw0
    obtain ⟨m, rfl, hm, own, bw, hbx⟩ := hrel
    have hb1 := blk_lt hbx.out
    by_cases cm : m < kk
    · obtain ⟨hA1, hA2⟩ := HA.out
      rcases hA2 with hA2 | ⟨b, o, rfl, q3, q4⟩
      · omega
      have y0 := (bw.cell (p := ⟨b, o + m * 2 + 0, none⟩) q3).trans (q4 m (by omega) 0 _ rfl)
      have y1 := (bw.cell (p := ⟨b, o + m * 2 + 1, none⟩) q3).trans (q4 m (by omega) 1 _ rfl)
      rw [Nat.add_zero] at y0
      have hs := hid (edl_succ A m)
      have hll : Hid ((edl A m).length = m) := length_edl A m
      generalize A m = x at y0 y1 hs
      have bz := bw.size
      have lo := fun k hk => (own.lt k hk).1
      clear hA1 q4 HA HO
      go_wp2_with (first | (at_builtin; refine wpList_append_own _ rfl _ _ 50 rfl (w.heap.size + 1) 52 i0 (.agg #[.int .i64 0, .int .i64 0]) 2 16 Try.underlying50 hi hz0 hz1 hz2 rfl (by decide) _ _ _ rfl ((own.alloc _).alloc _) ⟨wr.heap.size + 1, 0, none⟩ 1 1 (eC x) rfl rfl (two_newS (by simp) _ _ _) (eC_one x) (by rw [hll.out]; unfold maxLen; omega) (by rw [hll.out]; omega) (by simp; omega) ?_; intro v4 w4 o4 g4 n4; go_frame))
      have b4 : Below w.heap.size w w4 := ((bw.alloc bw.size _).alloc (by simp; omega) _).grown g4 (by simp; omega) (fun j hj => by have := lo j hj; omega)
      have hbx4 : Hid (w4.heap[w.heap.size]? = some (mO ea eb)) := (g4.block _ (by simp; omega) (fun e => by have := lo _ e.symm; omega)).trans ((heap_alloc_old (wr.alloc _) _ (by simp; omega)).trans ((heap_alloc_old wr _ hb1).trans hbx.out))
      have o5 := ownE_more o4
      rw [← hs.out] at o5
      go_roundw
      case rel => exact ⟨m + 1, by go_num, cm, o5, b4, hbx4⟩
      case measure => simp [intOf]; omega
    · have hmk : m = kk := by omega
      subst hmk
      obtain ⟨a, cap1, rfl, _, hE⟩ := own_eds own
      have hl := length_edl A m
      have hl40 : (edl A m).length ≤ 40 := by omega
      have lo := hid fun k hk => own.lt k hk
      have OW := hid own
      have RG := hid fun (W : World) (b : Below wr.heap.size wr W) (x : Int) (hx : I64 x) => reach (w := W) (cap := cap1) x hx HO.out (hE.below b) (by omega)
      have HO' := HO
      generalize edl A m = es at RG OW HO' lo hl40 ⊢
      have hesl := hid hl40
      clear hl own hE HA HO hl40
      go_wp2_with fail
      refine (RG.out wr (Below.refl _ _) f HF.out).mono ?_
      intro e w1 h1
      unfold ReachP at h1
      obtain ⟨R, g, cp, h2, rfl, h3, hg0, h5, h6, h7, b1⟩ := h1
      have hRl : R.length ≤ 9223372036854775807 := by unfold maxLen at h7; omega
      have IR := hid h2
      have RD := hid h3
      have H64 := hid (isr_i64 h2 HF.out HO'.out)
      clear h2 h3
      go_wp2
      go_loopw [12, 13, 14, 40] (fun _ _ _ i wr => ∃ n : Nat, n ≤ R.length ∧ i = .int .i64 n ∧ Below w1.heap.size w1 wr) (fun _ _ _ i _ => R.length - (intOf i).toNat)
      case atStart => exact ⟨0, Nat.zero_le _, rfl, Below.refl _ _⟩
      case round =>
        rename World => wo
        obtain ⟨n, hn, rfl, bo⟩ := hrel
        by_cases cn : n < R.length
        · obtain ⟨x, hx⟩ : ∃ x, R[n]? = some x := ⟨R[n], List.getElem?_eq_getElem cn⟩
          have y0 := (bo.cell (p := ⟨g, n, none⟩) h5).trans (RD.out n x hx)
          have hxR := List.mem_of_getElem? hx
          have RB := hid (RG.out wo (b1.trans (bo.mono b1.size)) x (H64.out x hxR))
          have IB := hid (IR.out.back hxR)
          clear hx hxR RG
          go_wp2_with fail
          refine RB.out.mono ?_
          intro e w2 h1
          unfold ReachP at h1
          obtain ⟨R', g', cp', k2, rfl, k3, _, k5, _, _, b2⟩ := h1
          have e := IB.out.one k2
          subst e
          have r2 := hid k3
          have bo2 := hid (bo.trans (b2.mono bo.size))
          clear k2 k3 RB IB
          go_wp2
          go_loopw [14, 54] (fun _ i wr => ∃ n : Nat, n ≤ R.length ∧ i = .int .i64 n ∧ ∃ q, wr = w2.drewN q) (fun _ i _ => R.length - (intOf i).toNat)
          case atStart => exact ⟨0, Nat.zero_le _, rfl, 0, rfl⟩
          case round =>
            obtain ⟨j, hj, rfl, q, rfl⟩ := hrel
            by_cases c : j < R.length
            · obtain ⟨z, hz⟩ : ∃ z, R[j]? = some z := ⟨R[j], List.getElem?_eq_getElem c⟩
              have z0 := (bo2.out.cell (p := ⟨g, j, none⟩) h5).trans (RD.out j z hz)
              have z1 := r2.out j z hz
              clear hz
              go_wp2
              go_quiet (fail)
              go_wp2
              go_roundw
              case rel => exact ⟨j + 1, c, by go_num, _, rfl⟩
              case measure => simp [intOf]; omega
            · go_wp2
              go_roundw
              case rel => exact ⟨n + 1, cn, by go_num, ⟨bo2.out.os, bo2.out.tape, bo2.out.output, bo2.out.size, bo2.out.block⟩⟩
              case measure => simp [intOf]; omega
        · have bwo := b1.trans (bo.mono b1.size)
          have own' := own_below OW.out bwo
          have hbo := (bwo.block _ hb1).trans hbx.out
          have e0 := blk_cell (l := [.int .i64 ea, .int .i64 eb]) hbo (i := 0) rfl
          have e1 := blk_cell (l := [.int .i64 ea, .int .i64 eb]) hbo (i := 1) rfl
          have hzo := bwo.size
          have hzw := bw.size
          have hltb : w.heap.size < wo.heap.size := by omega
          have h1o := bo.size
          have rdo : Hid (RdI wo g R) := fun i x hx => (bo.cell (p := ⟨g, i, none⟩) h5).trans (RD.out i x hx)
          have EO := hid fun e he => (List.mem_append.1 he).elim (HO'.out e) (fun h : e ∈ [(ea, eb)] => by simp at h; subst h; exact hab)
          have hes := hesl.out
          have bo0 := hid (bw.trans (bwo.mono hzw))
          clear RG RD bo bwo hbx hbo OW HO' b1
          go_wp2_with (first | (at_builtin; refine wpList_append_own _ rfl _ _ 50 rfl (w.heap.size + 1) 52 i0 (.agg #[.int .i64 0, .int .i64 0]) 2 16 Try.underlying50 hi hz0 hz1 hz2 rfl (by decide) _ _ _ rfl ((own'.alloc _).alloc _) ⟨wo.heap.size + 1, 0, none⟩ 1 1 (eC (ea, eb)) rfl rfl (two_newS (by simp) _ _ _) (eC_one _) (by unfold maxLen; omega) (by omega) (by simp; omega) ?_; intro v4 w4 o4 g4 n4; obtain ⟨a4, c4, rfl, _, hE4⟩ := own_eds (ownE_more o4); go_frame))
          have z4 := g4.size
          have RN : Hid (Calls Try.prog 21 #[.int .i64 f, .slice a4 (es.length + 1) c4] w4 fun e w' => ReachP w4 w' (es ++ [(ea, eb)]) f e) := by
            have h := reach (w := w4) (cap := c4) f HF.out EO.out hE4 (by simp; omega)
            rw [List.length_append] at h
            exact h
          have map4 := hid (((World.ownsMap_made (H := Unit) wo Try.prog 3 (plainElem Try.prog 3)).alloc _).kept g4 (fun e => by have := lo.out _ e.symm; omega))
          have rd4 : Hid (RdI w4 g R) := fun i x hx => (World.cell?_of_block (w := wo) ((g4.block g (by simp; omega) (fun e => by have := lo.out _ e.symm; omega)).trans ((heap_alloc_old (wo.alloc _) _ (by simp; omega)).trans (heap_alloc_old wo _ (by omega))))).trans (rdo.out i x hx)
          have b4 : Hid (Below w.heap.size w w4) := ((bo0.out.alloc bo0.out.size _).alloc (by have := bo0.out.size; simp; omega) _).grown g4 (by have := bo0.out.size; simp; omega) (fun j hj => by have := lo.out j hj; omega)
          simp at z4
          clear own' e0 e1 rdo o4 g4 n4 hE4 bo0 lo
          go_wp2_with fail
          refine RN.out.mono ?_
          intro e w5 h1
          unfold ReachP at h1
          obtain ⟨R5, g5, cp5, k2, rfl, k3, hg5, k5, k6, k7, b5⟩ := h1
          have hR5 : R5.length ≤ cp5 := k6
          have hcp5 : cp5 ≤ 9223372036854775807 := by unfold maxLen at k7; omega
          have map5 := hid (map4.out.kept (grown_of b5) (by simp))
          have rd5 : Hid (RdI w5 g R) := fun i x hx => (b5.cell (p := ⟨g, i, none⟩) (by show g < _; omega)).trans (rd4.out i x hx)
          have b5' := hid (b4.out.trans (b5.mono b4.out.size))
          have z5 := b5.size
          have RD5 := hid k3
          have IM := hid (isr_more IR.out k2)
          have H5 := hid (isr_i64 k2 HF.out EO.out)
          have N5 := hid (rise_nodup k2.rise)
          have S5 := hid (IM.out _ IR.out.self)
          clear RN map4 rd4 b4 k2 k3 b5 k7 EO
          go_wp2
          go_loopw [17, 76] (fun _ i wr => ∃ (j : Nat) (D : DataW Unit), i = .int .i64 j ∧ j ≤ R5.length ∧ wr.ownsMap (H := Unit) Try.prog 3 (plainElem Try.prog 3) wo.heap.size j D ∧ Hid (Mt D (R5.take j)) ∧ w5.grownBy wr (some wo.heap.size)) (fun _ i _ => R5.length - (intOf i).toNat)
          case atStart => exact ⟨0, _, rfl, Nat.zero_le _, map5.out, mt_nil, ⟨rfl, rfl, rfl, Nat.le_refl _, fun _ _ _ => rfl⟩⟩
          case round =>
            rename World => wi
            clear map5
            obtain ⟨j, D, rfl, hj, hm, hMt, gb⟩ := hrel
            by_cases cj : j < R5.length
            · obtain ⟨x, hx⟩ : ∃ x, R5[j]? = some x := ⟨R5[j], List.getElem?_eq_getElem cj⟩
              have y0 := (World.cell?_of_block (w := w5) (a := ⟨g5, j, none⟩) (gb.block g5 k5 (fun e => by injection e with e; omega))).trans (RD5.out j x hx)
              have hx64 := H5.out x (List.mem_of_getElem? hx)
              have hnx := not_before N5.out hx
              have hPut : Hid (Mt (D.put (.int .i64 x) (.lit (.int .i64 1))) (R5.take (j + 1))) := by
                rw [List.take_add_one, hx]
                exact mt_put hMt.out hm.isMap
              have hc0 : Hid (∀ c, D.atKey (.int .i64 x) (.lit (.int .i64 0)) = .lit (.int .i64 c) → c = 0) := fun c hat => by
                have := mt_at hMt.out hx64 hat
                rw [if_neg hnx] at this
                exact this
              clear hx hnx hMt
              go_wp2_with (first
                | (at_lookup; refine wpList_lookup_own_int _ rfl _ _ 57 rfl 3 3 .i64 lawI Try.underlying57 Try.underlying3 (zeroI _) wo.heap.size j _ rfl hm _ _ rfl (keyI hx64) ?_; intro c hat hwc; have hcc := hid (hc0.out c hat))
                | (at_mapUpdate; refine wpList_mapUpdate_own _ rfl _ _ _ 57 rfl 3 3 lawI Try.underlying57 _ wo.heap.size j _ rfl hm (by unfold maxLen; omega) _ _ _ rfl rfl (keyI hx64) _ [] (plainElem_int Try.underlying3 (wrap64_wf _)) ?_; intro w6 hown6 hg6)
                | go_in)
              have hPut' := hPut.out
              have h01 : wrap64 (c + 1) = 1 := by rw [hcc.out]; first | (unfold wrap64; decide) | (unfold wrap64; rfl) | (simp [wrap64]) | (unfold wrap64; omega) | kernel_rfl
              rw [h01] at hown6
              go_roundw
              case rel => exact ⟨j + 1, _, by go_num, cj, hown6, hPut', gb.trans hg6⟩
              case measure => simp [intOf]; omega
            · have hjj : j = R5.length := by omega
              subst hjj
              have hMt' := hMt.out
              rw [List.take_of_length_le (Nat.le_refl _)] at hMt'
              have MT := hid hMt'
              have HM := hid hm
              have rd6 : Hid (RdI wi g R) := fun i x hx => (World.cell?_of_block (w := w5) (a := ⟨g, i, none⟩) (gb.block g (by omega) (fun e => by injection e with e; omega))).trans (rd5.out i x hx)
              have b6 : Hid (Below w.heap.size w wi) := b5'.out.grown gb b5'.out.size (fun j hj => by injection hj with e; omega)
              clear hMt hMt' hm gb rd5 RD5 b5' H5 N5
              go_wp2
              go_loopw [19, 87] (fun _ i wr => ∃ n : Nat, n ≤ R.length ∧ i = .int .i64 n ∧ wr = wi) (fun _ i _ => R.length - (intOf i).toNat)
              case atStart => exact ⟨0, Nat.zero_le _, rfl, rfl⟩
              case round =>
                obtain ⟨q, hq, rfl, rfl⟩ := hrel
                by_cases cq : q < R.length
                · obtain ⟨x, hx⟩ : ∃ x, R[q]? = some x := ⟨R[q], List.getElem?_eq_getElem cq⟩
                  have hxR := List.mem_of_getElem? hx
                  have hx64 := H64.out x hxR
                  have y0 := rd6.out q x hx
                  obtain ⟨c, hrun, hat, _⟩ := HM.out.lookup_int lawI Try.underlying57 Try.underlying3 (zeroI _) (keyI hx64)
                  have hc1 := mt_at MT.out hx64 hat
                  rw [if_pos (IM.out x hxR)] at hc1
                  subst hc1
                  clear hx hat hxR
                  go_wp2
                  go_roundw
                  case rel => exact ⟨q + 1, cq, by go_num, trivial⟩
                  case measure => simp [intOf]; omega
                · clear rd6 IM
                  go_wp2_with fail
                  refine (WK.out _).mono ?_
                  rintro e w7 ⟨rfl, b7⟩
                  obtain ⟨c, hrun, hat, _⟩ := (HM.out.kept (grown_of b7) (by simp)).lookup_int lawI Try.underlying57 Try.underlying3 (zeroI _) (keyI HF.out)
                  have hc1 := mt_at MT.out HF.out hat
                  rw [if_pos S5.out] at hc1
                  subst hc1
                  have bF := hid (b6.out.trans (b7.mono b6.out.size))
                  clear hat b6 b7 HM MT
                  go_wp2
                  go_ret
                  exact ⟨rfl, bF.out⟩

end Go.Proofs.Ytpbbamoeaalolaa.Wg
