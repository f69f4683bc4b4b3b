/-
  The walk of the document's Flush.
-/
import Derived.Test.YtffhnkljmalbiaaRkD
namespace Go.Proofs.Ytffhnkljmalbiaa.Wr
open Go.ChangeShapes Go.WideShapes Go.ChangeAt Go.RowKit Go.Proofs.Ytffhnkljmalbiaa.M Go.Proofs.Ytffhnkljmalbiaa.Wd

/-- A region being flushed. -/
def fl (d : Dk) (i t : Nat) : Dk := d.at i { d.r i with s := stL (fun _ => true) (d.r i).s (d.r i).q t }
theorem fl_r (d : Dk) (i t : Nat) : (fl d i t).r i = { d.r i with s := stL (fun _ => true) (d.r i).s (d.r i).q t } := upd_at _ _ _
theorem fl_zero (d : Dk) (i : Nat) : fl d i 0 = d := by
  unfold fl
  have e : ({ d.r i with s := stL (fun _ => true) (d.r i).s (d.r i).q 0 } : Rg) = d.r i := rfl
  rw [e]
  unfold Dk.at
  rw [upd_self]
theorem fl_yes (d : Dk) (i t : Nat) : (fl d i t).at i { (fl d i t).r i with s := upd ((fl d i t).r i).s (qx (d.r i).q t).1 (qx (d.r i).q t).2 } = fl d i (t + 1) := by
  rw [fl_r]
  unfold fl
  rw [at_at, stL_yes rfl]
theorem fl_end (d : Dk) (i : Nat) : (fl d i (d.r i).q.length).at i { (fl d i (d.r i).q.length).r i with q := [] } = d.at i ((d.r i).set fun _ => true) := by
  rw [fl_r]
  unfold fl
  rw [at_at]
  rfl

set_option maxRecDepth 100000 in
set_option maxHeartbeats 1000000 in
theorem flushR {w : World} {D : Nat} {d : Dk} {F : Nat → Prop} {L : Lr} (h : RkL w D d F L) (hq : ∀ j, j < d.k → (d.r j).q.length ≤ 1048576) (a : Int) :
    Calls Try.prog 31 #[.pointer (some ⟨D, 0, none⟩), .int .i64 a] w fun e w' => e = .returned (.int .i64 (d.flushE a)) ∧ (∃ L', RkL w' D (d.flush a) F L') ∧ Kept F w w' ∧ w'.heap.size = w.heap.size := by
  obtain ⟨c1, c2, _⟩ := h.cD
  have hk8 := h.ok.k
  have SAME := hid (show (∃ L', RkL w D d F L') ∧ Kept F w w ∧ w.heap.size = w.heap.size from ⟨⟨L, h⟩, Kept.refl _ _, rfl⟩)
  by_cases co : d.off = true
  · have hp : d.preF a = 11 := if_pos co
    have hE : Hid (d.flushE a = 11 ∧ d.flush a = d) := by
      unfold Dk.flushE Dk.flush
      rw [hp]
      exact ⟨rfl, rfl⟩
    rw [co] at c2
    clear co c1 hp
    go_enter Try.func31, Try.ntmps31
    go_wp2
    go_ret
    rw [hE.out.1, hE.out.2]
    exact ⟨rfl, SAME.out.1, SAME.out.2.1, rfl⟩
  · have co' : d.off = false := by simpa using co
    rw [co'] at c2
    by_cases c : d.has a = true
    · obtain ⟨i, rfl, hi⟩ := has_nat c
      have hp : d.preF (i : Int) = 0 := by unfold Dk.preF; rw [co', c]; rfl
      have hE : Hid (d.flushE (i : Int) = if d.now i then 11 else 0) := if_pos hp
      have hD : Hid (d.flush (i : Int) = if d.now i then d.cnt i else (d.cnt i).at i ((d.r i).set fun _ => true)) := if_pos hp
      have CF := hid (failsR h i)
      rw [pt_pos _ (by omega), cp_pos _ (by omega)] at c1
      have hqi := hq i hi
      have hrok := hid (h.ok.r i hi)
      clear c co hp
      cases hn : d.now i
      · rw [hn] at CF hE hD
        have DN := hid (dec_no hn)
        have DQ := hid (dec_q (d := d) (a := i))
        go_enter Try.func31, Try.ntmps31
        go_wp2_with fail
        refine CF.out.mono ?_
        rintro e w1 ⟨rfl, m1, m2, _, m4⟩
        have DR := DQ.out
        rw [DN.out] at m1 DR
        generalize d.cnt i = d1 at *
        have hk1 : d1.k = d.k := DR.2
        have hr1 : d1.r i = d.r i := by rw [DR.1]
        have cc1 := m1.cD.1
        rw [hk1, pt_pos _ (by omega), cp_pos _ (by omega)] at cc1
        have r1 := m1.cR (i := i) (by omega)
        have M0 := hid (show RkL w1 D (fl d1 i 0) F L ∧ Kept F w w1 ∧ w1.heap.size = w.heap.size from ⟨by rw [fl_zero]; exact m1, m2, m4⟩)
        have HH := hid (And.intro hk1 hr1)
        clear m1 m2 m4 DR DQ DN
        rw [← hr1] at hqi hrok
        have hD2 : Hid (d.flush (i : Int) = d1.at i ((d1.r i).set fun _ => true)) := by show _ = _; rw [hD.out, hr1]; rfl
        have hi1 : i < d1.k := by omega
        clear hD hk1 hr1
        go_wp2
        go_loopw [7] (fun tv wk => ∃ t : Nat, t ≤ (d1.r i).q.length ∧ tv = .int .i64 (t : Int) ∧ RkL wk D (fl d1 i t) F L ∧ Kept F w wk ∧ wk.heap.size = w.heap.size) (fun tv _ => (d1.r i).q.length - (intOf tv).toNat)
        case atStart => exact ⟨0, Nat.zero_le _, rfl, M0.out⟩
        case round =>
          clear M0
          obtain ⟨t, ht, rfl, hm, hkp, hsz⟩ := hrel
          obtain ⟨g1, g2, g3⟩ := hm.cG (i := i) hi1
          rw [fl_r] at g1 g2
          dsimp only at g1 g2
          by_cases htl : t < (d1.r i).q.length
          · rw [pt_pos (n := (d1.r i).q.length) _ (by omega), cp_pos (n := (d1.r i).q.length) _ (by omega)] at g2
            have hx := hid ((hrok.out).q _ (qx_mem htl))
            have q12 := hm.cQ (i := i) hi1 (t := t) (by rw [fl_r]; exact htl)
            rw [fl_r] at q12
            dsimp only at q12
            obtain ⟨q1, q2⟩ := q12
            obtain ⟨l1, l2⟩ := hm.cL (i := i) hi1 (k := (qx (d1.r i).q t).1) (by rw [fl_r]; exact hx.out.1)
            have LAST := hm.drew.last (i := i) hi1 (k := (qx (d1.r i).q t).1) (by rw [fl_r]; exact hx.out.1) (x := (qx (d1.r i).q t).2) hx.out.2
            rw [fl_yes] at LAST
            have LL := hid LAST
            have HKN := hid (And.intro hkp hsz)
            have hnp : 0 < (d1.r i).n := by have := hx.out.1; omega
            rw [pt_pos (n := (d1.r i).n) _ hnp, cp_pos (n := (d1.r i).n) _ hnp] at g1
            have hsl := hx.out.1
            have hn4 := (hrok.out).n
            clear hkp hm LAST hx
            generalize (qx (d1.r i).q t).1 = sx at *
            generalize (qx (d1.r i).q t).2 = dx at *
            go_wp2_with fail
            go_region
            all_goals try go_wp2
            all_goals go_roundw
            case rel =>
              obtain ⟨k1, k2, k3⟩ := LL.out
              refine ⟨t + 1, by omega, by go_num, k1, ?_, ?_⟩
              · have e0 : Gr F w wr.drew = F := Gr.same HKN.out.2
                exact (HKN.out.1.drew).trans (by rw [e0]; exact k2)
              · show (wr.setCell _ _).heap.size = _
                rw [setD_size]; exact HKN.out.2
            case measure => simp [intOf] <;> omega
          · have hE2 : t = (d1.r i).q.length := by omega
            have Q := hm.qnil (i := i) hi1
            rw [hE2, fl_end] at Q
            have QQ := hid Q
            have HKN := hid (And.intro hkp hsz)
            clear Q hkp hm
            go_wp2
            go_ret
            obtain ⟨k1, k2, k3⟩ := QQ.out
            rw [hE.out, hD2.out]
            refine ⟨rfl, ⟨L, k1⟩, ?_, ?_⟩
            · have e0 : Gr F w wr = F := Gr.same HKN.out.2
              exact HKN.out.1.trans (by rw [e0]; exact k2)
            · rw [setD_size]; exact HKN.out.2
      · rw [hn] at CF hE hD
        have DY := hid (dec_yes hn)
        have DQ := dec_q (d := d) (a := i)
        go_enter Try.func31, Try.ntmps31
        go_wp2_with fail
        refine CF.out.mono ?_
        rintro e w4 ⟨rfl, m1, m2, _, m4⟩
        have c5 := m1.cD.2.2.2.2.1
        have CL := hid (loseR m1 (fun j hj => by rw [DQ.1]; rw [DQ.2] at hj; exact hq j hj) m1.kr.kr (K := aK (dec d i).ask) (by
          rcases ha : (dec d i).ask with _ | ⟨b', l', K'⟩
          · exact fun y hy => by cases hy
          · exact (m1.ok.ask b' l' K' ha).2.2) L.kc)
        rw [DY.out] at CL
        have MM := hid (And.intro m2 m4)
        clear m1 m2 m4 DQ
        generalize (aK (dec d i).ask).length = kl at *
        go_wp2_with fail
        refine CL.out.mono ?_
        rintro e w5 ⟨rfl, n1, n2, _, n4⟩
        have NN := hid (And.intro n1 (And.intro n2 n4))
        clear n1 n2 n4
        go_wp2
        go_ret
        obtain ⟨m2, m4⟩ := MM.out
        obtain ⟨n1, n2, n4⟩ := NN.out
        rw [hE.out, hD.out]
        have e0 : Gr F w w4 = F := Gr.same m4
        exact ⟨rfl, n1, m2.trans (by rw [e0]; exact n2), n4.trans m4⟩
    · have hp : d.preF a = 10 := by unfold Dk.preF; rw [co', if_neg c]; rfl
      have hE : Hid (d.flushE a = 10 ∧ d.flush a = d) := by
        unfold Dk.flushE Dk.flush
        rw [hp]
        exact ⟨rfl, rfl⟩
      have c0 : ¬ (0 ≤ a ∧ a < d.k) := fun h => c (has_iff.2 h)
      clear c hp co
      rcases Int.lt_or_le a 0 with h0 | h0
      all_goals
        go_enter Try.func31, Try.ntmps31
        go_wp2
        go_ret
        rw [hE.out.1, hE.out.2]
        exact ⟨rfl, SAME.out.1, SAME.out.2.1, rfl⟩

end Go.Proofs.Ytffhnkljmalbiaa.Wr
