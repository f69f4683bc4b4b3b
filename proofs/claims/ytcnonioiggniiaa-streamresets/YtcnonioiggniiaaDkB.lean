/-
  The walks of a region's read, settle and lay: read answers what the region as plain data says; settle lays the writes that are kept over what lasts; lay lays a text. The rest of the disk is as it was.
-/
import Derived.Test.YtcnonioiggniiaaDkA
import Derived.Deep.RegionWith
import Derived.Deep.QuietTactic
import Derived.BigRegion
namespace Go.Proofs.Ytcnonioiggniiaa.Wd
open Go.ChangeShapes Go.WideShapes Go.ChangeAt Go.RowKit Go.Proofs.Ytcnonioiggniiaa.M

theorem DkL.drew {w : World} {D : Nat} {d : Dk} {F : Nat → Prop} {L : Ly} (h : DkL w D d F L) : DkL w.drew D d F L := h.kept (Nat.le_refl _) fun _ _ => rfl

theorem take_get {l : List Value} {m : Nat} {q : List Value} (h : l.take m = q) {j : Nat} (hj : j < m) : l[j]? = q[j]? := by
  rw [← h, List.getElem?_take, if_pos hj]

/-- The cells of a queue. -/
theorem DkL.cQ {w : World} {D : Nat} {d : Dk} {F : Nat → Prop} {L : Ly} (h : DkL w D d F L) {i : Nat} (hi : i < d.k) {t : Nat} (ht : t < (d.r i).q.length) :
    w.cell? ⟨L.qb i, t * 65, none⟩ = some (.int .i64 ((qx (d.r i).q t).1 : Int)) ∧ (∀ j, j < 64 → w.cell? ⟨L.qb i, t * 65 + 1 + j, none⟩ = some (.int .u8 (bt (qx (d.r i).q t).2 j))) := by
  obtain ⟨l, h1, h2, h3, h4, h5⟩ := h.qb i hi (by omega)
  refine ⟨blk_cell h1 ?_, fun j hj => blk_cell h1 ?_⟩
  · rw [take_get h5 (by omega), Nat.mul_comm t 65]
    exact qc_sec _ _ ht
  · rw [take_get h5 (by omega), Nat.mul_comm t 65]
    exact qc_byte _ _ _ ht hj

/-- A write's bytes as a text. -/
theorem DkL.convQ {w : World} {D : Nat} {d : Dk} {F : Nat → Prop} {L : Ly} (h : DkL w D d F L) {i : Nat} (hi : i < d.k) {t : Nat} (ht : t < (d.r i).q.length) :
    (convert 67 9 (.slice (some ⟨L.qb i, t * 65 + 1, none⟩) 64 64)).run Try.prog w = .ok (.string (qx (d.r i).q t).2) w := by
  have hs := ((h.ok.r i hi).q _ (qx_mem ht)).2
  have := run_convert_bytes_arg (P := Try.prog) (w := w) 67 5 Try.underlying67 Try.underlying5 (L.qb i) (t * 65 + 1) 64 64 ((List.range 64).map fun j => bt (qx (d.r i).q t).2 j) (by simp) (fun j hj => by
    rw [(h.cQ hi ht).2 j hj]
    simp [List.getD, hj]) 9 Try.underlying9
  rw [str_dc _ hs] at this
  exact this
/-- A sector's lasting bytes as a text. -/
theorem DkL.convL {w : World} {D : Nat} {d : Dk} {F : Nat → Prop} {L : Ly} (h : DkL w D d F L) {i : Nat} (hi : i < d.k) {s : Nat} (hs : s < (d.r i).n) (c : Nat) :
    (convert 67 9 (.slice (some ⟨L.lb i, s * 64, none⟩) 64 c)).run Try.prog w = .ok (.string ((d.r i).s s)) w := by
  have := run_convert_bytes_arg (P := Try.prog) (w := w) 67 5 Try.underlying67 Try.underlying5 (L.lb i) (s * 64) 64 c ((List.range 64).map fun j => bt ((d.r i).s s) j) (by simp) (fun j hj => by
    rw [blk_cell (h.lb i hi) (lc_get _ _ (s * 64 + j) (by omega))]
    have e1 : (s * 64 + j) / 64 = s := by omega
    have e2 : (s * 64 + j) % 64 = j := by omega
    rw [e1, e2]
    simp [List.getD, hj]) 9 Try.underlying9
  rw [str_dc _ ((h.ok.r i hi).s s)] at this
  exact this
/-- All of a region's lasting bytes as a text. -/
theorem DkL.convI {w : World} {D : Nat} {d : Dk} {F : Nat → Prop} {L : Ly} (h : DkL w D d F L) {i : Nat} (hi : i < d.k) :
    (convert 67 9 (.slice (some ⟨L.lb i, 0, none⟩) (64 * (d.r i).n) (64 * (d.r i).n))).run Try.prog w = .ok (.string (img (d.r i).s (d.r i).n)) w := by
  have := run_convert_bytes_arg (P := Try.prog) (w := w) 67 5 Try.underlying67 Try.underlying5 (L.lb i) 0 (64 * (d.r i).n) (64 * (d.r i).n) ((List.range (64 * (d.r i).n)).map fun j => bt ((d.r i).s (j / 64)) (j % 64)) (by simp) (fun j hj => by
    rw [Nat.zero_add, blk_cell (h.lb i hi) (lc_get _ _ j hj)]
    simp [List.getD, hj]) 9 Try.underlying9
  rw [str_img] at this
  exact this

set_option maxRecDepth 100000 in
theorem read {w : World} {D : Nat} {d : Dk} {F : Nat → Prop} {L : Ly} (h : DkL w D d F L) {i : Nat} (hi : i < d.k) {s : Nat} (hs : s < (d.r i).n) (hq : (d.r i).q.length ≤ 1048576) :
    Calls Try.prog 65 #[rp L i, .int .i64 (s : Int)] w fun e w' => e = .returned (.string ((d.r i).rd s)) ∧ w = w' := by
  obtain ⟨c1, c2, c3⟩ := h.cR hi
  have hn := (h.ok.r i hi).n
  have CA : Hid _ := fun w h => at_ (w := w) (D := D) (F := F) (L := L) (d := d) h hi hs
  have cI := h.convL hi hs
  unfold rp qv at *
  go_enter Try.func65, Try.ntmps65
  go_wp2
  go_loop [5] (fun iv => ∃ j : Nat, j ≤ (d.r i).q.length ∧ iv = .int .i64 ((j : Int) - 1) ∧ ∀ t, j ≤ t → t < (d.r i).q.length → (qx (d.r i).q t).1 ≠ s) (fun iv => (intOf iv + 1).toNat)
  case atStart => exact ⟨_, Nat.le_refl _, rfl, fun t h1 h2 => absurd h2 (by omega)⟩
  case round =>
    obtain ⟨j, hj, hiv, hno⟩ := hrel
    have HN : Hid _ := hno
    clear hno
    rcases j with _ | t
    · subst hiv
      have hR : Hid ((d.r i).rd s = (d.r i).s s) := rdk_none _ _ 0 _ (Nat.zero_le _) HN.out
      go_wp2_with fail
      refine (CA.out _ h).mono ?_
      rintro e w1 ⟨rfl, rfl⟩
      go_wp2
      go_ret
      exact ⟨by rw [hR.out]; rfl, rfl⟩
    · have e1 : ((t + 1 : Nat) : Int) - 1 = (t : Int) := by omega
      rw [e1] at hiv
      subst hiv
      obtain ⟨q1, q2⟩ := h.cQ hi (t := t) (by omega)
      have q3 := h.convQ hi (t := t) (by omega)
      rw [pt_pos _ (by omega), cp_pos _ (by omega)] at c2
      by_cases c : (qx (d.r i).q t).1 = s
      · have hR : Hid ((d.r i).rd s = (qx (d.r i).q t).2) := (rdk_none _ _ (t + 1) _ hj HN.out).trans (rdk_hit _ _ _ c)
        rw [c] at q1
        clear q2 e1 c
        generalize (qx (d.r i).q t).2 = x at q3 hR
        go_wp2
        go_ret
        exact ⟨by rw [hR.out]; rfl, rfl⟩
      · have hne : ¬ (((qx (d.r i).q t).1 : Int) = (s : Int)) := by omega
        have HNo : Hid (∀ t', t ≤ t' → t' < (d.r i).q.length → (qx (d.r i).q t').1 ≠ s) := fun t' h1 h2 => by
          by_cases ct : t' = t
          · rw [ct]; exact c
          · exact HN.out t' (by omega) h2
        clear q2 e1 c q3
        generalize (qx (d.r i).q t).1 = x at q1 hne
        go_wp2
        go_round
        case rel => exact ⟨t, by omega, by go_num, HNo.out⟩
        case measure => simp [intOf] <;> omega

end Go.Proofs.Ytcnonioiggniiaa.Wd
