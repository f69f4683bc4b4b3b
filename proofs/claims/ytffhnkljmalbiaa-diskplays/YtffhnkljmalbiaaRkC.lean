/-
  The walk of the document's Lose: a loss of power settles every region by the numbers' bits; the power is off.
-/
import Derived.Test.YtffhnkljmalbiaaRkB
namespace Go.Proofs.Ytffhnkljmalbiaa.Wr
open Go.ChangeShapes Go.WideShapes Go.ChangeAt Go.RowKit Go.Proofs.Ytffhnkljmalbiaa.M Go.Proofs.Ytffhnkljmalbiaa.Wd

theorem at_at (d : Dk) (i : Nat) (r r' : Rg) : (d.at i r).at i r' = d.at i r' := by
  unfold Dk.at
  congr 1
  funext j
  unfold upd
  split
  · rfl
  · rename_i hh
    exact if_neg hh
/-- Region i under way. -/
def mid (d : Dk) (K : List Int) (i t : Nat) (kp : Nat → Bool) : Dk := (lk d K i).at i { d.r i with s := stL kp (d.r i).s (d.r i).q t }
theorem mid_r (d : Dk) (K : List Int) (i t : Nat) (kp : Nat → Bool) : (mid d K i t kp).r i = { d.r i with s := stL kp (d.r i).s (d.r i).q t } := upd_at _ _ _
theorem mid_zero (d : Dk) (K : List Int) (i : Nat) (kp : Nat → Bool) : mid d K i 0 kp = lk d K i := by
  unfold mid
  have e : ({ d.r i with s := stL kp (d.r i).s (d.r i).q 0 } : Rg) = (lk d K i).r i := by rw [lk_r]; rfl
  rw [e]
  unfold Dk.at
  rw [upd_self]
theorem mid_end (d : Dk) (K : List Int) (i : Nat) : (mid d K i (d.r i).q.length (kb K i)).at i { (mid d K i (d.r i).q.length (kb K i)).r i with q := [] } = lk d K (i + 1) := by
  rw [mid_r, ← lk_succ, lk_r]
  unfold mid
  rw [at_at]
  rfl
theorem mid_yes {d : Dk} {K : List Int} {i t : Nat} {kp : Nat → Bool} (h : kp t = true) : (mid d K i t kp).at i { (mid d K i t kp).r i with s := upd ((mid d K i t kp).r i).s (qx (d.r i).q t).1 (qx (d.r i).q t).2 } = mid d K i (t + 1) kp := by
  rw [mid_r]
  unfold mid
  rw [at_at, stL_yes h]
theorem mid_no {d : Dk} {K : List Int} {i t : Nat} {kp : Nat → Bool} (h : kp t = false) : mid d K i t kp = mid d K i (t + 1) kp := by
  unfold mid
  rw [stL_no h]

set_option maxRecDepth 100000 in
set_option maxHeartbeats 1600000 in
theorem loseR {w : World} {D : Nat} {d : Dk} {F : Nat → Prop} {L : Lr} (h : RkL w D d F L) (hq : ∀ j, j < d.k → (d.r j).q.length ≤ 1048576) {K : List Int} {ao : Option Addr} (hK : KR F w ao K) (h64 : K64 K) (c : Nat) :
    Calls Try.prog 50 #[.pointer (some ⟨D, 0, none⟩), .slice ao K.length c] w fun e w' => e = .returned (.tuple #[]) ∧ (∃ L', RkL w' D { d.lose K with off := true, ask := none } F L') ∧ Kept F w w' ∧ Nums w w' ∧ w'.heap.size = w.heap.size := by
  have hk8 := h.ok.k
  go_enter Try.func50, Try.ntmps50
  go_wp2
  go_loopw [4] (fun iv wr => ∃ i : Nat, i ≤ d.k ∧ iv = .int .i64 (i : Int) ∧ RkL wr D (lk d K i) F L ∧ Kept F w wr ∧ Nums w wr ∧ wr.heap.size = w.heap.size) (fun iv _ => d.k - (intOf iv).toNat)
  case atStart => exact ⟨0, Nat.zero_le _, rfl, by rw [lk_zero]; exact h, Kept.refl _ _, Nums.refl _, rfl⟩
  case round =>
    obtain ⟨i, hi, rfl, hd, hkp, hnm, hsz⟩ := hrel
    rename World => wo
    have c1 : wo.cell? ⟨D, 0, none⟩ = some (.slice (pt d.k L.R) d.k (cp d.k L.rc)) := hd.cD.1
    by_cases hlt : i < d.k
    · have r1 := hd.cR (i := i) hlt
      rw [pt_pos _ (by omega), cp_pos _ (by omega)] at c1
      have hqi := hq i hlt
      have hrok := hid (h.ok.r i hlt)
      have M0 := hid (show RkL wo D (mid d K i 0 (kb K i)) F L ∧ Kept F w wo ∧ Nums w wo ∧ wo.heap.size = w.heap.size from ⟨by rw [mid_zero]; exact hd, hkp, hnm, hsz⟩)
      clear hd hkp hnm hsz
      go_wp2
      go_loopw [6] (fun tv wk => ∃ t : Nat, t ≤ (d.r i).q.length ∧ tv = .int .i64 (t : Int) ∧ RkL wk D (mid d K i t (kb K i)) F L ∧ Kept F w wk ∧ Nums w wk ∧ wk.heap.size = w.heap.size) (fun tv _ => (d.r i).q.length - (intOf tv).toNat)
      case atStart => exact ⟨0, Nat.zero_le _, rfl, M0.out⟩
      case round =>
        clear M0
        obtain ⟨t, ht, rfl, hm, hkp, hnm, hsz⟩ := hrel
        obtain ⟨g1, g2, g3⟩ := hm.cG (i := i) hlt
        rw [mid_r] at g1 g2
        dsimp only at g1 g2
        by_cases htl : t < (d.r i).q.length
        · rw [pt_pos (n := (d.r i).q.length) _ (by omega), cp_pos (n := (d.r i).q.length) _ (by omega)] at g2
          have hx := hid ((hrok.out).q _ (qx_mem htl))
          have q12 := hm.cQ (i := i) hlt (t := t) (by rw [mid_r]; exact htl)
          rw [mid_r] at q12
          dsimp only at q12
          obtain ⟨q1, q2⟩ := q12
          have hl1 := hm.cL (i := i) hlt (k := (qx (d.r i).q t).1) (by rw [mid_r]; exact hx.out.1)
          obtain ⟨l1, l2⟩ := hl1
          have LAST := hid (hm.drew.last (i := i) hlt (k := (qx (d.r i).q t).1) (by rw [mid_r]; exact hx.out.1) (x := (qx (d.r i).q t).2) hx.out.2)
          have HM := hid hm
          have HKN := hid (And.intro hkp (And.intro hnm hsz))
          have hnp : 0 < (d.r i).n := by have := hx.out.1; omega
          rw [pt_pos (n := (d.r i).n) _ hnp, cp_pos (n := (d.r i).n) _ hnp] at g1
          have hsl := hx.out.1
          have hn4 := (hrok.out).n
          by_cases hiK : i < K.length
          · obtain ⟨bb, oo, e1, e2⟩ := (hK.step hkp hnm).cell hiK
            subst e1
            have hx64 := K64.get h64 hiK
            have CB := hid (fun W => Wb.bit (K.getD i 0) ((t : Int) % 64) W hx64.1 hx64.2)
            have hkb : Hid (kb K i t = bitB (K.getD i 0) ((t : Int) % 64)) := by
              show (if i < K.length then _ else _) = _
              rw [if_pos hiK]
              congr 1
            clear hkp hnm hm
            generalize K.getD i 0 = kx at *
            cases hbt : bitB kx ((t : Int) % 64)
            · rw [hbt] at CB hkb
              have NO := hid (mid_no (d := d) (K := K) (i := i) (kp := kb K i) hkb.out)
              clear hbt LAST
              go_wp2_with fail
              refine (CB.out _).mono ?_
              rintro e w2 ⟨rfl, rfl⟩
              go_wp2
              go_roundw
              case rel => exact ⟨t + 1, by omega, by go_num, by rw [← NO.out]; exact HM.out, HKN.out⟩
              case measure => simp [intOf] <;> omega
            · rw [hbt] at CB hkb
              have YES := hid (mid_yes (d := d) (K := K) (i := i) (kp := kb K i) hkb.out)
              clear hbt
              rw [YES.out] at LAST
              clear YES
              generalize (qx (d.r i).q t).1 = sx at *
              generalize (qx (d.r i).q t).2 = dx at *
              go_wp2_with fail
              refine (CB.out _).mono ?_
              rintro e w2 ⟨rfl, rfl⟩
              go_wp2_with fail
              go_region
              all_goals try go_wp2
              all_goals go_roundw
              case rel =>
                obtain ⟨k1, k2, k3⟩ := LAST.out
                refine ⟨t + 1, by omega, by go_num, k1, ?_, HKN.out.2.1.trans k3, ?_⟩
                · have e0 : Gr F w wr.drew = F := Gr.same HKN.out.2.2
                  exact (HKN.out.1.drew).trans (by rw [e0]; exact k2)
                · show (wr.setCell _ _).heap.size = _
                  rw [setD_size]; exact HKN.out.2.2
              case measure => simp [intOf] <;> omega
          · have hkb : Hid (kb K i t = false) := if_neg hiK
            have NO := hid (mid_no (d := d) (K := K) (i := i) (kp := kb K i) hkb.out)
            clear hkp hnm hm LAST
            go_wp2
            go_roundw
            case rel => exact ⟨t + 1, by omega, by go_num, by rw [← NO.out]; exact HM.out, HKN.out⟩
            case measure => simp [intOf] <;> omega
        · have hE : t = (d.r i).q.length := by omega
          have Q := hm.qnil (i := i) hlt
          rw [hE, mid_end] at Q
          have QQ := hid Q
          have HKN := hid (And.intro hkp (And.intro hnm hsz))
          clear Q hkp hnm hm
          go_wp2
          go_roundw
          case rel =>
            obtain ⟨k1, k2, k3⟩ := QQ.out
            refine ⟨i + 1, by omega, by go_num, k1, ?_, HKN.out.2.1.trans k3, ?_⟩
            · have e0 : Gr F w wr = F := Gr.same HKN.out.2.2
              exact HKN.out.1.trans (by rw [e0]; exact k2)
            · rw [setD_size]; exact HKN.out.2.2
          case measure => simp [intOf] <;> omega
    · have hE : i = d.k := by omega
      subst hE
      obtain ⟨_, c2, c3, c4, c5, c6⟩ := hd.cD
      have P := (hd.congr (d' := d.lose K) rfl rfl rfl (fun j hj => (if_pos hj).symm)).off3 true
      unfold off3 at P
      have PP := hid P
      have HKN := hid (And.intro hkp (And.intro hnm hsz))
      clear P hkp hnm hd
      go_wp2
      go_end0
      obtain ⟨p1, p2, p3, p4⟩ := PP.out
      obtain ⟨q1, q2, q3⟩ := HKN.out
      refine ⟨rfl, p1, ?_, q2.trans p3, p4.trans q3⟩
      have e0 : Gr F w wo = F := Gr.same q3
      exact q1.trans (by rw [e0]; exact p2)

end Go.Proofs.Ytffhnkljmalbiaa.Wr
