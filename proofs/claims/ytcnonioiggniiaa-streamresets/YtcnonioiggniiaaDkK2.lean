/-
  The walks of slices.Clone and of the disk's Cut.
-/
import Derived.Test.YtcnonioiggniiaaDkO
import Derived.Laws.AppendOwn
import Derived.Lib.SliceRun
namespace Go.Proofs.Ytcnonioiggniiaa.Wd
open Go.ChangeShapes Go.WideShapes Go.ChangeAt Go.RowKit Go.Proofs.Ytcnonioiggniiaa.M

theorem Gr.same {F : Nat → Prop} {w w' : World} (h : w'.heap.size = w.heap.size) : Gr F w w' = F := by
  have e := Gr.self F w
  unfold Gr at e ⊢
  rw [h]
  exact e

theorem infoU : (Try.prog.info? 30).map (fun i => (i.zero, i.size, i.bytes)) = some (some (.int .u64 0), 1, 8) := by kernel_rfl
/-- The cells of numbers. -/
def uc (K : List Int) : List Value := K.map fun x => .int .u64 x
theorem uc_length (K : List Int) : (uc K).length = K.length := by simp [uc]
theorem uc_get (K : List Int) (j : Nat) (h : j < K.length) : (uc K)[j]? = some (.int .u64 (K.getD j 0)) := by
  unfold uc
  rw [List.getElem?_map, List.getElem?_eq_getElem h, List.getD_eq_getElem?_getD, List.getElem?_eq_getElem h]
  rfl

/-- What Clone comes to. -/
def ClP (w : World) (K : List Int) (e : Ending) (w' : World) : Prop := ∃ ka kc, e = .returned (.slice ka K.length kc) ∧ KO (Gr no w w') w' ka K ∧ Below w.heap.size w w'

set_option maxRecDepth 100000 in
theorem clone (ao : Option Addr) (K : List Int) (c : Nat) (w : World) (hb : K.length * 8 ≤ 140737488355328) (hn : ao = none → K = []) (ha : ∀ j, j < K.length → ∃ b o, ao = some ⟨b, o, none⟩ ∧ b < w.heap.size ∧ w.cell? ⟨b, o + j, none⟩ = some (.int .u64 (K.getD j 0))) :
    Calls Try.prog 31 #[.slice ao K.length c] w fun e w' => ClP w K e w' := by
  obtain ⟨i0, hi0, hz0, hz1, hz2⟩ := info_parts infoU
  rcases ao with _ | ad
  · obtain rfl := hn rfl
    clear ha hn
    simp only [List.length_nil]
    have heq := fun u => Lib.run_eql_slice_nil (P := Try.prog) u 62 30 none 0 c 0 0 Try.underlying62
    go_enter Try.func31, Try.ntmps31
    go_wp2
    go_ret
    exact ⟨none, 0, rfl, .inl rfl, Below.refl _ _⟩
  · have OW : Hid ((w.alloc (.cells #[] 30)).ownsRow w.heap.size 30 1 (.slice (some ⟨w.heap.size, 0, none⟩) 0 0) 0 []) := World.ownsRow_made w #[] 0 (Nat.le_refl _) (Nat.zero_le _) rfl
    have NEW : Hid (∀ j u, (uc K)[j]? = some u → (w.alloc (.cells #[] 30)).cell? (ad.add j) = some u) := fun j u hj => by
      have hj' : j < K.length := by
        have := (List.getElem?_eq_some_iff.1 hj).1
        rwa [uc_length] at this
      obtain ⟨b, o, e1, e2, e3⟩ := ha j hj'
      simp at e1
      subst e1
      rw [uc_get _ _ hj'] at hj
      rw [Addr.add_lit, World.cell?_of_block (w := w) (Below.heap_alloc w _ _ (by exact e2)), e3, hj]
    have ONE : Hid (∀ u ∈ uc K, u.oneCell' = true) := fun u hu => by
      unfold uc at hu
      rw [List.mem_map] at hu
      obtain ⟨_, _, rfl⟩ := hu
      rfl
    have LEN := hid (show (uc K).length = K.length * 1 by rw [uc_length, Nat.mul_one])
    have UG := hid (uc_get K)
    clear ha hn
    obtain ⟨kl, hkl⟩ : ∃ kl, kl = K.length := ⟨_, rfl⟩
    rw [← hkl]
    rw [← hkl] at LEN hb
    have HKL := hid hkl.symm
    clear hkl
    have heq := fun u => Lib.run_eql_slice_nil (P := Try.prog) u 62 30 (some ad) kl c 0 0 Try.underlying62
    go_enter Try.func31, Try.ntmps31
    go_wp2_with (at_builtin; refine wpList_append_own _ rfl _ _ 62 rfl w.heap.size 30 i0 (.int .u64 0) 1 8 Try.underlying62 hi0 hz0 hz1 hz2 rfl (by decide) _ _ _ rfl OW.out ad kl c (uc K) rfl LEN.out NEW.out ONE.out ?c3 ?c4 ?c5 ?_)
    case c3 => unfold maxLen; omega
    case c4 => omega
    case c5 => simp
    · intro v' w1 own1 gr1 _
      have B1 := hid (((Below.refl w.heap.size w).alloc (Nat.le_refl _) (.cells #[] 30)).grown gr1 (by simp) (fun k hk => by simp [Value.ownBlock] at hk; omega))
      rcases own1.2 with ⟨e1, e2⟩ | ⟨g, cap, cur, e1, e2, k1, k2, k3, k4, k5⟩
      · subst e1
        have e3 : kl = 0 := by omega
        subst e3
        clear own1 gr1
        go_wp2
        go_ret
        have hK0 : K = [] := List.eq_nil_of_length_eq_zero HKL.out
        refine ⟨none, 0, by rw [HKL.out]; rfl, .inl hK0, B1.out⟩
      · subst e1
        have P : Hid (KO (Gr no w w1) w1 (some ⟨g, 0, none⟩) K) := .inr ⟨g, 0, cur, (0, 0), rfl, k1, .inr ⟨e2, blk_lt k1⟩, fun j hj => by
          have := UG.out j hj
          rw [← this]
          have h2 : cur.toList[j]? = (uc K)[j]? := by
            have k6 : cur.toList.take kl = uc K := by simpa using k5
            rw [← k6, List.getElem?_take, if_pos (by have := HKL.out; omega)]
          rw [Nat.zero_add, ← h2, Array.getElem?_toList]⟩
        clear own1 gr1 k1 k2 k3 k4 k5
        go_wp2
        go_ret
        exact ⟨some ⟨g, 0, none⟩, cap, by rw [HKL.out]; first | rfl | (simp; rfl), P.out, B1.out⟩

set_option maxRecDepth 100000 in
set_option maxHeartbeats 1000000 in
theorem cutD {w : World} {D : Nat} {d : Dk} {F : Nat → Prop} {L : Ly} (h : DkL w D d F L) (a n : Int) (hn63 : n < 9223372036854775808) (ao : Option Addr) (K : List Int) (c : Nat) (h64 : K64 K) (hb : K.length * 8 ≤ 140737488355328) (hnil : ao = none → K = []) (ha : ∀ j, j < K.length → ∃ b o, ao = some ⟨b, o, none⟩ ∧ b < w.heap.size ∧ ¬ F b ∧ w.cell? ⟨b, o + j, none⟩ = some (.int .u64 (K.getD j 0))) :
    Calls Try.prog 14 #[dp D, .int .i64 a, .int .i64 n, .slice ao K.length c] w fun e w' => e = .returned (.tuple #[]) ∧ (∃ L', DkL w' D (d.cut a n K) (Gr F w w') L') ∧ Kept F w w' := by
  obtain ⟨c1, c2, c3, c4, c5, c6⟩ := h.cD
  have e1 := setD_cell (j := 2) (v := .int .i64 0) h.dk
  have e2 := setD_cell (j := 3) (v := .int .i64 0) e1
  have e3 := setD_cell (j := 4) (v := .slice none 0 0) e2
  obtain ⟨w0, hw0⟩ : ∃ w0, w0 = (((w.setCell ⟨D, 2, none⟩ (.int .i64 0)).setCell ⟨D, 3, none⟩ (.int .i64 0)).setCell ⟨D, 4, none⟩ (.slice none 0 0)) := ⟨_, rfl⟩
  rw [← hw0] at e3
  have hW : w0.heap.size = w.heap.size := by rw [hw0, setD_size, setD_size, setD_size]
  have ho : ∀ k, k ≠ D → w0.heap[k]? = w.heap[k]? := fun k hk => by rw [hw0, setD_other hk, setD_other hk, setD_other hk]
  have P0 := h.setD (w' := w0) (G := F) (off := d.off) (ask := none) (ka := none) (kc := 0) e3 (fun k hk _ => ho k hk) (fun _ hb => hb) (fun k hk => by rw [hW]; exact h.lt k hk) (.inl rfl) (fun a l K e => by cases e)
  have K0 : Kept F w w0 := by rw [hw0]; exact Kept.setCell (Kept.setCell (Kept.setCell (Kept.refl _ _) h.ownD _) h.ownD _) h.ownD _
  have hDF := h.ownD
  have HW0 := hid hw0.symm
  have NONE : ∀ (_ : ¬ (1 ≤ n ∧ d.has a = true)), (∃ L', DkL w0 D (d.cut a n K) (Gr F w w0) L') ∧ Kept F w w0 := fun hno => by
    have ec : d.cut a n K = { d with off := d.off, ask := none } := by unfold Dk.cut; rw [if_neg hno]
    rw [Gr.same hW, ec]
    exact ⟨⟨_, P0⟩, K0⟩
  have HNONE := hid NONE
  have CF := hid (find P0 (a := a))
  have hhas : ({ d with off := d.off, ask := none } : Dk).has a = d.has a := rfl
  rw [hhas] at CF
  have CC := hid (clone ao K c w0 hb hnil (fun j hj => by
    obtain ⟨b, o, q1, q2, q3, q4⟩ := ha j hj
    refine ⟨b, o, q1, by omega, ?_⟩
    rw [World.cell?_of_block (w := w) (ho b (fun e => q3 (by rw [e]; exact hDF)))]
    exact q4))
  unfold dp
  clear ha NONE hhas hw0 e1 e2 e3 ho
  by_cases cn : 1 ≤ n
  · by_cases ch : d.has a = true
    · rw [if_pos ch] at CF
      unfold rp at CF
      obtain ⟨i, rfl, hi⟩ := has_nat ch
      rw [Int.toNat_natCast] at CF
      have hcut : Hid (d.cut (i : Int) n K = { d with ask := some (i, n.toNat, K) }) := by
        show _ = _
        unfold Dk.cut
        rw [if_pos ⟨cn, ch⟩, Int.toNat_natCast]
      have HP := hid P0
      have HK0 := hid K0
      clear ch HNONE P0 K0
      go_enter Try.func14, Try.ntmps14
      go_wp2_with fail
      rw [HW0.out]
      refine CF.out.mono ?_
      rintro e w1 ⟨rfl, rfl⟩
      go_wp2_with fail
      refine CC.out.mono ?_
      rintro e w2 hcl
      obtain ⟨ka, kc, rfl, ko, b2⟩ := hcl
      have q0 := HP.out.below b2
      obtain ⟨s1, s2, s3, s4, s5, s6⟩ := q0.cD
      have f1 := setD_cell (j := 2) (v := .int .i64 (i : Int)) q0.dk
      have f2 := setD_cell (j := 3) (v := .int .i64 n) f1
      have f3 := setD_cell (j := 4) (v := .slice ka K.length kc) f2
      have FIN : Hid ((∃ L', DkL (((w2.setCell ⟨D, 2, none⟩ (.int .i64 (i : Int))).setCell ⟨D, 3, none⟩ (.int .i64 n)).setCell ⟨D, 4, none⟩ (.slice ka K.length kc)) D (d.cut (i : Int) n K) (Gr F w (((w2.setCell ⟨D, 2, none⟩ (.int .i64 (i : Int))).setCell ⟨D, 3, none⟩ (.int .i64 n)).setCell ⟨D, 4, none⟩ (.slice ka K.length kc))) L') ∧ Kept F w (((w2.setCell ⟨D, 2, none⟩ (.int .i64 (i : Int))).setCell ⟨D, 3, none⟩ (.int .i64 n)).setCell ⟨D, 4, none⟩ (.slice ka K.length kc))) := by
        have hsz : (((w2.setCell ⟨D, 2, none⟩ (.int .i64 (i : Int))).setCell ⟨D, 3, none⟩ (.int .i64 n)).setCell ⟨D, 4, none⟩ (.slice ka K.length kc)).heap.size = w2.heap.size := by rw [setD_size, setD_size, setD_size]
        have hbs := b2.size
        refine ⟨?_, ?_⟩
        · rw [hcut.out]
          have := q0.setD (w' := (((w2.setCell ⟨D, 2, none⟩ (.int .i64 (i : Int))).setCell ⟨D, 3, none⟩ (.int .i64 n)).setCell ⟨D, 4, none⟩ (.slice ka K.length kc))) (G := Gr F w (((w2.setCell ⟨D, 2, none⟩ (.int .i64 (i : Int))).setCell ⟨D, 3, none⟩ (.int .i64 n)).setCell ⟨D, 4, none⟩ (.slice ka K.length kc))) (off := d.off) (ask := some (i, n.toNat, K)) (ka := ka) (kc := kc) (by
            rw [f3]
            show some (Obj.cells #[_, _, _, .int .i64 n, _] _ _) = some (Obj.cells #[_, _, _, .int .i64 ((n.toNat : Nat) : Int), _] _ _)
            rw [Int.toNat_of_nonneg (by omega)]
            rfl) (fun k hk _ => by rw [setD_other hk, setD_other hk, setD_other hk]) (fun _ hb => .inl hb) (fun k hk => by
            rw [hsz]
            rcases hk with hk | hk
            · have := q0.lt k hk; omega
            · rw [hsz] at hk; exact hk.2) (ko.kept (fun b cs fr hb _ => by
              rw [setD_other (fun e => by rw [e, q0.dk] at hb; simp at hb), setD_other (fun e => by rw [e, q0.dk] at hb; simp at hb), setD_other (fun e => by rw [e, q0.dk] at hb; simp at hb)]) (fun b hb => by
              rcases hb with hb | hb
              · exact absurd hb id
              · exact .inr ⟨by omega, by rw [hsz]; exact hb.2⟩)) (fun a' l' K' e => by
            simp at e
            obtain ⟨rfl, rfl, rfl⟩ := e
            exact ⟨hi, by omega, h64⟩)
          exact ⟨_, this⟩
        · exact Kept.setCell (Kept.setCell (Kept.setCell (HK0.out.trans (Kept.of_below b2)) (p := ⟨D, 2, none⟩) hDF _) (p := ⟨D, 3, none⟩) hDF _) (p := ⟨D, 4, none⟩) hDF _
      clear q0 f1 f2 f3 ko b2 HP HK0
      go_wp2
      go_end0
      exact ⟨rfl, FIN.out⟩
    · rw [if_neg ch] at CF
      have FIN := hid (HNONE.out (fun hh => ch hh.2))
      clear CC HNONE P0
      go_enter Try.func14, Try.ntmps14
      go_wp2_with fail
      rw [HW0.out]
      refine CF.out.mono ?_
      rintro e w1 ⟨rfl, rfl⟩
      go_wp2
      go_end0
      exact ⟨rfl, FIN.out⟩
  · have FIN := hid (HNONE.out (fun hh => cn hh.1))
    clear CC CF HNONE P0
    go_enter Try.func14, Try.ntmps14
    go_wp2
    rw [HW0.out]
    go_end0
    exact ⟨rfl, FIN.out⟩

end Go.Proofs.Ytcnonioiggniiaa.Wd
