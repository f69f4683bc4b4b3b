/-
  The walk of a region's settle: the writes that are kept are laid over what lasts, in order; the queue is empty. The rest of the disk is as it was.
-/
import Derived.Test.YtcnonioiggniiaaDkC
namespace Go.Proofs.Ytcnonioiggniiaa.Wd
open Go.ChangeShapes Go.WideShapes Go.ChangeAt Go.RowKit Go.Proofs.Ytcnonioiggniiaa.M

theorem sizeU8 : (Try.prog.info? 5).map (·.size) = some 1 := by kernel_rfl

theorem hid {p : Prop} (h : p) : Hid p := h

/-- Only block g has turned. -/
structure Only (g : Nat) (w w' : World) : Prop where
  os : w'.os = w.os
  tape : w'.tape = w.tape
  output : w'.output = w.output
  size : w'.heap.size = w.heap.size
  block : ∀ k, k ≠ g → w'.heap[k]? = w.heap[k]?
theorem Only.refl (g : Nat) (w : World) : Only g w w := ⟨rfl, rfl, rfl, rfl, fun _ _ => rfl⟩
theorem Only.drew {g : Nat} {w w' : World} (h : Only g w w') : Only g w w'.drew := ⟨h.os, h.tape, h.output, h.size, h.block⟩
theorem Only.row {g : Nat} {w w' : World} (h : Only g w w') (c : Array Value) : Only g w (w'.setRow g c) :=
  ⟨h.os, h.tape, h.output, by simpa [World.setRow] using h.size, fun k hk => (blk_other hk c).trans (h.block k hk)⟩

/-- The disk while a region is being settled. -/
theorem DkL.mid {w w1 : World} {D : Nat} {d : Dk} {F : Nat → Prop} {L : Ly} (h : DkL w D d F L) {i : Nat} (hi : i < d.k) {s : Nat → ByteArray} (ho : Only (L.lb i) w w1)
    (hb : w1.heap[L.lb i]? = some (.cells (lc s (d.r i).n).toArray 5 (0, 0))) (hok : ∀ k, (s k).size = 64) : DkL w1 D (d.at i { d.r i with s := s }) F L := by
  have hr : ∀ j, j ≠ i → (d.at i { d.r i with s := s }).r j = d.r j := fun j hj => upd_off _ _ hj
  have hri : (d.at i { d.r i with s := s }).r i = { d.r i with s := s } := upd_at _ _ _
  have hrn : ∀ j, ((d.at i { d.r i with s := s }).r j).n = (d.r j).n := fun j => by
    by_cases c : j = i
    · subst c; rw [hri]
    · rw [hr j c]
  have hrq : ∀ j, ((d.at i { d.r i with s := s }).r j).q = (d.r j).q := fun j => by
    by_cases c : j = i
    · subst c; rw [hri]
    · rw [hr j c]
  have hkn : ∀ (b : Nat) (cs : Array Value) (T : TypeId) (fr : Nat × Nat), w.heap[b]? = some (.cells cs T fr) → T ≠ 5 → w1.heap[b]? = w.heap[b]? := fun b cs T fr h1 h2 =>
    ho.block b (fun e => by rw [e, h.lb i hi] at h1; simp at h1; exact h2 h1.2.1.symm)
  refine ⟨(hkn D _ _ _ h.dk (by decide)).trans h.dk, ?_, ?_, ?_, h.injl, ?_, ?_, h.ownD, h.ownR, h.ownl, ?_, ?_, Dk.at_ok h.ok i ⟨(h.ok.r i hi).n, hok, (h.ok.r i hi).q⟩⟩
  · intro _
    obtain ⟨l, g1, g2, g3, g4⟩ := h.rows (by omega)
    refine ⟨l, (hkn _ _ _ _ g1 (by decide)).trans g1, g2, g3, fun j hj => ?_⟩
    rw [hrn, hrq]
    exact g4 j hj
  · intro j hj
    by_cases c : j = i
    · subst c; rw [hri]; exact hb
    · rw [hr j c, ho.block _ (fun e => c (h.injl j i hj hi e))]
      exact h.lb j hj
  · intro j hj hq
    rw [hrq] at hq ⊢
    obtain ⟨l', k1, k2⟩ := h.qb j hj hq
    exact ⟨l', (hkn _ _ _ _ k1 (by decide)).trans k1, k2⟩
  · intro a b ha hb' hqa hqb e
    rw [hrq] at hqa hqb
    exact h.injq a b ha hb' hqa hqb e
  · exact h.kr.kept (fun b cs fr h1 _ => hkn b cs _ fr h1 (by decide)) fun _ hb => hb
  · intro j hj hq
    rw [hrq] at hq
    exact h.ownq j hj hq
  · intro b hb'
    rw [ho.size]
    exact h.lt b hb'

/-- One write laid over what lasts. -/
theorem copyW {w : World} {D : Nat} {d : Dk} {F : Nat → Prop} {L : Ly} (h : DkL w D d F L) {i : Nat} (hi : i < d.k) {t : Nat} (ht : t < (d.r i).q.length) (c ty : Nat) :
    (Builtin.copy_ #[67, 67] ty #[.slice (some ⟨L.lb i, (qx (d.r i).q t).1 * 64, none⟩) 64 c, .slice (some ⟨L.qb i, t * 65 + 1, none⟩) 64 64]).run Try.prog w =
      .ok (goInt 64) (w.setRow (L.lb i) (lc (upd (d.r i).s (qx (d.r i).q t).1 (qx (d.r i).q t).2) (d.r i).n).toArray) := by
  have hx := (h.ok.r i hi).q _ (qx_mem ht)
  have r := run_copy_row (P := Try.prog) w 67 67 ty 5 (L.lb i) ((qx (d.r i).q t).1 * 64) 64 c ⟨L.qb i, t * 65 + 1, none⟩ 64 64 _ 5 (dc (qx (d.r i).q t).2) Try.underlying67 sizeU8 (h.lb i hi) (by rw [dc_length]; rfl) (fun j v hj => by
      have hj' : j < 64 := by
        have := (List.getElem?_eq_some_iff.1 hj).1
        rwa [dc_length] at this
      rw [dc_get _ _ hj'] at hj
      rw [Addr.add_lit, (h.cQ hi ht).2 j hj', hj]) (by rw [dc_length, List.size_toArray, lc_length]; omega) (fun v hv => by
      unfold dc at hv
      rw [List.mem_map] at hv
      obtain ⟨_, _, rfl⟩ := hv
      rfl)
  rw [dc_length, List.append_assoc, Nat.mul_comm _ 64, lc_splice _ _ _ _ hx.1] at r
  rw [Nat.mul_comm _ 64]
  exact r

theorem u64_ne {w : World} {D : Nat} {d : Dk} {F : Nat → Prop} {L : Ly} (h : DkL w D d F L) {i : Nat} (hi : i < d.k) {b : Nat} {cs : Array Value} {fr : Nat × Nat} (hb : w.heap[b]? = some (.cells cs 30 fr)) : b ≠ L.lb i := fun e => by
  rw [e, h.lb i hi] at hb
  simp at hb

theorem at_set {d : Dk} {i : Nat} {kp : Nat → Bool} : d.at i ((d.r i).set kp) = d.at i { n := (d.r i).n, s := stL kp (d.r i).s (d.r i).q (d.r i).q.length, q := [] } := rfl

set_option maxRecDepth 100000 in
set_option maxHeartbeats 3200000 in
theorem settleAll {w : World} {D : Nat} {d : Dk} {F : Nat → Prop} {L : Ly} (h : DkL w D d F L) {i : Nat} (hi : i < d.k) (hq : (d.r i).q.length ≤ 1048576) {kp : Nat → Bool} (hkp : ∀ m, kp m = true) :
    Calls Try.prog 62 #[rp L i, .func (.func 78) #[] #[]] w fun e w' => e = .returned (.tuple #[]) ∧ DkL w' D (d.at i ((d.r i).set kp)) F L ∧ Kept F w w' ∧ Nums w w' ∧ w'.heap.size = w.heap.size := by
  obtain ⟨c1, c2, c3⟩ := h.cR hi
  have hn := (h.ok.r i hi).n
  have hlbF := h.ownl i hi
  have hRF := h.ownR (by omega)
  unfold rp qv at *
  have HF : Hid (∀ (t : Nat) wr, t ≤ 1048576 → Only (L.lb i) w wr → Calls Try.prog 78 #[.int .i64 (t : Int)] wr fun e w' => e = .returned (.bool (kp t)) ∧ wr = w') := fun t wr ht ho => by
    rw [hkp]; exact kAll _ _
  go_enter Try.func62, Try.ntmps62
  go_wp2
  go_loopw [11] (fun iv wr => ∃ t : Nat, t ≤ (d.r i).q.length ∧ iv = .int .i64 (t : Int) ∧ Only (L.lb i) w wr ∧ wr.heap[L.lb i]? = some (.cells (lc (stL kp (d.r i).s (d.r i).q t) (d.r i).n).toArray 5 (0, 0))) (fun iv _ => (d.r i).q.length - (intOf iv).toNat)
  case atStart => exact ⟨0, Nat.zero_le _, rfl, Only.refl _ _, h.lb i hi⟩
  case round =>
    obtain ⟨t, ht, rfl, ho, hb⟩ := hrel
    have hsz : ∀ k, (stL kp (d.r i).s (d.r i).q t k).size = 64 := fun k => stL_size (h.ok.r i hi).s (fun x hx => ((h.ok.r i hi).q x hx).2) t ht k
    have hm := h.mid hi ho hb hsz
    have HS : Hid _ := hsz
    clear hsz
    obtain ⟨m1, m2, m3⟩ := hm.cR (i := i) hi
    have hri : (d.at i { d.r i with s := stL kp (d.r i).s (d.r i).q t }).r i = { d.r i with s := stL kp (d.r i).s (d.r i).q t } := upd_at _ _ _
    have HRI : Hid _ := hri
    rw [hri] at m1 m2
    clear hri
    unfold qv at m2
    by_cases c : t < (d.r i).q.length
    · dsimp only at m1 m2
      rw [pt_pos _ (by omega), cp_pos _ (by omega)] at m2
      have HK := hid (HF.out t wr (by omega) ho)
      cases hkt : kp t
      · rw [hkt] at HK
        have hst := stL_no hkt (d.r i).s (d.r i).q
        have HST : Hid _ := hst
        clear hst hkt
        go_wp2_with fail
        refine HK.out.mono ?_
        rintro e w1 ⟨rfl, rfl⟩
        go_wp2
        go_roundw
        case rel => exact ⟨t + 1, by omega, by go_num, ho, by rw [HST.out]; exact hb⟩
        case measure => simp [intOf] <;> omega
      · rw [hkt] at HK
        have hst := stL_yes hkt (d.r i).s (d.r i).q
        have HST : Hid _ := hst
        clear hst hkt
        have hq1 : t < ((d.at i { d.r i with s := stL kp (d.r i).s (d.r i).q t }).r i).q.length := by rw [HRI.out]; exact c
        have q1 := (hm.cQ (i := i) hi hq1).1
        have cp1 := copyW hm.drew (i := i) hi hq1 (64 * (d.r i).n - (qx (d.r i).q t).1 * 64) 3
        have hx := (h.ok.r i hi).q _ (qx_mem c)
        have CA := hid <| at_ hm.drew (i := i) hi (s := (qx (d.r i).q t).1) (by rw [HRI.out]; exact hx.1)
        rw [HRI.out] at q1 cp1 CA
        dsimp only at q1 cp1 CA
        unfold rp at CA
        have hx1 := hx.1
        clear hq1 hx
        generalize hgx : (qx (d.r i).q t).1 = xs at q1 cp1 CA hx1 HST
        have HGX : Hid _ := hgx
        clear hgx
        go_wp2_with fail
        refine HK.out.mono ?_
        rintro e w1 ⟨rfl, rfl⟩
        go_wp2_with fail
        go_region_with (go_at_call 83; refine CA.out.mono ?_; rintro e w1 ⟨rfl, rfl⟩)
        all_goals try go_wp2
        all_goals go_roundw
        case rel => exact ⟨t + 1, by omega, by go_num, ho.drew.row _, by rw [HST.out, blk_row (w := wr.drew) hb]⟩
        case measure => simp [intOf] <;> omega
    · have ht2 : t = (d.r i).q.length := by omega
      subst ht2
      have hres := h.reset hi ho.size hb ho.block HS.out
      have hk1 : Kept F w (wr.setCell ⟨L.R, i * 2 + 1, none⟩ (.slice none 0 0)) := Kept.setCell ⟨ho.os, ho.tape, ho.output, by rw [ho.size]; exact Nat.le_refl _, fun k _ hF => ho.block k fun e => hF (by rw [e]; exact hlbF)⟩ hRF _
      have hn1 : Nums w (wr.setCell ⟨L.R, i * 2 + 1, none⟩ (.slice none 0 0)) := by
        obtain ⟨l, g1, _⟩ := h.rows (by omega)
        have g2 : wr.heap[L.R]? = _ := (ho.block _ (fun e => lb_ne_R h hi e.symm)).trans g1
        exact Nums.trans (fun b cs fr hb => ho.block b (u64_ne h hi hb)) (Nums.setCell g2 (by decide) _)
      have hs1 : (wr.setCell ⟨L.R, i * 2 + 1, none⟩ (.slice none 0 0)).heap.size = w.heap.size := by rw [← ho.size]; simp [World.setCell]
      have HP : Hid (DkL (wr.setCell ⟨L.R, i * 2 + 1, none⟩ (.slice none 0 0)) D (d.at i ((d.r i).set kp)) F L ∧ Kept F w (wr.setCell ⟨L.R, i * 2 + 1, none⟩ (.slice none 0 0)) ∧ Nums w (wr.setCell ⟨L.R, i * 2 + 1, none⟩ (.slice none 0 0)) ∧ (wr.setCell ⟨L.R, i * 2 + 1, none⟩ (.slice none 0 0)).heap.size = w.heap.size) := ⟨hres, hk1, hn1, hs1⟩
      clear hres hk1 hn1 hs1
      go_wp2
      go_end0
      exact ⟨rfl, HP.out⟩

set_option maxRecDepth 100000 in
set_option maxHeartbeats 3200000 in
theorem settleNone {w : World} {D : Nat} {d : Dk} {F : Nat → Prop} {L : Ly} (h : DkL w D d F L) {i : Nat} (hi : i < d.k) (hq : (d.r i).q.length ≤ 1048576) {kp : Nat → Bool} (hkp : ∀ m, kp m = false) :
    Calls Try.prog 62 #[rp L i, .func (.func 84) #[] #[]] w fun e w' => e = .returned (.tuple #[]) ∧ DkL w' D (d.at i ((d.r i).set kp)) F L ∧ Kept F w w' ∧ Nums w w' ∧ w'.heap.size = w.heap.size := by
  obtain ⟨c1, c2, c3⟩ := h.cR hi
  have hn := (h.ok.r i hi).n
  have hlbF := h.ownl i hi
  have hRF := h.ownR (by omega)
  unfold rp qv at *
  have HF : Hid (∀ (t : Nat) wr, t ≤ 1048576 → Only (L.lb i) w wr → Calls Try.prog 84 #[.int .i64 (t : Int)] wr fun e w' => e = .returned (.bool (kp t)) ∧ wr = w') := fun t wr ht ho => by
    rw [hkp]; exact kNone _ _
  go_enter Try.func62, Try.ntmps62
  go_wp2
  go_loopw [11] (fun iv wr => ∃ t : Nat, t ≤ (d.r i).q.length ∧ iv = .int .i64 (t : Int) ∧ Only (L.lb i) w wr ∧ wr.heap[L.lb i]? = some (.cells (lc (stL kp (d.r i).s (d.r i).q t) (d.r i).n).toArray 5 (0, 0))) (fun iv _ => (d.r i).q.length - (intOf iv).toNat)
  case atStart => exact ⟨0, Nat.zero_le _, rfl, Only.refl _ _, h.lb i hi⟩
  case round =>
    obtain ⟨t, ht, rfl, ho, hb⟩ := hrel
    have hsz : ∀ k, (stL kp (d.r i).s (d.r i).q t k).size = 64 := fun k => stL_size (h.ok.r i hi).s (fun x hx => ((h.ok.r i hi).q x hx).2) t ht k
    have hm := h.mid hi ho hb hsz
    have HS : Hid _ := hsz
    clear hsz
    obtain ⟨m1, m2, m3⟩ := hm.cR (i := i) hi
    have hri : (d.at i { d.r i with s := stL kp (d.r i).s (d.r i).q t }).r i = { d.r i with s := stL kp (d.r i).s (d.r i).q t } := upd_at _ _ _
    have HRI : Hid _ := hri
    rw [hri] at m1 m2
    clear hri
    unfold qv at m2
    by_cases c : t < (d.r i).q.length
    · dsimp only at m1 m2
      rw [pt_pos _ (by omega), cp_pos _ (by omega)] at m2
      have HK := hid (HF.out t wr (by omega) ho)
      cases hkt : kp t
      · rw [hkt] at HK
        have hst := stL_no hkt (d.r i).s (d.r i).q
        have HST : Hid _ := hst
        clear hst hkt
        go_wp2_with fail
        refine HK.out.mono ?_
        rintro e w1 ⟨rfl, rfl⟩
        go_wp2
        go_roundw
        case rel => exact ⟨t + 1, by omega, by go_num, ho, by rw [HST.out]; exact hb⟩
        case measure => simp [intOf] <;> omega
      · rw [hkt] at HK
        have hst := stL_yes hkt (d.r i).s (d.r i).q
        have HST : Hid _ := hst
        clear hst hkt
        have hq1 : t < ((d.at i { d.r i with s := stL kp (d.r i).s (d.r i).q t }).r i).q.length := by rw [HRI.out]; exact c
        have q1 := (hm.cQ (i := i) hi hq1).1
        have cp1 := copyW hm.drew (i := i) hi hq1 (64 * (d.r i).n - (qx (d.r i).q t).1 * 64) 3
        have hx := (h.ok.r i hi).q _ (qx_mem c)
        have CA := hid <| at_ hm.drew (i := i) hi (s := (qx (d.r i).q t).1) (by rw [HRI.out]; exact hx.1)
        rw [HRI.out] at q1 cp1 CA
        dsimp only at q1 cp1 CA
        unfold rp at CA
        have hx1 := hx.1
        clear hq1 hx
        generalize hgx : (qx (d.r i).q t).1 = xs at q1 cp1 CA hx1 HST
        have HGX : Hid _ := hgx
        clear hgx
        go_wp2_with fail
        refine HK.out.mono ?_
        rintro e w1 ⟨rfl, rfl⟩
        go_wp2_with fail
        go_region_with (go_at_call 83; refine CA.out.mono ?_; rintro e w1 ⟨rfl, rfl⟩)
        all_goals try go_wp2
        all_goals go_roundw
        case rel => exact ⟨t + 1, by omega, by go_num, ho.drew.row _, by rw [HST.out, blk_row (w := wr.drew) hb]⟩
        case measure => simp [intOf] <;> omega
    · have ht2 : t = (d.r i).q.length := by omega
      subst ht2
      have hres := h.reset hi ho.size hb ho.block HS.out
      have hk1 : Kept F w (wr.setCell ⟨L.R, i * 2 + 1, none⟩ (.slice none 0 0)) := Kept.setCell ⟨ho.os, ho.tape, ho.output, by rw [ho.size]; exact Nat.le_refl _, fun k _ hF => ho.block k fun e => hF (by rw [e]; exact hlbF)⟩ hRF _
      have hn1 : Nums w (wr.setCell ⟨L.R, i * 2 + 1, none⟩ (.slice none 0 0)) := by
        obtain ⟨l, g1, _⟩ := h.rows (by omega)
        have g2 : wr.heap[L.R]? = _ := (ho.block _ (fun e => lb_ne_R h hi e.symm)).trans g1
        exact Nums.trans (fun b cs fr hb => ho.block b (u64_ne h hi hb)) (Nums.setCell g2 (by decide) _)
      have hs1 : (wr.setCell ⟨L.R, i * 2 + 1, none⟩ (.slice none 0 0)).heap.size = w.heap.size := by rw [← ho.size]; simp [World.setCell]
      have HP : Hid (DkL (wr.setCell ⟨L.R, i * 2 + 1, none⟩ (.slice none 0 0)) D (d.at i ((d.r i).set kp)) F L ∧ Kept F w (wr.setCell ⟨L.R, i * 2 + 1, none⟩ (.slice none 0 0)) ∧ Nums w (wr.setCell ⟨L.R, i * 2 + 1, none⟩ (.slice none 0 0)) ∧ (wr.setCell ⟨L.R, i * 2 + 1, none⟩ (.slice none 0 0)).heap.size = w.heap.size) := ⟨hres, hk1, hn1, hs1⟩
      clear hres hk1 hn1 hs1
      go_wp2
      go_end0
      exact ⟨rfl, HP.out⟩

set_option maxRecDepth 100000 in
set_option maxHeartbeats 3200000 in
theorem settleBits {w : World} {D : Nat} {d : Dk} {F : Nat → Prop} {L : Ly} (h : DkL w D d F L) {i : Nat} (hi : i < d.k) (hq : (d.r i).q.length ≤ 1048576) {kp : Nat → Bool} {kbk : Nat} {x : Int} (hkb : w.heap[kbk]? = some (.cells #[.int .u64 x] 30 (0, 0))) (hx0 : 0 ≤ x) (hx1 : x < 18446744073709551616) (hkp : ∀ m, kp m = bitB x ((m % 64 : Nat) : Int)) :
    Calls Try.prog 62 #[rp L i, .func (.func 85) #[] #[.pointer (some ⟨kbk, 0, none⟩)]] w fun e w' => e = .returned (.tuple #[]) ∧ DkL w' D (d.at i ((d.r i).set kp)) F L ∧ Kept F w w' ∧ Nums w w' ∧ w'.heap.size = w.heap.size := by
  obtain ⟨c1, c2, c3⟩ := h.cR hi
  have hn := (h.ok.r i hi).n
  have hlbF := h.ownl i hi
  have hRF := h.ownR (by omega)
  unfold rp qv at *
  have HF : Hid (∀ (t : Nat) wr, t ≤ 1048576 → Only (L.lb i) w wr → Calls Try.prog 85 #[.int .i64 (t : Int), .pointer (some ⟨kbk, 0, none⟩)] wr fun e w' => e = .returned (.bool (kp t)) ∧ wr = w') := fun t wr ht ho => by
    rw [hkp]; exact kBits x t kbk wr hx0 hx1 ht ((ho.block _ (u64_ne h hi hkb)).trans hkb)
  clear hkb
  go_enter Try.func62, Try.ntmps62
  go_wp2
  go_loopw [11] (fun iv wr => ∃ t : Nat, t ≤ (d.r i).q.length ∧ iv = .int .i64 (t : Int) ∧ Only (L.lb i) w wr ∧ wr.heap[L.lb i]? = some (.cells (lc (stL kp (d.r i).s (d.r i).q t) (d.r i).n).toArray 5 (0, 0))) (fun iv _ => (d.r i).q.length - (intOf iv).toNat)
  case atStart => exact ⟨0, Nat.zero_le _, rfl, Only.refl _ _, h.lb i hi⟩
  case round =>
    obtain ⟨t, ht, rfl, ho, hb⟩ := hrel
    have hsz : ∀ k, (stL kp (d.r i).s (d.r i).q t k).size = 64 := fun k => stL_size (h.ok.r i hi).s (fun x hx => ((h.ok.r i hi).q x hx).2) t ht k
    have hm := h.mid hi ho hb hsz
    have HS : Hid _ := hsz
    clear hsz
    obtain ⟨m1, m2, m3⟩ := hm.cR (i := i) hi
    have hri : (d.at i { d.r i with s := stL kp (d.r i).s (d.r i).q t }).r i = { d.r i with s := stL kp (d.r i).s (d.r i).q t } := upd_at _ _ _
    have HRI : Hid _ := hri
    rw [hri] at m1 m2
    clear hri
    unfold qv at m2
    by_cases c : t < (d.r i).q.length
    · dsimp only at m1 m2
      rw [pt_pos _ (by omega), cp_pos _ (by omega)] at m2
      have HK := hid (HF.out t wr (by omega) ho)
      cases hkt : kp t
      · rw [hkt] at HK
        have hst := stL_no hkt (d.r i).s (d.r i).q
        have HST : Hid _ := hst
        clear hst hkt
        go_wp2_with fail
        refine HK.out.mono ?_
        rintro e w1 ⟨rfl, rfl⟩
        go_wp2
        go_roundw
        case rel => exact ⟨t + 1, by omega, by go_num, ho, by rw [HST.out]; exact hb⟩
        case measure => simp [intOf] <;> omega
      · rw [hkt] at HK
        have hst := stL_yes hkt (d.r i).s (d.r i).q
        have HST : Hid _ := hst
        clear hst hkt
        have hq1 : t < ((d.at i { d.r i with s := stL kp (d.r i).s (d.r i).q t }).r i).q.length := by rw [HRI.out]; exact c
        have q1 := (hm.cQ (i := i) hi hq1).1
        have cp1 := copyW hm.drew (i := i) hi hq1 (64 * (d.r i).n - (qx (d.r i).q t).1 * 64) 3
        have hx := (h.ok.r i hi).q _ (qx_mem c)
        have CA := hid <| at_ hm.drew (i := i) hi (s := (qx (d.r i).q t).1) (by rw [HRI.out]; exact hx.1)
        rw [HRI.out] at q1 cp1 CA
        dsimp only at q1 cp1 CA
        unfold rp at CA
        have hx1 := hx.1
        clear hq1 hx
        generalize hgx : (qx (d.r i).q t).1 = xs at q1 cp1 CA hx1 HST
        have HGX : Hid _ := hgx
        clear hgx
        go_wp2_with fail
        refine HK.out.mono ?_
        rintro e w1 ⟨rfl, rfl⟩
        go_wp2_with fail
        go_region_with (go_at_call 83; refine CA.out.mono ?_; rintro e w1 ⟨rfl, rfl⟩)
        all_goals try go_wp2
        all_goals go_roundw
        case rel => exact ⟨t + 1, by omega, by go_num, ho.drew.row _, by rw [HST.out, blk_row (w := wr.drew) hb]⟩
        case measure => simp [intOf] <;> omega
    · have ht2 : t = (d.r i).q.length := by omega
      subst ht2
      have hres := h.reset hi ho.size hb ho.block HS.out
      have hk1 : Kept F w (wr.setCell ⟨L.R, i * 2 + 1, none⟩ (.slice none 0 0)) := Kept.setCell ⟨ho.os, ho.tape, ho.output, by rw [ho.size]; exact Nat.le_refl _, fun k _ hF => ho.block k fun e => hF (by rw [e]; exact hlbF)⟩ hRF _
      have hn1 : Nums w (wr.setCell ⟨L.R, i * 2 + 1, none⟩ (.slice none 0 0)) := by
        obtain ⟨l, g1, _⟩ := h.rows (by omega)
        have g2 : wr.heap[L.R]? = _ := (ho.block _ (fun e => lb_ne_R h hi e.symm)).trans g1
        exact Nums.trans (fun b cs fr hb => ho.block b (u64_ne h hi hb)) (Nums.setCell g2 (by decide) _)
      have hs1 : (wr.setCell ⟨L.R, i * 2 + 1, none⟩ (.slice none 0 0)).heap.size = w.heap.size := by rw [← ho.size]; simp [World.setCell]
      have HP : Hid (DkL (wr.setCell ⟨L.R, i * 2 + 1, none⟩ (.slice none 0 0)) D (d.at i ((d.r i).set kp)) F L ∧ Kept F w (wr.setCell ⟨L.R, i * 2 + 1, none⟩ (.slice none 0 0)) ∧ Nums w (wr.setCell ⟨L.R, i * 2 + 1, none⟩ (.slice none 0 0)) ∧ (wr.setCell ⟨L.R, i * 2 + 1, none⟩ (.slice none 0 0)).heap.size = w.heap.size) := ⟨hres, hk1, hn1, hs1⟩
      clear hres hk1 hn1 hs1
      go_wp2
      go_end0
      exact ⟨rfl, HP.out⟩

theorem settle {w : World} {D : Nat} {d : Dk} {F : Nat → Prop} {L : Ly} (h : DkL w D d F L) {i : Nat} (hi : i < d.k) (hq : (d.r i).q.length ≤ 1048576) {fv : Value} {kp : Nat → Bool} (hf : FV w fv kp) :
    Calls Try.prog 62 #[rp L i, fv] w fun e w' => e = .returned (.tuple #[]) ∧ DkL w' D (d.at i ((d.r i).set kp)) F L ∧ Kept F w w' ∧ Nums w w' ∧ w'.heap.size = w.heap.size := by
  rcases hf with ⟨rfl, hkp⟩ | ⟨rfl, hkp⟩ | ⟨b, x, rfl, hb, h0, h1, hkp⟩
  · exact settleAll h hi hq hkp
  · exact settleNone h hi hq hkp
  · exact settleBits h hi hq hb h0 h1 hkp

end Go.Proofs.Ytcnonioiggniiaa.Wd
