/-
  The walk of the document's Lay.
-/
import Derived.Test.YtffhnkljmalbiaaRkD
namespace Go.Proofs.Ytffhnkljmalbiaa.Wr
open Go.ChangeShapes Go.WideShapes Go.ChangeAt Go.RowKit Go.Proofs.Ytffhnkljmalbiaa.M Go.Proofs.Ytffhnkljmalbiaa.Wd

/-- A region, of which the first t sectors are laid. -/
def ly (r : Rg) (x : ByteArray) (t : Nat) : Rg := { r with s := fun k => if k < t then cut64 x (64 * k) else r.s k, q := [] }
theorem ly_zero (r : Rg) (x : ByteArray) : ly r x 0 = { r with q := [] } := by
  unfold ly
  simp
theorem ly_succ (r : Rg) (x : ByteArray) (t : Nat) : ({ ly r x t with s := upd (ly r x t).s t (cut64 x (64 * t)) } : Rg) = ly r x (t + 1) := by
  have e : upd (ly r x t).s t (cut64 x (64 * t)) = (ly r x (t + 1)).s := by
    funext k
    show (if k = t then _ else if k < t then _ else _) = if k < t + 1 then _ else _
    by_cases c : k = t
    · subst c
      rw [if_pos rfl, if_pos (by omega)]
    · rw [if_neg c]
      by_cases c2 : k < t
      · rw [if_pos c2, if_pos (by omega)]
      · rw [if_neg c2, if_neg (by omega)]
  rw [e]
  rfl

theorem sl_congr {s s' : Nat → ByteArray} {n : Nat} (h : ∀ k, k < n → s' k = s k) : sl s' n = sl s n := by
  apply List.ext_getElem?
  intro j
  by_cases hj : j < n
  · rw [sl_get _ _ _ hj, sl_get _ _ _ hj, h j hj]
  · rw [List.getElem?_eq_none (by rw [sl_length]; omega), List.getElem?_eq_none (by rw [sl_length]; omega)]
theorem RkL.sectors {w : World} {D : Nat} {d : Dk} {F : Nat → Prop} {L : Lr} {i : Nat} {r r' : Rg} (h : RkL w D (d.at i r) F L) (hi : i < d.k) (hok : r'.ok) (hn : r'.n = r.n) (hq : r'.q = r.q) (hs : ∀ k, k < r.n → r'.s k = r.s k) : RkL w D (d.at i r') F L := by
  have hri : (d.at i r).r i = r := upd_at _ _ _
  have h1 := h.reg i hi
  have h2 := h.las i hi
  have h3 := h.que i hi
  rw [hri] at h1 h2 h3
  have P := h.turn (w' := w) (i := i) hi (r := r') hok (lb := L.lb i) (lm := L.lm i) (qb := L.qb i) (qm := L.qm i) (Nat.le_refl _) (fun _ _ _ _ _ => rfl) (by rw [hn, hq]; exact h1) (fun h0 => by
    rw [hn] at h0 ⊢
    obtain ⟨l, q1, q2, q3, q4, q5⟩ := h2 h0
    exact ⟨l, q1, q2, q3, q4, by rw [q5, sl_congr hs]⟩) (fun h0 => .inl ⟨by rw [hri, ← hn]; exact h0, rfl⟩) (fun h0 => by
    rw [hq] at h0 ⊢
    exact h3 h0) (fun h0 => .inl ⟨by rw [hri, ← hq]; exact h0, rfl⟩)
  rw [at_at, upd_self, upd_self, upd_self, upd_self, Gr.self] at P
  exact P

/-- The cells of a sector under way. -/
def pk (x : ByteArray) (a k : Nat) : List Value := (List.range 64).map fun j => .int .u8 (if j < k then bt x (a + j) else 0)
theorem pk_length (x : ByteArray) (a k : Nat) : (pk x a k).length = 64 := by simp [pk]
theorem pk_get (x : ByteArray) (a k j : Nat) (h : j < 64) : (pk x a k)[j]? = some (.int .u8 (if j < k then bt x (a + j) else 0)) := by
  unfold pk
  rw [List.getElem?_map, List.getElem?_range h]
  rfl
theorem pk_zero (x : ByteArray) (a : Nat) : pk x a 0 = lc (fun _ => noB) 1 := by
  apply List.ext_getElem?
  intro j
  by_cases hj : j < 64
  · rw [pk_get _ _ _ _ hj, lc_get _ _ _ (by omega), noB_bt, if_neg (by omega)]
  · rw [List.getElem?_eq_none (by rw [pk_length]; omega), List.getElem?_eq_none (by rw [lc_length]; omega)]
theorem pk_set (x : ByteArray) (a k : Nat) (h : k < 64) : (pk x a k).set k (.int .u8 (bt x (a + k))) = pk x a (k + 1) := by
  apply List.ext_getElem?
  intro j
  by_cases hj : j < 64
  · rw [pk_get _ _ _ _ hj]
    by_cases c : j = k
    · subst c
      rw [List.getElem?_set_self (by rw [pk_length]; exact hj), if_pos (by omega)]
    · rw [List.getElem?_set_ne (fun e => c e.symm), pk_get _ _ _ _ hj]
      by_cases c2 : j < k
      · rw [if_pos c2, if_pos (by omega)]
      · rw [if_neg c2, if_neg (by omega)]
  · rw [List.getElem?_eq_none (by rw [List.length_set, pk_length]; omega), List.getElem?_eq_none (by rw [pk_length]; omega)]
theorem pk_same (x : ByteArray) (a k : Nat) (h : ¬ a + k < x.size) : pk x a k = pk x a (k + 1) := by
  apply List.ext_getElem?
  intro j
  by_cases hj : j < 64
  · rw [pk_get _ _ _ _ hj, pk_get _ _ _ _ hj]
    by_cases c : j = k
    · subst c
      rw [if_neg (by omega), if_pos (by omega), bt_bx, bx_none h]
      rfl
    · by_cases c2 : j < k
      · rw [if_pos c2, if_pos (by omega)]
      · rw [if_neg c2, if_neg (by omega)]
  · rw [List.getElem?_eq_none (by rw [pk_length]; omega), List.getElem?_eq_none (by rw [pk_length]; omega)]
theorem pk_all (x : ByteArray) (a : Nat) : pk x a 64 = dc (cut64 x a) := by
  apply List.ext_getElem?
  intro j
  by_cases hj : j < 64
  · rw [pk_get _ _ _ _ hj, dc_get _ _ hj, if_pos hj, bt_bx, bt_bx, cut64_bx _ _ _ hj]
  · rw [List.getElem?_eq_none (by rw [pk_length]; omega), List.getElem?_eq_none (by rw [dc_length]; omega)]

set_option maxRecDepth 100000 in
set_option maxHeartbeats 1000000 in
theorem layR {w : World} {D : Nat} {d : Dk} {F : Nat → Prop} {L : Lr} (h : RkL w D d F L) (a : Int) (x : ByteArray) (hxz : x.size ≤ 140737488355328) :
    Calls Try.prog 35 #[.pointer (some ⟨D, 0, none⟩), .int .i64 a, .string x] w fun e w' => e = .returned (.tuple #[]) ∧ (∃ L', RkL w' D (d.lay a x) F L') ∧ Kept F w w' := by
  have c1 := h.cD.1
  have hk8 := h.ok.k
  by_cases c : d.has a = true
  · obtain ⟨i, rfl, hi⟩ := has_nat c
    have hE : Hid (d.lay (i : Int) x = d.at i ((d.r i).lay x)) := if_pos c
    have r1 := h.cR hi
    obtain ⟨g1, g2, g3⟩ := h.cG hi
    have hn4 := (h.ok.r i hi).n
    have hRok := hid (h.ok.r i hi)
    rw [pt_pos _ (by omega), cp_pos _ (by omega)] at c1
    have Q := h.qnil hi
    have e0 : d.at i { d.r i with q := [] } = d.at i (ly (d.r i) x 0) := by rw [ly_zero]
    rw [e0] at Q
    have QQ := hid (And.intro Q.1 Q.2.1)
    clear c Q e0
    have hm := make64
    have hd1 : decide (d.k ≤ i) = false := by simp; omega
    have hd2 : decide ((i : Int) < 0) = false := by simp
    go_enter Try.func35, Try.ntmps35
    go_wp2
    go_loopw [7] (fun tv wr => ∃ t : Nat, t ≤ (d.r i).n ∧ tv = .int .i64 (t : Int) ∧ RkL wr D (d.at i (ly (d.r i) x t)) F L ∧ Kept F w wr) (fun tv _ => (d.r i).n - (intOf tv).toNat)
    case atStart => exact ⟨0, Nat.zero_le _, rfl, QQ.out⟩
    case round =>
      clear QQ
      obtain ⟨t, ht, rfl, hd, hkp⟩ := hrel
      rename World => wo
      have hri : (d.at i (ly (d.r i) x t)).r i = ly (d.r i) x t := upd_at _ _ _
      obtain ⟨k1, k2, k3⟩ := hd.cG (i := i) hi
      rw [hri] at k1 k2
      have k1' : wo.cell? ⟨L.rb i, 0, none⟩ = some (.slice (pt (d.r i).n (L.lb i)) (d.r i).n (cp (d.r i).n (L.lm i))) := k1
      clear k1 k2 k3
      by_cases htl : t < (d.r i).n
      · rw [pt_pos (n := (d.r i).n) _ (by omega), cp_pos (n := (d.r i).n) _ (by omega)] at k1'
        have LAST : Hid (∀ W, Below wo.heap.size wo W → RkL (W.setCell ⟨L.lb i, t, none⟩ (.string (cut64 x (64 * t)))) D (d.at i (ly (d.r i) x (t + 1))) F L ∧ Kept F w (W.setCell ⟨L.lb i, t, none⟩ (.string (cut64 x (64 * t))))) := fun W hW => by
          have P := (hd.below hW).last (i := i) hi (k := t) (by rw [hri]; exact htl) (x := cut64 x (64 * t)) (cut64_size _ _)
          rw [hri, ly_succ, at_at] at P
          refine ⟨P.1, ?_⟩
          have e1 : Kept F w W := hkp.trans (.of_below hW)
          exact e1.trans (P.2.1.mono fun b _ hb => .inl hb)
        have LC : Hid (∀ W, Below wo.heap.size wo W → W.cell? ⟨L.lb i, t, none⟩ = some (.string ((ly (d.r i) x t).s t)) ∧ W.frozen? ⟨L.lb i, t, none⟩ = false ∧ W.cell? ⟨L.rb i, 0, none⟩ = some (.slice (some ⟨L.lb i, 0, none⟩) (d.r i).n (L.lm i))) := fun W hW => by
          obtain ⟨l1, l2⟩ := (hd.below hW).cL (i := i) hi (k := t) (by rw [hri]; exact htl)
          rw [hri] at l1
          exact ⟨l1, l2, (hW.cell (hd.lt _ (hd.ownr i hi))).trans k1'⟩
        have B0 := hid ((Below.refl wo.heap.size wo).alloc (Nat.le_refl _) (.cells (lc (fun _ => noB) 1).toArray 5))
        have P0 : Hid ((wo.alloc (.cells (lc (fun _ => noB) 1).toArray 5)).heap[wo.heap.size]? = some (.cells (pk x (64 * t) 0).toArray 5 (0, 0))) := by
          rw [pk_zero]
          exact heap_alloc_last wo _
        clear hd hkp
        generalize (ly (d.r i) x t).s t = old at *
        go_wp2
        go_loopw [9] (fun kv wk => ∃ k : Nat, k ≤ 64 ∧ kv = .int .i64 (k : Int) ∧ wk.heap[wo.heap.size]? = some (.cells (pk x (64 * t) k).toArray 5 (0, 0)) ∧ Below wo.heap.size wo wk) (fun kv _ => 64 - (intOf kv).toNat)
        case atStart => exact ⟨0, Nat.zero_le _, rfl, P0.out, B0.out⟩
        case round =>
          clear B0 P0
          obtain ⟨k, hk, rfl, hb, hbel⟩ := hrel
          by_cases hk64 : k < 64
          · by_cases hin : 64 * t + k < x.size
            · have cb := blk_cell hb (pk_get x (64 * t) k k hk64)
              have fb := blk_free hb k
              have hgt : ∀ (hh : t * 64 + k < x.size), ((x[t * 64 + k]'hh).toNat : Int) = bt x (64 * t + k) := fun hh => by
                rw [get_bt x _ hh, Nat.mul_comm t 64]
              have hin2 : t * 64 + k < x.size := by omega
              have hgt2 := hgt hin2
              have ST := hid (blk_set hb k (.int .u8 (bt x (64 * t + k))))
              rw [pk_set _ _ _ hk64] at ST
              have BE := hid (hbel.setCell (p := ⟨wo.heap.size, k, none⟩) (Nat.le_refl _) (.int .u8 (bt x (64 * t + k))))
              clear hgt hb hbel
              generalize bt x (64 * t + k) = bv at *
              go_wp2
              go_roundw
              case rel =>
                first
                  | exact ⟨k + 1, by omega, by go_num, ST.out, BE.out⟩
                  | (refine ⟨_, _, _, _, _, _, _, _, _, _, _, _, _, _, _, _, _, _, _, _, _, ⟨k + 1, by omega, ?_, ST.out, BE.out⟩, rfl⟩; go_num)
              case measure => simp [intOf] <;> omega
            · have SM := hid (pk_same x (64 * t) k hin)
              have HB := hid (And.intro hb hbel)
              have hin2 : ¬ t * 64 + k < x.size := by omega
              clear hb hbel
              go_wp2
              go_roundw
              case rel => exact ⟨k + 1, by omega, by go_num, by rw [← SM.out]; exact HB.out.1, HB.out.2⟩
              case measure => simp [intOf] <;> omega
          · have hk2 : k = 64 := by omega
            subst hk2
            rw [pk_all] at hb
            have hcv := conv_dc (W := wr.drew) hb (cut64_size x (64 * t))
            obtain ⟨l1, l2, l3⟩ := LC.out _ hbel
            have FI := hid (LAST.out _ hbel.drew)
            clear hb hbel
            generalize cut64 x (64 * t) = cx at *
            go_wp2_with fail
            go_region
            all_goals try go_wp2
            all_goals go_roundw
            case rel => exact ⟨t + 1, by omega, by go_num, FI.out⟩
            case measure => simp [intOf] <;> omega
      · have hE2 : t = (d.r i).n := by omega
        have FI := hid (And.intro hd hkp)
        clear hd hkp
        go_wp2
        go_end0
        obtain ⟨f1, f2⟩ := FI.out
        refine ⟨rfl, ⟨L, ?_⟩, f2⟩
        rw [hE.out]
        rw [hE2] at f1
        exact f1.sectors hi (Rg.lay_ok hRok.out x) rfl rfl (fun k hk => (if_pos hk).symm)
  · have hE : Hid (d.lay a x = d) := if_neg c
    have c0 : ¬ (0 ≤ a ∧ a < d.k) := fun h => c (has_iff.2 h)
    have HH := hid h
    clear c
    rcases Int.lt_or_le a 0 with h0 | h0
    all_goals
      go_enter Try.func35, Try.ntmps35
      go_wp2
      refine bodyPost_ret (results_none rfl _ _ _) rfl ?_
      exact ⟨rfl, by rw [hE.out]; exact ⟨L, HH.out⟩, Kept.refl _ _⟩

end Go.Proofs.Ytffhnkljmalbiaa.Wr
