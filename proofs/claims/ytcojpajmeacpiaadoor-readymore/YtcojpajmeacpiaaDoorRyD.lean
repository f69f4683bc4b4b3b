/-
  The contracts of least, of slices.AppendSeq and slices.Collect as they are called here, and of List. Conditions: the table of the library lies in memory.
-/
import Derived.Test.YtcojpajmeacpiaaDoorRyB
import Derived.RangeFuncBox
import Derived.Maps.AppendAt
namespace Go.Proofs.YtcojpajmeacpiaaDoor.Wry
open Go.ChangeShapes Go.WideShapes Go.ChangeAt Go.RowKit Go.Shelf Go.Proofs.YtcojpajmeacpiaaDoor.M
attribute [local go_sem] Oper.semAt_some

theorem three (w : World) (v0 v1 v2 : Value) (t0 t1 t2 : TypeId) :
    Boxed (((w.alloc (.cells #[v0] t0)).alloc (.cells #[v1] t1)).alloc (.cells #[v2] t2)) w.heap.size t0 v0 ∧
    Boxed (((w.alloc (.cells #[v0] t0)).alloc (.cells #[v1] t1)).alloc (.cells #[v2] t2)) (w.heap.size + 1) t1 v1 ∧
    Boxed (((w.alloc (.cells #[v0] t0)).alloc (.cells #[v1] t1)).alloc (.cells #[v2] t2)) (w.heap.size + 1 + 1) t2 v2 ∧
    Below w.heap.size w (((w.alloc (.cells #[v0] t0)).alloc (.cells #[v1] t1)).alloc (.cells #[v2] t2)) := by
  have b1 := Boxed.new (w.alloc (.cells #[v0] t0)) t1 v1
  have b2 := Boxed.new ((w.alloc (.cells #[v0] t0)).alloc (.cells #[v1] t1)) t2 v2
  simp only [World.size_alloc] at b1 b2
  exact ⟨((Boxed.new w t0 v0).alloc _).alloc _, b1.alloc _, b2, (((Below.refl _ w).alloc (Nat.le_refl _) _).alloc (by simp) _).alloc (by simp; omega) _⟩

theorem own_low {w : World} {base base' e size n : Nat} {v : Value} {xs : List Value} (h : w.ownsRow base e size v n xs) (hb : base' ≤ base) : w.ownsRow base' e size v n xs := by
  refine ⟨h.1, ?_⟩
  rcases h.2 with q | ⟨g, cap, cur, q1, q2, q3⟩
  · exact .inl q
  · exact .inr ⟨g, cap, cur, q1, Nat.le_trans hb q2, q3⟩

theorem bl_ne {x k : Nat} (h : k ∈ bl x) : x ≠ 0 := fun e => by
  rw [e, bl_zero] at h
  cases h

/-- The least bit, and is there one? -/
def lea (x : Nat) : Nat := if x = 0 then 0 else Lib.ctz 32 x

set_option maxRecDepth 100000 in
set_option maxHeartbeats 4000000 in
theorem least {w : World} {x : Nat} (hx : x < 4294967296) (hT : Tab w) :
    Calls Tryd.prog 21 #[.int .u32 (x : Int)] w fun e w' => e = .returned (.tuple #[.int .i64 (lea x : Int), .bool (decide (x ≠ 0))]) ∧ Below w.heap.size w w' := by
  have hT0 := hT.lt
  have HT := hid hT
  clear hT
  refine (callsIn_wide (n := 5)).1 ?_
  refine callsIn_of_wp_marks Tryd.func21 rfl trivial ?_ rfl
  simp only [Tryd.ntmps21, List.size_toArray, List.length_cons, List.length_nil, Nat.reduceAdd, Nat.reduceSub, Array.replicate_succ, Array.replicate_zero, List.push_toArray, List.append_toArray, List.nil_append, List.cons_append]
  gi_wp2_with (refine ⟨trivial, ?_⟩; gi_at_call 26; refine (callsIn_wide.2 (places x _)).mono ?_; rintro e w' ⟨rfl, rfl⟩)
  obtain ⟨b0, b1, b2, bB⟩ := three w (.int .i64 0) (.bool false) (.int .u32 (x : Int)) 3 4 28
  have bT := hid (HT.out.below hT0 bB)
  refine wpIn_rangeFunc_ownF rfl (by omega) (gf := 32) (lb := #[.pointer (some ⟨w.heap.size + 1 + 1, 0, none⟩)]) rfl trivial (enters_of Tryd.func32 (by kernel_rfl) rfl)
    (places_stops 4 (by omega) (w.heap.size + 1 + 1) w.heap.size x hx hT0 _ b2.lt b2.cell bT.out) belowK_t (belowK_b (by simp; omega)) (Below.refl _ _) (fun _ => rfl)
    (fun pre W => (pre = [] ∧ Boxed W w.heap.size 3 (.int .i64 0) ∧ Boxed W (w.heap.size + 1) 4 (.bool false)) ∧ Below w.heap.size w W)
    (fun c pre W => ((c = .ret ∧ ∃ i : Pl x, pre = [i]) ∧ Boxed W w.heap.size 3 (.int .i64 (((pv pre).headD 0 : Nat) : Int)) ∧ Boxed W (w.heap.size + 1) 4 (.bool true)) ∧ Below w.heap.size w W)
    (OwnFrom.and (OwnFrom.and (ownFrom_pure _ _) (OwnFrom.and (Own.from (boxed_own _ _ fun _ => _) _) (Own.from (boxed_own _ _ fun _ => _) _))) (ownFrom_below (Nat.le_refl _) (by simp; omega)))
    (fun c => OwnFrom.and (OwnFrom.and (ownFrom_pure _ _) (OwnFrom.and (Own.from (boxed_own _ _ fun pre => .int .i64 (((pv pre).headD 0 : Nat) : Int)) _) (Own.from (boxed_own _ _ fun _ => _) _))) (ownFrom_below (Nat.le_refl _) (by simp; omega)))
    ⟨⟨rfl, b0, b1⟩, bB⟩
    (fun i => { tmps := #[.int .u32 (x : Int), undef, .pointer (some ⟨w.heap.size, 0, none⟩), .pointer (some ⟨w.heap.size + 1, 0, none⟩), .int .i64 (i.1 : Int), .int .u32 (x : Int), .func (.func 32) #[] #[.pointer (some ⟨w.heap.size + 1 + 1, 0, none⟩)], .int .i64 (i.1 : Int), undef], defers := [] }) ?assign ?body ?done ?stop
  case assign =>
    intro l i W K hK
    gi_wp2
    exact hK
  case body =>
    clear b0 b1 b2 bB bT
    rintro l pre i W ⟨⟨rfl, B0, B1⟩, hB⟩ _
    have c0 := B0.cell
    have f0 := B0.frozen
    have c1 := B1.cell
    have f1 := B1.frozen
    gi_wp2
    exact ⟨(KeepsOthers.setCell _ _ _).trans (KeepsOthers.setCell _ _ _), ⟨⟨rfl, i, rfl⟩, (B0.set _).other (by omega) _, (B1.other (by omega) _).set _⟩, (hB.setCell (p := ⟨w.heap.size, 0, none⟩) (Nat.le_refl _) _).setCell (p := ⟨w.heap.size + 1, 0, none⟩) (by simp) _⟩
  case done =>
    rintro D ys W hD hys ⟨⟨rfl, B0, B1⟩, hB⟩ hK
    have hx0 : x = 0 := by
      apply Decidable.byContradiction
      intro hn
      have := (bl_step hx hn).2.2.2.1
      rw [← hys] at this
      cases this
    subst hx0
    have c0 := B0.cell
    have f0 := B0.frozen
    have c1 := B1.cell
    have f1 := B1.frozen
    gi_wp2
    have hK' := ((KeepsOthers.setCell W ⟨w.heap.size, 0, none⟩ (.int .i64 0)).trans (KeepsOthers.setCell _ ⟨w.heap.size + 1, 0, none⟩ (.bool false))).same D _ hK rfl
    refine ⟨by simp, .inl ⟨_, _, rfl, run_takeDeferred hK', ?_⟩⟩
    have k0 := cell_kept ((B0.set (.int .i64 0)).other (B' := w.heap.size + 1) (by omega) (.bool false)).cell (grownBy_putObj' _ D (.deferred none)) (fun r e => by cases e; exact ⟨_, hK', rfl⟩)
    have k1 := cell_kept ((B1.other (B' := w.heap.size) (by omega) (.int .i64 0)).set (.bool false)).cell (grownBy_putObj' _ D (.deferred none)) (fun r e => by cases e; exact ⟨_, hK', rfl⟩)
    refine ⟨.tuple #[.int .i64 0, .bool false], ?_, rfl, ((hB.setCell (p := ⟨w.heap.size, 0, none⟩) (Nat.le_refl _) _).setCell (p := ⟨w.heap.size + 1, 0, none⟩) (by simp) _).trans (belowK_b (w := w) (Nat.le_refl _) _ D _ _ (by simp at hD; omega) hK' rfl rfl)⟩
    simp [results, Tryd.f21, go_sem, k0, k1]
  case stop =>
    rintro D c pre W hD ⟨t, hpre⟩ ⟨⟨⟨rfl, i, rfl⟩, B0, B1⟩, hB⟩ hK
    have hn := bl_ne i.2
    have hi : lea x = i.1 := by
      have := (bl_step hx hn).2.2.2.1
      rw [hpre] at this
      unfold lea
      rw [if_neg hn]
      simp [pv] at this
      exact this.1.symm
    gi_wp2
    refine ⟨by simp, .inl ⟨_, _, rfl, run_takeDeferred hK, ?_⟩⟩
    have k0 := cell_kept B0.cell (grownBy_putObj' _ D (.deferred none)) (fun r e => by cases e; exact ⟨_, hK, rfl⟩)
    have k1 := cell_kept B1.cell (grownBy_putObj' _ D (.deferred none)) (fun r e => by cases e; exact ⟨_, hK, rfl⟩)
    refine ⟨.tuple #[.int .i64 (i.1 : Int), .bool true], ?_, by rw [hi, decide_eq_true hn], hB.trans (belowK_b (w := w) (Nat.le_refl _) W D _ _ (by simp at hD; omega) hK rfl rfl)⟩
    simp [results, Tryd.f21, go_sem, k0, k1, pv]

theorem infoI : (Tryd.prog.info? 3).map (fun i => (i.zero, i.size, i.bytes)) = some (some (.int .i64 0), 1, 8) := by kernel_rfl

set_option maxRecDepth 100000 in
set_option maxHeartbeats 4000000 in
theorem appendSeq {w : World} {x b : Nat} (hx : x < 4294967296) (hT : Tab w) (hb : b < w.heap.size) (hc : w.cell? ⟨b, 0, none⟩ = some (.int .u32 (x : Int))) :
    Calls Tryd.prog 35 #[.slice none 0 0, .func (.func 32) #[] #[.pointer (some ⟨b, 0, none⟩)]] w fun e w' => ∃ v, e = .returned v ∧ w'.ownsRow w.heap.size 3 1 v (bl x).length ((bl x).map fun i : Nat => Value.int .i64 (i : Int)) ∧ Below w.heap.size w w' := by
  have hT0 := hT.lt
  have HT := hid hT
  have HC := hid hc
  obtain ⟨i0, hi, hz0, hz1, hz2⟩ := info_parts infoI
  clear hT hc
  refine (callsIn_wide (n := 5)).1 ?_
  refine callsIn_of_wp_marks Tryd.func35 rfl trivial ?_ rfl
  simp only [Tryd.ntmps35, List.size_toArray, List.length_cons, List.length_nil, Nat.reduceAdd, Nat.reduceSub, Array.replicate_succ, Array.replicate_zero, List.push_toArray, List.append_toArray, List.nil_append, List.cons_append]
  gi_wp2
  have bO := Boxed.new w 25 (.slice none 0 0)
  have hB0 := hid (al w (.cells #[.slice none 0 0] 25))
  have hT1 := hid (HT.out.below hT0 hB0.out)
  have hC1 := hid ((hB0.out.cell (p := ⟨b, 0, none⟩) hb).trans HC.out)
  refine wpIn_rangeFunc_ownG rfl (by omega) (gf := 32) (lb := #[.pointer (some ⟨b, 0, none⟩)]) rfl trivial (enters_of Tryd.func32 (by kernel_rfl) rfl)
    (places_stops 4 (by omega) b w.heap.size x hx hT0 _ (by simp; omega) hC1.out hT1.out) belowK_t (belowK_b (by simp)) (Below.refl _ _) (fun _ => rfl)
    (fun pre W => (∃ v, Boxed W w.heap.size 25 v ∧ W.ownsRow w.heap.size 3 1 v (pv pre).length ((pv pre).map fun i : Nat => Value.int .i64 (i : Int)) ∧ True) ∧ Below w.heap.size w W)
    (fun _ _ _ => False)
    (OwnFrom.and (Own.from (holdsRow_own w.heap.size w.heap.size 25 3 1 (fun pre => (pv pre).length) (fun pre => (pv pre).map fun i : Nat => Value.int .i64 (i : Int)) (fun _ _ => True)) _) (ownFrom_below (Nat.le_refl _) (by simp)))
    (fun _ _ _ _ _ hs _ _ => hs)
    ⟨⟨_, bO, World.ownsRow_nil _ _ _ _, trivial⟩, hB0.out⟩
    (fun i => { tmps := #[.slice none 0 0, .func (.func 32) #[] #[.pointer (some ⟨b, 0, none⟩)], .pointer (some ⟨w.heap.size, 0, none⟩), undef, .slice none 0 0, .int .i64 (i.1 : Int), .func (.func 32) #[] #[.pointer (some ⟨b, 0, none⟩)], .int .i64 (i.1 : Int), undef, undef, undef, undef, undef], defers := [] }) ?assign ?body ?done ?stop
  case assign =>
    intro l i W K hK
    gi_wp2
    exact hK
  case body =>
    rintro l pre i W ⟨⟨v, hv, hrow, _⟩, hB⟩ hlt
    have hc := hv.cell
    have hpl : (pv pre).length ≤ 32 := by unfold pv; rw [List.length_map]; omega
    have hsn := pv_snoc pre i
    gi_wp2_with (gi_at_builtin; refine wpListIn_append_own _ rfl _ _ 25 rfl w.heap.size 3 i0 (.int .i64 0) 1 8 Tryd.underlying25 hi hz0 hz1 hz2 rfl (by decide) _ _ _ rfl (hrow.alloc _) ⟨W.heap.size, 0, none⟩ 1 1 [.int .i64 (i.1 : Int)] rfl rfl (cell_one_new _ _ _) (by simp [Value.oneCell']) (by unfold maxLen; omega) (by omega) (by have := hB.size; simp; omega) ?_; intro v' w1 hown' hgrow _; obtain ⟨g', cap', rfl⟩ := ownsRow_succ hown'; obtain ⟨hv1, hv2, hr2, hk2, hb2⟩ := hv.appended (by decide) hrow hB.size (Nat.le_refl _) hown' hgrow; have hc1 := hv1.cell; have hf1 := hv1.frozen)
    exact ⟨hk2.from _, hb2, ⟨_, hv2, by rw [hsn]; simpa using hr2, trivial⟩, hB.trans hb2⟩
  case done =>
    rintro D ys W hD hys ⟨⟨v, hv, hrow, _⟩, hB⟩ hK
    have hc := hv.cell
    gi_wp2
    refine ⟨by simp, .inl ⟨_, _, rfl, run_takeDeferred hK, ?_⟩⟩
    exact ⟨_, results_tmp rfl _ _ _, v, rfl, by rw [← hys]; exact ownsRow_putObj hrow _ hK rfl, hB.trans (belowK_b (w := w) (Nat.le_refl _) W D _ _ (by simp at hD; omega) hK rfl rfl)⟩
  case stop =>
    rintro D c pre W _ _ h _
    exact h.elim

set_option maxRecDepth 100000 in
set_option maxHeartbeats 1000000 in
theorem list {w : World} {x : Nat} (hx : x < 4294967296) (hT : Tab w) :
    Calls Tryd.prog 17 #[.int .u32 (x : Int)] w fun e w' => ∃ v, e = .returned v ∧ w'.ownsRow w.heap.size 3 1 v (bl x).length ((bl x).map fun i : Nat => Value.int .i64 (i : Int)) ∧ Below w.heap.size w w' := by
  have hT0 := hT.lt
  have B0 := hid (al w (.cells #[.int .u32 (x : Int)] 28))
  have hT1 := hid (hT.below hT0 B0.out)
  have C1 := hid (appendSeq (w := w.alloc (.cells #[.int .u32 (x : Int)] 28)) (x := x) (b := w.heap.size) hx hT1.out (by simp) (Boxed.new w 28 (.int .u32 (x : Int))).cell)
  have C0 : Hid (Calls Tryd.prog 30 #[.func (.func 32) #[] #[.pointer (some ⟨w.heap.size, 0, none⟩)]] (w.alloc (.cells #[.int .u32 (x : Int)] 28)) fun e w' => ∃ v, e = .returned v ∧ w'.ownsRow w.heap.size 3 1 v (bl x).length ((bl x).map fun i : Nat => Value.int .i64 (i : Int)) ∧ Below w.heap.size w w') := hid (by
    go_enter Tryd.func30, Tryd.ntmps30
    go_wp2_with fail
    refine C1.out.mono ?_
    rintro e w1 ⟨v, rfl, own, b1⟩
    go_wp2_with fail
    go_ret
    refine ⟨_, rfl, own_low own (by simp), B0.out.trans (b1.mono (by simp))⟩)
  clear hT C1
  go_enter Tryd.func17, Tryd.ntmps17
  go_wp2_with fail
  refine (places x w).mono ?_
  rintro e w1 ⟨rfl, rfl⟩
  go_wp2_with fail
  refine C0.out.mono ?_
  rintro e w1 ⟨v, rfl, own, b1⟩
  go_wp2_with fail
  go_ret
  exact ⟨_, rfl, own, b1⟩

end Go.Proofs.YtcojpajmeacpiaaDoor.Wry
