/-
  The contract of Ready. Conditions: the masks lie in memory, and the table of the library.
-/
import Derived.Test.YtcojpajmeacpiaaDoorRyB
namespace Go.Proofs.YtcojpajmeacpiaaDoor.Wry
open Go.ChangeShapes Go.WideShapes Go.ChangeAt Go.RowKit Go.Shelf Go.Proofs.YtcojpajmeacpiaaDoor.M
attribute [local go_sem] Oper.semAt_some

/-- What a loop over places keeps: own boxes, and what lay below. -/
theorem own3 {x : Nat} (B : Nat) (f : List (Pl x) → Value) (t : TypeId) : Own (fun pre W => Boxed W B t (f pre)) := boxed_own B t f

theorem four (w : World) (v0 v1 v2 v3 : Value) (t0 t1 t2 t3 : TypeId) :
    Boxed ((((w.alloc (.cells #[v0] t0)).alloc (.cells #[v1] t1)).alloc (.cells #[v2] t2)).alloc (.cells #[v3] t3)) w.heap.size t0 v0 ∧
    Boxed ((((w.alloc (.cells #[v0] t0)).alloc (.cells #[v1] t1)).alloc (.cells #[v2] t2)).alloc (.cells #[v3] t3)) (w.heap.size + 1) t1 v1 ∧
    Boxed ((((w.alloc (.cells #[v0] t0)).alloc (.cells #[v1] t1)).alloc (.cells #[v2] t2)).alloc (.cells #[v3] t3)) (w.heap.size + 1 + 1) t2 v2 ∧
    Boxed ((((w.alloc (.cells #[v0] t0)).alloc (.cells #[v1] t1)).alloc (.cells #[v2] t2)).alloc (.cells #[v3] t3)) (w.heap.size + 1 + 1 + 1) t3 v3 ∧
    Below w.heap.size w ((((w.alloc (.cells #[v0] t0)).alloc (.cells #[v1] t1)).alloc (.cells #[v2] t2)).alloc (.cells #[v3] t3)) := by
  have b1 := Boxed.new (w.alloc (.cells #[v0] t0)) t1 v1
  have b2 := Boxed.new ((w.alloc (.cells #[v0] t0)).alloc (.cells #[v1] t1)) t2 v2
  have b3 := Boxed.new (((w.alloc (.cells #[v0] t0)).alloc (.cells #[v1] t1)).alloc (.cells #[v2] t2)) t3 v3
  simp only [World.size_alloc] at b1 b2 b3
  exact ⟨(((Boxed.new w t0 v0).alloc _).alloc _).alloc _, (b1.alloc _).alloc _, b2.alloc _, b3, ((((Below.refl _ w).alloc (Nat.le_refl _) _).alloc (by simp) _).alloc (by simp; omega) _).alloc (by simp; omega) _⟩

set_option maxRecDepth 100000 in
set_option maxHeartbeats 4000000 in
theorem ready {w : World} {a : Option Addr} {M : List Nat} {cap D : Nat} (h : Ms w a M) (hM : MOk M) (hD : D < 4294967296) (hT : Tab w) :
    Calls Tryd.prog 15 #[.slice a M.length cap, .int .u32 (D : Int)] w fun e w' => e = .returned (.int .u32 (rdn M D : Int)) ∧ Below w.heap.size w w' := by
  have han := hid (u32_andnot_nat (al_ M) D (al_lt M) hD)
  have hg := hid (gat_rdn M hD)
  obtain ⟨x, hx⟩ : ∃ x, x = al_ M &&& (4294967295 - D) := ⟨_, rfl⟩
  rw [← hx] at han hg
  have hx32 : x < 4294967296 := by rw [hx]; exact Nat.lt_of_le_of_lt Nat.and_le_left (al_lt M)
  have hxn : Hid (∀ i, i ∈ bl x → i < nn M) := hid (fun i hi => by
    have := (mem_bl.1 hi).2
    rw [hx, Nat.testBit_and, al_bit, Bool.and_eq_true] at this
    exact of_decide_eq_true this.1)
  clear hx
  have hT0 := hT.lt
  have HM := hid h
  have HT := hid hT
  clear h hT
  refine (callsIn_wide (n := 5)).1 ?_
  refine callsIn_of_wp_marks Tryd.func15 rfl trivial ?_ rfl
  simp only [Tryd.ntmps15, List.size_toArray, List.length_cons, List.length_nil, Nat.reduceAdd, Nat.reduceSub, Array.replicate_succ, Array.replicate_zero, List.push_toArray, List.append_toArray, List.nil_append, List.cons_append]
  gi_wp2_with (refine ⟨trivial, ?_⟩; gi_at_call 27; refine (callsIn_wide.2 (all M a cap _)).mono ?_; rintro e w' ⟨rfl, rfl⟩)
  rw [han.out]
  gi_wp2_with (refine ⟨trivial, ?_⟩; gi_at_call 26; refine (callsIn_wide.2 (places x _)).mono ?_; rintro e w' ⟨rfl, rfl⟩)
  obtain ⟨b0, b1, b2, b3, bB⟩ := four w (.slice a M.length cap) (.int .u32 (x : Int)) (.int .u32 0) (.int .u32 (x : Int)) 22 28 28 28
  have bM := hid (HM.out.below bB)
  have bT := hid (HT.out.below hT0 bB)
  refine wpIn_rangeFunc_ownF rfl (by omega) (gf := 32) (lb := #[.pointer (some ⟨w.heap.size + 1 + 1 + 1, 0, none⟩)]) rfl trivial (enters_of Tryd.func32 (by kernel_rfl) rfl)
    (places_stops 4 (by omega) (w.heap.size + 1 + 1 + 1) w.heap.size x hx32 hT0 _ b3.lt b3.cell bT.out) belowK_t (belowK_b (by simp; omega)) (Below.refl _ _) (fun _ => rfl)
    (fun pre W => (Boxed W w.heap.size 22 (.slice a M.length cap) ∧ Boxed W (w.heap.size + 1) 28 (.int .u32 (x : Int)) ∧ Boxed W (w.heap.size + 1 + 1) 28 (.int .u32 ((gat (nob M x) (pv pre) : Nat) : Int))) ∧ Below w.heap.size w W)
    (fun _ _ _ => False)
    (OwnFrom.and (OwnFrom.and (Own.from (boxed_own _ _ fun _ => _) _) (OwnFrom.and (Own.from (boxed_own _ _ fun _ => _) _) (Own.from (boxed_own _ _ fun pre => .int .u32 ((gat (nob M x) (pv pre) : Nat) : Int)) _))) (ownFrom_below (Nat.le_refl _) (by simp; omega)))
    (fun _ _ _ _ _ hs _ _ => hs)
    ⟨⟨b0, b1, b2⟩, bB⟩
    (fun i => { tmps := #[.slice a M.length cap, .int .u32 (D : Int), .pointer (some ⟨w.heap.size, 0, none⟩), undef, .int .u32 0, .pointer (some ⟨w.heap.size + 1, 0, none⟩), .pointer (some ⟨w.heap.size + 1 + 1, 0, none⟩), .int .i64 (i.1 : Int), .slice a M.length cap, .int .u32 (al_ M : Int), .int .u32 (D : Int), .int .u32 (x : Int), .int .u32 (x : Int), .func (.func 32) #[] #[.pointer (some ⟨w.heap.size + 1 + 1 + 1, 0, none⟩)], .int .i64 (i.1 : Int), undef, undef, undef, undef, undef, undef, undef, undef, undef, undef, undef, undef], defers := [] }) ?assign ?body ?done ?stop
  case assign =>
    intro l i W K hK
    gi_wp2
    exact hK
  case body =>
    clear b0 b1 b2 b3 bB bM bT
    rintro l pre ⟨i, hi⟩ W ⟨⟨B0, B1, B2⟩, hB⟩ _
    have hin := hxn.out i hi
    have hi32 : i < 32 := (mem_bl.1 hi).1
    obtain ⟨g, o, rfl, hg', hc⟩ := (HM.out.below hB).at (mk_at hin)
    have hil : i < M.length := Nat.lt_of_lt_of_le hin (nn_len M)
    have e1 := hid (u32_and_nat (mk M i) x (mk_lt hM i) hx32)
    have hgl := gat_lt (nob M x) (l := pv pre) (fun j hj => by obtain ⟨q, _, rfl⟩ := List.mem_map.1 hj; exact (mem_bl.1 q.2).1)
    have c0 := B0.cell
    have c1 := B1.cell
    have c2 := B2.cell
    have f2 := B2.frozen
    have hsn : Hid (gat (nob M x) (pv (pre ++ [⟨i, hi⟩])) = if nob M x i then gat (nob M x) (pv pre) ||| 2 ^ i else gat (nob M x) (pv pre)) := hid (by
      rw [pv_snoc, gat_snoc])
    generalize gat (nob M x) (pv pre) = G at *
    have ho := hid (u32_or_nat G (2 ^ i) hgl (by have : 2 ^ i < 2 ^ 32 := Nat.pow_lt_pow_right (by decide) hi32; omega))
    rw [← pow_u32 hi32, ← IntKind.wrap_u32] at ho
    obtain ⟨m, hm⟩ : ∃ m, Hid (mk M i = m) := ⟨_, hid rfl⟩
    rw [hm.out] at hc e1
    by_cases hz : m &&& x = 0
    · have t1 : (bits .and .u32 (m : Int) (x : Int) == 0) = true := by rw [e1.out, hz]; rfl
      have t2 : decide (bits .and .u32 (m : Int) (x : Int) = 0) = true := by rw [e1.out, hz]; rfl
      have hsn' : Hid (gat (nob M x) (pv (pre ++ [⟨i, hi⟩])) = G ||| 2 ^ i) := hid (by rw [hsn.out, if_pos (show nob M x i = true from decide_eq_true (by rw [hm.out]; exact hz))])
      clear e1 hsn hz
      have hmx : Tryd.prog.follows .mixedOrders = true := by kernel_rfl
      gi_wp2
      gi_region_with_o (fail)
      all_goals gi_wp2
      all_goals gi_region_with_o (fail)
      all_goals gi_wp2
      all_goals rw [ho.out]
      all_goals exact ⟨((KeepsOthers.setCell _ _ _).trans (KeepsOthers.drew _)).trans (KeepsOthers.drew _), ((Below.refl w.heap.size W).setCell (p := ⟨w.heap.size + 1 + 1, 0, none⟩) (by simp; omega) _).drew.drew, ⟨⟨B0.other (by omega) _, B1.other (by omega) _, by rw [hsn'.out]; exact B2.set _⟩, (hB.setCell (p := ⟨w.heap.size + 1 + 1, 0, none⟩) (by simp; omega) _).drew.drew⟩⟩
    · have t1 : (bits .and .u32 (m : Int) (x : Int) == 0) = false := by rw [e1.out, beq_eq_false_iff_ne]; omega
      have t2 : decide (bits .and .u32 (m : Int) (x : Int) = 0) = false := by rw [e1.out]; exact decide_eq_false (by omega)
      have hsn' : Hid (gat (nob M x) (pv (pre ++ [⟨i, hi⟩])) = G) := hid (by rw [hsn.out, if_neg (by unfold nob; rw [hm.out, decide_eq_false hz]; decide)])
      clear e1 hsn hz
      have hmx : Tryd.prog.follows .mixedOrders = true := by kernel_rfl
      gi_wp2
      gi_region_with_o (fail)
      all_goals gi_wp2
      all_goals exact ⟨KeepsOthers.drew _, (Below.refl w.heap.size W).drew, ⟨⟨B0, B1, by rw [hsn'.out]; exact B2⟩, hB.drew⟩⟩
  case done =>
    rintro D ys W hD hys ⟨⟨_, _, B2⟩, hB⟩ hK
    have c2 := B2.cell
    gi_wp2
    refine ⟨by simp, .inl ⟨_, _, rfl, run_takeDeferred hK, ?_⟩⟩
    refine ⟨_, results_tmp rfl _ _ _, ?_, hB.trans (belowK_b (w := w) (Nat.le_refl _) W D _ _ (by simp at hD; omega) hK rfl rfl)⟩
    exact ret_u hg.out
  case stop =>
    rintro D c pre W _ _ h _
    exact h.elim

end Go.Proofs.YtcojpajmeacpiaaDoor.Wry
