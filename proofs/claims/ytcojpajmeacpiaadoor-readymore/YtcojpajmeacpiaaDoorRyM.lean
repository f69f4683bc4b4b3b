/-
  The contract of Depths ('dps'). Conditions: the masks lie in memory, and the table of the library.
-/
import Derived.Test.YtcojpajmeacpiaaDoorRyL
import Derived.Test.YtcojpajmeacpiaaDoorRyH
import Derived.Test.YtcojpajmeacpiaaDoorRyI
namespace Go.Proofs.YtcojpajmeacpiaaDoor.Wry
open Go.ChangeShapes Go.WideShapes Go.ChangeAt Go.RowKit Go.Shelf Go.Proofs.YtcojpajmeacpiaaDoor.M
attribute [local go_sem] Oper.semAt_some

/-- Below C nothing has turned but the row H. -/
def Sm (C H : Nat) (V W : World) : Prop := ∀ k, k < C → k ≠ H → W.heap[k]? = V.heap[k]?
theorem Sm.refl (C H : Nat) (V : World) : Sm C H V V := fun _ _ _ => rfl
theorem Sm.set {C H : Nat} {V W : World} (h : Sm C H V W) {b i : Nat} {v : Value} (hb : b = H ∨ C ≤ b) : Sm C H V (W.setCell ⟨b, i, none⟩ v) := fun k hk hne => (Below.heap_setCell _ _ _ k (by show k ≠ b; omega)).trans (h k hk hne)
theorem Sm.alloc {C H : Nat} {V W : World} (h : Sm C H V W) (hC : C ≤ W.heap.size) (o : Obj) : Sm C H V (W.alloc o) := fun k hk hne => (Below.heap_alloc W o k (by omega)).trans (h k hk hne)
theorem Sm.own {β : Type} {C B H : Nat} {V : World} (hC : C ≤ B) : OwnFrom B (fun (_ : β) W => C ≤ W.heap.size ∧ Sm C H V W) := fun _ W W' row hs hg hr =>
  ⟨Nat.le_trans hs.1 hg.size, fun k hk hne => (hg.block k (by have := hs.1; omega) (fun e => by have := (hr k e.symm).1; omega)).trans (hs.2 k hk hne)⟩
theorem row_own {β : Type} {B H n : Nat} {t : TypeId} {f : Nat → Value} (hH : H < B) : OwnFrom B (fun (_ : β) W => W.rowIs H t n f) := fun _ W W' row hs hg hr =>
  hs.of_block (hg.block H hs.lt (fun e => by have := (hr H e.symm).1; omega))
theorem Sm.box {C H b : Nat} {V W : World} {t : TypeId} {v : Value} (h : Sm C H V W) (hb : Boxed V b t v) (hC : b < C) (hne : b ≠ H) : Boxed W b t v := (h b hC hne).trans hb
theorem Sm.ms {C H : Nat} {V W : World} {a : Option Addr} {M : List Nat} (h : Sm C H V W) (hs : C ≤ W.heap.size) (hm : Ms V a M) (hC : ∀ g o, a = some ⟨g, o, none⟩ → M ≠ [] → g < C ∧ g ≠ H) : Ms W a M := by
  rcases hm with q | ⟨g, o, h1, h2, h3⟩
  · exact .inl q
  · by_cases e : M = []
    · exact .inl e
    · obtain ⟨c1, c2⟩ := hC g o h1 e
      exact .inr ⟨g, o, h1, by omega, fun i x hx => (World.cell?_of_block (w := V) (h g c1 c2)).trans (h3 i x hx)⟩
theorem Sm.is {C H : Nat} {V W : World} {a : Option Addr} {l : List Int} (h : Sm C H V W) (hs : C ≤ W.heap.size) (hm : Is V a l) (hC : ∀ g o, a = some ⟨g, o, none⟩ → l ≠ [] → g < C ∧ g ≠ H) : Is W a l := by
  rcases hm with q | ⟨g, o, h1, h2, h3⟩
  · exact .inl q
  · by_cases e : l = []
    · exact .inl e
    · obtain ⟨c1, c2⟩ := hC g o h1 e
      exact .inr ⟨g, o, h1, by omega, fun i x hx => (World.cell?_of_block (w := V) (h g c1 c2)).trans (h3 i x hx)⟩
theorem Sm.tab {C H : Nat} {V W : World} (h : Sm C H V W) (hT : Tab V) (hC : 0 < C) (hH : 0 ≠ H) : Tab W := fun j hj => (World.cell?_of_block (w := V) (h 0 hC hH)).trans (hT j hj)

/-- What a body must achieve that never panics. -/
def postN (F : Fence) (n : Nat) (P : Program) (fn : Func) (R : Ending → World → Prop) : Exit → Act → World → Prop
  | .normal, a, w | .ret, a, w => LeavesInM F n P fn a.tmps R a.defers .returning w
  | .outgrown, _, w => R .outgrown w
  | _, _, _ => False
theorem postN_M {F : Fence} {n : Nat} {P : Program} {fn : Func} {R : Ending → World → Prop} : ∀ (e : Exit) (a : Act) (w : World), postN F n P fn R e a w → bodyPostM F n P fn R e a w
  | .normal, _, _, h => h
  | .ret, _, _, h => h
  | .outgrown, _, _, h => h
  | .panic _, _, _, h => h.elim
  | .exit _, _, _, h => h.elim
  | .goto _, _, _, h => h.elim

/-- What the loop of Depths holds. -/
def DpL (w V : World) (a : Option Addr) (M : List Nat) (cap C H B3 : Nat) (ao : Option Addr) (co : Nat) (k : Nat) (act : Act) (W : World) : Prop :=
  ∃ (m : Nat) (L : List Nat) (u1 u2 u4 u5 u6 u7 u8 u9 u10 u11 u12 u16 u17 u18 u19 u20 u21 u22 u23 u24 u25 u26 u27 u28 u29 u30 u31 u32 u33 u34 u35 u36 u37 u38 u39 u40 : Value),
    act = { tmps := #[.slice a M.length cap, u1, u2, .pointer (some ⟨B3, 0, none⟩), u4, u5, u6, u7, u8, u9, u10, u11, u12, .slice ao (od M).length co, .int .i64 ((od M).length : Int), .int .i64 (m : Int), u16, u17, u18, u19, u20, u21, u22, u23, u24, u25, u26, u27, u28, u29, u30, u31, u32, u33, u34, u35, u36, u37, u38, u39, u40], defers := L.map mark } ∧
    m ≤ (od M).length ∧ k = (od M).length - m ∧ Db m (dpl M (List.replicate (nn M) (-1)) ((od M).take m)) ∧ W.rowIs H 3 (nn M) (dV (dpl M (List.replicate (nn M) (-1)) ((od M).take m))) ∧ (C ≤ W.heap.size ∧ Sm C H V W) ∧ Mks C W.heap.size L W ∧ Below w.heap.size w W

set_option maxRecDepth 100000 in
set_option maxHeartbeats 12800000 in
theorem depths {w : World} {a : Option Addr} {M : List Nat} {cap : Nat} (h : Ms w a M) (hM : MOk M) (hT : Tab w) :
    Calls Tryd.prog 13 #[.slice a M.length cap] w fun e w' => (∃ H, e = .returned (.slice (some ⟨H, 0, none⟩) (nn M) (nn M)) ∧ Is w' (some ⟨H, 0, none⟩) (dps M)) ∧ Below w.heap.size w w' := by
  have hn := nn_le M
  have hT0 := hT.lt
  have HM := hid h
  have HT := hid hT
  have hcn := hid (fun (W : World) => count M a cap W)
  have hrp := hid (fun (W : World) (g : Nat) (hg : W.cell? ⟨g, 0, none⟩ = some (.int .i64 (-1))) => repeat_ hn hg)
  have hor := hid (fun (W : World) (b : Below w.heap.size w W) => order (cap := cap) (h.below b) hM (hT.below hT0 b))
  clear h hT
  refine (callsIn_wide (n := 5)).1 ?_
  refine callsIn_of_wp_marks Tryd.func13 rfl trivial (wpIn_mono (Q := postN _ _ _ _ _) ?_ postN_M) rfl
  simp only [Tryd.ntmps13, List.size_toArray, List.length_cons, List.length_nil, Nat.reduceAdd, Nat.reduceSub, Array.replicate_succ, Array.replicate_zero, List.push_toArray, List.append_toArray, List.nil_append, List.cons_append]
  have B0 := hid (al w (.cells #[.int .i64 (-1)] 3))
  have C1 := hid (hrp.out (w.alloc (.cells #[.int .i64 (-1)] 3)) w.heap.size (Boxed.new w 3 (.int .i64 (-1))).cell)
  rw [World.size_alloc] at C1
  gi_wp2_with (first
    | (refine ⟨trivial, ?_⟩; gi_at_call 25; refine (callsIn_wide.2 (hcn.out _)).mono ?_; rintro e w' ⟨rfl, rfl⟩)
    | (refine ⟨trivial, ?_⟩; gi_at_call 24; refine (callsIn_wide.2 C1.out).mono ?_; rintro e w1 ⟨rfl, hr1, b1⟩))
  have b1' : Below w.heap.size w w1 := B0.out.trans (b1.mono (by simp))
  have s1 : w.heap.size + 1 < w1.heap.size := by
    have := (Array.getElem?_eq_some_iff.1 hr1).1
    exact this
  have B2 := hid (b1'.alloc b1'.size (.cells #[.slice (some ⟨w.heap.size + 1, 0, none⟩) (nn M) (nn M)] 25))
  refine ⟨trivial, (callsIn_wide.2 (hor.out _ B2.out)).mono ?_⟩
  rintro e w2 ⟨v, rfl, own, b2⟩
  have own' : w2.ownsRow (w1.heap.size + 1) 3 1 v ((od M).map fun i : Nat => (i : Int)).length (((od M).map fun i : Nat => (i : Int)).map (Value.int .i64)) := by
    rw [List.length_map, List.map_map]; rw [World.size_alloc] at own; exact own
  obtain ⟨ao, co, rfl, hc1, hc2, HO0⟩ := own_is own'
  rw [List.length_map] at hc1 ⊢
  have HOg : Hid (∀ g o, ao = some ⟨g, o, none⟩ → (od M) ≠ [] → w1.heap.size + 1 ≤ g ∧ g < w2.heap.size) := hid (fun g o hg hne => by
    rcases own'.2 with ⟨q, hq⟩ | ⟨g', cp, cur, q, hb', hg', _⟩
    · rw [List.length_map] at hq; exact absurd (List.length_eq_zero_iff.1 hq) hne
    · simp only [Value.slice.injEq] at q
      rw [q.1] at hg; cases hg
      exact ⟨hb', (Array.getElem?_eq_some_iff.1 hg').1⟩)
  have bb : Hid (Boxed w2 w1.heap.size 25 (.slice (some ⟨w.heap.size + 1, 0, none⟩) (nn M) (nn M))) := hid ((b2.block _ (by simp)).trans (Boxed.new w1 25 (.slice (some ⟨w.heap.size + 1, 0, none⟩) (nn M) (nn M))))
  have hrow : Hid (w2.rowIs (w.heap.size + 1) 3 (nn M) (dV (dpl M (List.replicate (nn M) (-1)) ((od M).take 0)))) := hid (by
    have h1 : w2.heap[w.heap.size + 1]? = some (.cells (rp (nn M) (nn M)).toArray 3 (0, 0)) := (b2.block _ (by simp; omega)).trans ((Below.heap_alloc _ _ _ s1).trans hr1)
    refine ⟨_, h1, by simp [rp_len (Nat.le_refl _)], fun j hj => ?_⟩
    have := rp_at (n := nn M) hj
    rw [List.getElem?_toArray, this]
    rw [List.take_zero, dpl_nil]
    simp [dV, List.getD, hj])
  have B3 := hid (B2.out.trans (b2.mono B2.out.size))
  have s2 : w1.heap.size + 1 ≤ w2.heap.size := by have := b2.size; simpa using this
  clear own own' hor hrp hr1 b1 b1' b2 B2 C1 B0
  have HO := hid HO0
  clear HO0
  obtain ⟨C, hC⟩ : ∃ C, Hid (C = w2.heap.size) := ⟨_, hid rfl⟩
  have HM2 := hid (HM.out.below B3.out)
  have HT2 := hid (HT.out.below hT0 B3.out)
  have hMg : Hid (∀ g o, a = some ⟨g, o, none⟩ → M ≠ [] → g < w2.heap.size ∧ g ≠ w.heap.size + 1) := hid (fun g o hg hne => by
    rcases HM.out with q | ⟨g', o', h1, h2, _⟩
    · exact absurd q hne
    · rw [h1] at hg; cases hg; omega)
  have hal := hid (fun (W : World) => all M a cap W)
  gi_wp2
  refine wpIn_loop_ghost (DpL w w2 a M cap w2.heap.size (w.heap.size + 1) w1.heap.size ao co) _ ⟨0, [], _, _, _, _, _, _, _, _, _, _, _, _, _, _, _, _, _, _, _, _, _, _, _, _, _, _, _, _, _, _, _, _, _, _, _, _, rfl, Nat.zero_le _, rfl, db_start (nn M), hrow.out, ⟨Nat.le_refl _, Sm.refl _ _ _⟩, trivial, B3.out⟩ ?round
  case round =>
    clear hrow
    rintro k act W ⟨m, L, u1, u2, u4, u5, u6, u7, u8, u9, u10, u11, u12, u16, u17, u18, u19, u20, u21, u22, u23, u24, u25, u26, u27, u28, u29, u30, u31, u32, u33, u34, u35, u36, u37, u38, u39, u40, rfl, hm, hk, hdb, hrow, ⟨hCW, hS⟩, hL, hB⟩
    have bbW := hS.box bb.out (by omega) (by omega)
    have c3 := bbW.cell
    by_cases cm : m < (od M).length
    · obtain ⟨i, hi⟩ : ∃ i, (od M)[m]? = some i := ⟨(od M)[m], List.getElem?_eq_getElem cm⟩
      have hin := od_mem i (List.mem_of_getElem? hi)
      have hne : (od M) ≠ [] := fun e => by rw [e] at cm; simp at cm
      have htk := take_snoc hi
      have HOW := hS.is hCW HO.out (fun g o hg hq => by
        have := HOg.out g o hg (fun e => hq (by rw [e]; rfl))
        omega)
      obtain ⟨go, oo, rfl, hgo, y0⟩ := HOW.at (i := m) (s := (i : Int)) (by rw [List.getElem?_map, hi]; rfl)
      obtain ⟨gm, om, rfl, hgm, x0⟩ := (hS.ms hCW HM2.out hMg.out).at (mk_at hin)
      have hil : i < M.length := Nat.lt_of_lt_of_le hin (nn_len M)
      have han := hid (u32_and_nat (mk M i) (al_ M) (mk_lt hM i) (al_lt M))
      have l3 := bbW.lt
      have hk' := hid hk
      obtain ⟨x, hx⟩ : ∃ x, x = mk M i &&& al_ M := ⟨_, rfl⟩
      have hwl : Hid (wl M i = bl x) := hid (by rw [hx]; rfl)
      rw [← hx] at han
      have hx32 : x < 4294967296 := by rw [hx]; exact Nat.lt_of_le_of_lt Nat.and_le_right (al_lt M)
      have hxn : Hid (∀ j, j ∈ bl x → j < nn M) := hid (fun j hj => by
        have := (mem_bl.1 hj).2
        rw [hx, Nat.testBit_and, al_bit, Bool.and_eq_true] at this
        exact of_decide_eq_true this.2)
      have hpl : Hid (∀ Y : World, Calls Tryd.prog 26 #[.int .u32 (bits .and .u32 (mk M i : Int) (al_ M : Int))] Y fun e w' => e = .returned (.func (.func 32) #[] #[.pointer (some ⟨Y.heap.size, 0, none⟩)]) ∧ w' = Y.alloc (.cells #[.int .u32 (x : Int)] 28)) := hid (fun Y => by rw [han.out]; exact places x Y)
      clear hi hk hx han
      gi_wp2
      have hmx : Tryd.prog.follows .mixedOrders = true := by kernel_rfl
      gi_region_with_o (first
        | (refine ⟨trivial, ?_⟩; gi_at_call 27; refine (callsIn_wide.2 (hal.out _)).mono ?_; rintro e w' ⟨rfl, rfl⟩)
        | (refine ⟨trivial, ?_⟩; gi_at_call 26; refine (callsIn_wide.2 (hpl.out _)).mono ?_; rintro e w' ⟨rfl, rfl⟩))
      all_goals gi_wp2
      all_goals
        obtain ⟨q0, q1, qB⟩ := two2 W (.int .i64 0) (.int .u32 (x : Int)) 3 28
        have qT := hid ((hS.tab HT2.out (by omega) (by omega)).below (by omega) qB)
        have qL := hid (hL.others (((KeepsOthers.alloc W (.cells #[.int .i64 0] 3)).trans (KeepsOthers.alloc _ (.cells #[.int .u32 (x : Int)] 28))).trans (KeepsOthers.drew _)))
        have qS := hid ((hS.alloc hCW (.cells #[.int .i64 0] 3)).alloc (by simp; omega) (.cells #[.int .u32 (x : Int)] 28))
        have qR := hid ((hrow.alloc (.cells #[.int .i64 0] 3)).alloc (.cells #[.int .u32 (x : Int)] 28))
        have qW := hid (hB.trans (qB.mono hB.size))
        have hHC : w.heap.size + 1 < W.heap.size := by omega
        have hld : (dpl M (List.replicate (nn M) (-1)) ((od M).take m)).length = nn M := by rw [dpl_len, List.length_replicate]
        have hsn := hid (dpl_snoc M (List.replicate (nn M) (-1)) ((od M).take m) i)
        rw [← htk] at hsn
        have hbnd := hid (mx_in hdb (wl M i))
        have hdb2 := hid (db_set hdb (i := i) (by omega) (wl M i))
        rw [← hsn.out] at hdb2
        rw [hwl.out] at hsn hbnd
        generalize hdd : dpl M (List.replicate (nn M) (-1)) ((od M).take m) = d at *
        clear hdb hrow hS hL hB x0 y0 htk hdd hpl
        refine wpIn_rangeFunc_ownF rfl (by omega) (gf := 32) (lb := #[.pointer (some ⟨W.heap.size + 1, 0, none⟩)]) rfl trivial (enters_of Tryd.func32 (by kernel_rfl) rfl)
          (places_stops 4 (by omega) (W.heap.size + 1) w.heap.size x hx32 hT0 ((W.alloc (.cells #[.int .i64 0] 3)).alloc (.cells #[.int .u32 (x : Int)] 28)).drew q1.lt q1.cell qT.out) belowK_t (belowK_b (by have := qW.out.size; exact this)) (Below.refl _ _) (fun _ => rfl)
          (fun pre V => (((Boxed V W.heap.size 3 (.int .i64 (mx d (pv pre))) ∧ V.rowIs (w.heap.size + 1) 3 (nn M) (dV d)) ∧ (w2.heap.size ≤ V.heap.size ∧ Sm w2.heap.size (w.heap.size + 1) w2 V)) ∧ Mks w2.heap.size W.heap.size L V) ∧ Below w.heap.size w V)
          (fun _ _ _ => False)
          (OwnFrom.and (OwnFrom.and (OwnFrom.and (OwnFrom.and (Own.from (boxed_own _ _ fun pre => .int .i64 (mx d (pv pre))) _) (row_own (by simp; omega))) (Sm.own (by simp; omega))) (Mks.own (by simp; omega))) (ownFrom_below (Nat.le_refl _) (by have := qW.out.size; exact this)))
          (fun _ _ _ _ _ hs _ _ => hs)
          ⟨⟨⟨⟨q0, qR.out⟩, by simp; omega, qS.out⟩, qL.out⟩, qW.out.drew⟩
          (fun j => { tmps := #[.slice (some ⟨gm, om, none⟩) M.length cap, u1, u2, .pointer (some ⟨w1.heap.size, 0, none⟩), u4, .int .i64 (i : Int), .pointer (some ⟨W.heap.size, 0, none⟩), .int .i64 (j.1 : Int), u8, u9, u10, u11, u12, .slice (some ⟨go, oo, none⟩) (od M).length co, .int .i64 ((od M).length : Int), .int .i64 (m : Int), .bool true, .pointer (some ⟨go, oo + m, none⟩), .int .i64 (i : Int), .slice (some ⟨gm, om, none⟩) M.length cap, .int .i64 (i : Int), .pointer (some ⟨gm, om + i, none⟩), .int .u32 (mk M i : Int), .slice (some ⟨gm, om, none⟩) M.length cap, .int .u32 (al_ M : Int), .int .u32 (bits .and .u32 (mk M i : Int) (al_ M : Int)), .func (.func 32) #[] #[.pointer (some ⟨W.heap.size + 1, 0, none⟩)], .int .i64 (j.1 : Int), u28, u29, u30, u31, u32, u33, u34, u35, u36, u37, u38, u39, u40], defers := [] }) ?_ ?_ ?_ ?_
        · intro l j Y K hK
          gi_wp2
          exact hK
        · rintro l pre ⟨j, hj⟩ V ⟨⟨⟨⟨BX, HR⟩, hCV, hS⟩, hL⟩, hB⟩ _
          have hjn := hxn.out j hj
          have f3 := (hS.box bb.out (by omega) (by omega)).cell
          have z0 := HR.cell hjn
          have cX := BX.cell
          have fX := BX.frozen
          have hsn' : Hid (mx d (pv (pre ++ [⟨j, hj⟩])) = max (mx d (pv pre)) (d.getD j 0)) := hid (by rw [pv_snoc, mx_snoc])
          rw [show dV d j = .int .i64 (d.getD j 0) from rfl] at z0
          generalize mx d (pv pre) = X at *
          generalize d.getD j 0 = y at *
          have hmx : Tryd.prog.follows .mixedOrders = true := by kernel_rfl
          gi_wp2
          gi_region_with_o (fail)
          all_goals gi_wp2
          all_goals exact ⟨(KeepsOthers.setCell _ _ _).trans (KeepsOthers.drew _), ((Below.refl w.heap.size V).setCell (p := ⟨W.heap.size, 0, none⟩) (by show w.heap.size ≤ W.heap.size; omega) _).drew, ⟨⟨⟨⟨by rw [hsn'.out]; exact BX.set _, HR.of_block (Below.heap_setCell _ _ _ _ (by show w.heap.size + 1 ≠ W.heap.size; omega))⟩, by simpa using hCV, hS.set (.inr (by omega))⟩, hL.others ((KeepsOthers.setCell _ _ _).trans (KeepsOthers.drew _))⟩, (hB.setCell (p := ⟨W.heap.size, 0, none⟩) (by show w.heap.size ≤ W.heap.size; omega) _).drew⟩⟩
        · rintro D ys V hD hys ⟨⟨⟨⟨BX, HR⟩, hCV, hS⟩, hL⟩, hB⟩ hK
          rw [hys] at BX
          have f3 := (hS.box bb.out (by omega) (by omega)).cell
          have z0 := HR.cell hin
          have z1 := HR.frozen i
          have cX := BX.cell
          have fX := BX.frozen
          have hb2 := hbnd.out
          have hol := od_len M
          have hset := hid (dV_set (x := mx d (bl x) + 1) HR (i := i) (by omega))
          rw [← hsn.out] at hset
          have hDW : W.heap.size ≤ D := by simp at hD; omega
          have hDV := (Array.getElem?_eq_some_iff.1 hK).1
          generalize mx d (bl x) = X at *
          have hk2 := hk'.out
          gi_wp2
          rw [show ((m : Int) + 1) = ((m + 1 : Nat) : Int) by omega]
          have hKO : KeepsOthers V (V.setCell ⟨w.heap.size + 1, i, none⟩ (.int .i64 (X + 1))) := KeepsOthers.setCell _ _ _
          exact ⟨(od M).length - (m + 1), by omega, m + 1, D :: L, _, _, _, _, _, _, _, _, _, _, _, _, _, _, _, _, _, _, _, _, _, _, _, _, _, _, _, _, _, _, _, _, _, _, _, _, rfl, cm, rfl, hdb2.out, hset.out, ⟨by simpa using hCV, hS.set (.inl rfl)⟩, ⟨by omega, by simpa using hDV, hKO.same D _ hK rfl, hL.not hDW, (hL.others hKO).wide (by simp; omega)⟩, hB.setCell (p := ⟨w.heap.size + 1, i, none⟩) (by show w.heap.size ≤ w.heap.size + 1; omega) _⟩
        · rintro D c pre V _ _ h _
          exact h.elim
    · have hm2 : (od M).take m = od M := List.take_of_length_le (by omega)
      rw [hm2] at hrow
      have hI := hid (row_is hrow (by rw [dpl_len, List.length_replicate]))
      clear hk hdb hrow
      gi_wp2
      refine leaves_marks hL (by have := hB.size; omega) fun W' hW' => ⟨_, results_tmp rfl _ _ _, ⟨_, rfl, ?_⟩, hB.trans (hW'.1.mono (by omega))⟩
      rcases hI.out with q | ⟨g, o, h1, h2, h3⟩
      · exact .inl q
      · refine .inr ⟨g, o, h1, Nat.lt_of_lt_of_le h2 hW'.1.size, fun i x hx => ?_⟩
        have h4 := h3 i x hx
        obtain ⟨c, t, f, hc⟩ : ∃ c t f, W.heap[g]? = some (Obj.cells c t f) := by
          unfold World.cell? at h4
          split at h4
          · rename_i c t f hc
            exact ⟨c, t, f, hc⟩
          · cases h4
        exact (World.cell?_of_block (w := W) (hW'.2 g c t f hc)).trans h4

end Go.Proofs.YtcojpajmeacpiaaDoor.Wry
