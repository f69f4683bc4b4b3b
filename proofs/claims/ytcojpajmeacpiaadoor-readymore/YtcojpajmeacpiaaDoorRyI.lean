/-
  The contract of Behind: it gives the nodes that come behind ('IsB'). Conditions: the masks lie in memory, and the table of the library. Ahead of it: marks of ranges over a function that a loop leaves behind itself ('Mks').
-/
import Derived.Test.YtcojpajmeacpiaaDoorRyC
import Derived.Sort.LoopGhostIn
namespace Go.Proofs.YtcojpajmeacpiaaDoor.Wry
open Go.ChangeShapes Go.WideShapes Go.ChangeAt Go.RowKit Go.Shelf Go.Proofs.YtcojpajmeacpiaaDoor.M
attribute [local go_sem] Oper.semAt_some

/-! ### the marks that a loop leaves -/
def mark (D : Nat) : Deferred := { target := .collected D, args := #[] }
/-- Each mark's block is there, was made since B and lies below C; no block twice. -/
def Mks (B C : Nat) : List Nat → World → Prop
  | [], _ => True
  | D :: L, W => B ≤ D ∧ D < C ∧ W.heap[D]? = some (.deferred (some [])) ∧ D ∉ L ∧ Mks B C L W
theorem Mks.keep {B C : Nat} {W W' : World} : ∀ {L : List Nat}, Mks B C L W → (∀ D, B ≤ D → D < C → W.heap[D]? = some (.deferred (some [])) → W'.heap[D]? = some (.deferred (some []))) → Mks B C L W'
  | [], _, _ => trivial
  | _ :: _, ⟨h1, h2, h3, h4, h5⟩, h => ⟨h1, h2, h _ h1 h2 h3, h4, h5.keep h⟩
theorem Mks.wide {B C C' : Nat} {W : World} : ∀ {L : List Nat}, Mks B C L W → C ≤ C' → Mks B C' L W
  | [], _, _ => trivial
  | _ :: _, ⟨h1, h2, h3, h4, h5⟩, h => ⟨h1, by omega, h3, h4, h5.wide h⟩
theorem Mks.not {B C D : Nat} {W : World} : ∀ {L : List Nat}, Mks B C L W → C ≤ D → D ∉ L
  | [], _, _ => by simp
  | E :: L, ⟨_, h2, _, _, h5⟩, h => by
    have := h5.not h
    simp only [List.mem_cons, not_or]
    exact ⟨by omega, this⟩
theorem Mks.own {β : Type} {B C C' : Nat} {L : List Nat} (hC : C ≤ C') : OwnFrom C' (fun (_ : β) W => Mks B C L W) := fun _ W W' row hs hg hr =>
  hs.keep fun D _ hD h => (hg.block D (Array.getElem?_eq_some_iff.1 h).1 (fun e => by have := (hr D e.symm).1; omega)).trans h
theorem Mks.others {B C : Nat} {L : List Nat} {W W' : World} (h : Mks B C L W) (k : KeepsOthers W W') : Mks B C L W' := h.keep fun D _ _ hD => k.same D _ hD rfl
/-- What the marks' own turns leave: rows of cells as they are. -/
def Fin (B : Nat) (W W' : World) : Prop := Below B W W' ∧ ∀ (k : Nat) (c : Array Value) (t : TypeId) (f : Nat × Nat), W.heap[k]? = some (Obj.cells c t f) → W'.heap[k]? = W.heap[k]?
theorem leaves_marks {F : Fence} {n : Nat} {fn : Func} {tmps : Array Value} {R : Ending → World → Prop} {B C : Nat} : ∀ {L : List Nat} {W : World}, Mks B C L W → B ≤ W.heap.size → (∀ W', Fin B W W' → ∃ v, (results fn tmps).run Tryd.prog W' = .ok v W' ∧ R (.returned v) W') → LeavesInM F n Tryd.prog fn tmps R (L.map mark) .returning W
  | [], W, _, hB, h => h W ⟨Below.refl _ _, fun _ _ _ _ _ => rfl⟩
  | D :: L, W, ⟨h1, h2, h3, h4, h5⟩, hB, h => by
    refine ⟨by simp, .inl ⟨D, _, rfl, run_takeDeferred h3, ?_⟩⟩
    have hlt := (Array.getElem?_eq_some_iff.1 h3).1
    have hb : Below B W (W.putObj D (.deferred none)) := (Below.refl B W).grown (grownBy_putObj' W D _) (by omega) (fun k e => by cases e; omega)
    refine leaves_marks (L := L) (keepM h5 h4) (by have := hb.size; omega) fun W' hW' => h W' ⟨hb.trans hW'.1, fun k c t f hk => ?_⟩
    have hne : k ≠ D := fun e => by rw [e, h3] at hk; cases hk
    have e1 := World.putObj_heap_other (w := W) (o := .deferred none) hne
    rw [hW'.2 k c t f (e1.trans hk), e1]
where
  keepM {B C D : Nat} {W : World} : ∀ {L : List Nat}, Mks B C L W → D ∉ L → Mks B C L (W.putObj D (.deferred none))
    | [], _, _ => trivial
    | E :: L, ⟨h1, h2, h3, h4, h5⟩, hD => by
      simp only [List.mem_cons, not_or] at hD
      exact ⟨h1, h2, (World.putObj_heap_other (fun e => hD.1 e.symm)).trans h3, h4, keepM h5 hD.2⟩

theorem two2 (w : World) (v0 v1 : Value) (t0 t1 : TypeId) :
    Boxed ((w.alloc (.cells #[v0] t0)).alloc (.cells #[v1] t1)) w.heap.size t0 v0 ∧ Boxed ((w.alloc (.cells #[v0] t0)).alloc (.cells #[v1] t1)) (w.heap.size + 1) t1 v1 ∧
    Below w.heap.size w ((w.alloc (.cells #[v0] t0)).alloc (.cells #[v1] t1)) := by
  have b1 := Boxed.new (w.alloc (.cells #[v0] t0)) t1 v1
  simp only [World.size_alloc] at b1
  exact ⟨(Boxed.new w t0 v0).alloc _, b1, ((Below.refl _ w).alloc (Nat.le_refl _) _).alloc (by simp) _⟩

/-- What a loop of the search holds. -/
def BhL (w : World) (a : Option Addr) (M : List Nat) (cap n : Nat) (k : Nat) (act : Act) (W : World) : Prop :=
  ∃ (B F P : Nat) (L : List Nat) (u3 u4 u7 u8 u9 u10 u11 u12 u13 u14 u15 u16 u17 u18 u19 u20 u21 u22 u23 u24 u25 u26 u27 u28 u29 u30 u31 u32 u33 u34 u35 u36 u37 u38 u39 u40 u41 u42 u43 : Value),
    act = { tmps := #[.slice a M.length cap, .int .i64 (n : Int), .pointer (some ⟨w.heap.size, 0, none⟩), u3, u4, .int .u32 (B : Int), .pointer (some ⟨P, 0, none⟩), u7, u8, u9, u10, u11, u12, u13, u14, u15, u16, u17, u18, u19, u20, u21, u22, u23, u24, u25, u26, u27, u28, u29, u30, u31, u32, u33, u34, u35, u36, u37, u38, u39, u40, u41, u42, u43], defers := L.map mark } ∧
    Bf M n B F ∧ k = 2 * (4294967296 - B) + (if F = 0 then 0 else 1) ∧ w.heap.size < P ∧ Boxed W P 28 (.int .u32 (F : Int)) ∧ Boxed W w.heap.size 22 (.slice a M.length cap) ∧ Mks w.heap.size W.heap.size L W ∧ Below w.heap.size w W

set_option maxRecDepth 100000 in
set_option maxHeartbeats 8000000 in
theorem behind {w : World} {a : Option Addr} {M : List Nat} {cap n : Nat} (h : Ms w a M) (hM : MOk M) (hT : Tab w) (hn : n < nn M) :
    Calls Tryd.prog 19 #[.slice a M.length cap, .int .i64 (n : Int)] w fun e w' => (∃ b : Nat, e = .returned (.int .u32 (b : Int)) ∧ IsB M (n : Int) b) ∧ Below w.heap.size w w' := by
  have hT0 := hT.lt
  have HM := hid h
  have HT := hid hT
  have hn32 : n < 32 := Nat.lt_of_lt_of_le hn (nn_le M)
  have d0 : decide ((n : Int) < 0) = false := decide_eq_false (by omega)
  have d1 : decide ((nn M : Int) ≤ (n : Int)) = false := decide_eq_false (by omega)
  have hst := hid (bf_start hn)
  have hpw := hid (pow_u32 hn32)
  have hal := hid (fun (W : World) => all M a cap W)
  have hcn := hid (fun (W : World) => count M a cap W)
  clear h hT
  refine (callsIn_wide (n := 5)).1 ?_
  refine callsIn_of_wp_marks Tryd.func19 rfl trivial ?_ rfl
  simp only [Tryd.ntmps19, List.size_toArray, List.length_cons, List.length_nil, Nat.reduceAdd, Nat.reduceSub, Array.replicate_succ, Array.replicate_zero, List.push_toArray, List.append_toArray, List.nil_append, List.cons_append]
  gi_wp2_with (refine ⟨trivial, ?_⟩; gi_at_call 25; refine (callsIn_wide.2 (hcn.out _)).mono ?_; rintro e w' ⟨rfl, rfl⟩)
  rw [hpw.out]
  obtain ⟨b0, b1, bB⟩ := two2 w (.slice a M.length cap) (.int .u32 ((2 ^ n : Nat) : Int)) 22 28
  refine wpIn_loop_ghost (BhL w a M cap n) _ ⟨0, 2 ^ n, w.heap.size + 1, [], _, _, _, _, _, _, _, _, _, _, _, _, _, _, _, _, _, _, _, _, _, _, _, _, _, _, _, _, _, _, _, _, _, _, _, _, _, _, _, rfl, hst.out, rfl, by omega, b1, b0, trivial, bB⟩ ?round
  case round =>
    clear b0 b1 bB hst hpw
    rintro k act W ⟨B, F, P, L, u3, u4, u7, u8, u9, u10, u11, u12, u13, u14, u15, u16, u17, u18, u19, u20, u21, u22, u23, u24, u25, u26, u27, u28, u29, u30, u31, u32, u33, u34, u35, u36, u37, u38, u39, u40, u41, u42, u43, rfl, hbf, hk, hP, bF, b0, hL, hB⟩
    have c0 := b0.cell
    have cF := bF.cell
    have fF := bF.frozen
    have l0 := b0.lt
    have lF := bF.lt
    by_cases hF : F = 0
    · subst hF
      have hI := hid (bf_end hbf)
      gi_wp2
      refine leaves_marks hL hB.size fun W' hW' => ⟨_, results_tmp rfl _ _ _, ⟨B, rfl, hI.out⟩, hB.trans hW'.1⟩
    · have t0 : ((F : Int) == 0) = false := by rw [beq_eq_false_iff_ne]; omega
      have t1 : ((F : Int) != 0) = true := by simp [bne, t0]
      have han := hid (u32_andnot_nat (al_ M) B (al_lt M) hbf.ltB)
      obtain ⟨hbf2, hmore⟩ := bf_step hn hbf
      have hfb : Hid (fnb M B F = gat (anb M F) (bl (al_ M &&& (4294967295 - B)))) := hid rfl
      obtain ⟨x, hx⟩ : ∃ x, x = al_ M &&& (4294967295 - B) := ⟨_, rfl⟩
      rw [← hx] at han hfb
      have hx32 : x < 4294967296 := by rw [hx]; exact Nat.lt_of_le_of_lt Nat.and_le_left (al_lt M)
      have hxn : Hid (∀ i, i ∈ bl x → i < nn M) := hid (fun i hi => by
        have := (mem_bl.1 hi).2
        rw [hx, Nat.testBit_and, al_bit, Bool.and_eq_true] at this
        exact of_decide_eq_true this.1)
      clear hx
      have hk' := hid hk
      gi_wp2_with (refine ⟨trivial, ?_⟩; gi_at_call 27; refine (callsIn_wide.2 (hal.out _)).mono ?_; rintro e w' ⟨rfl, rfl⟩)
      rw [han.out]
      gi_wp2_with (refine ⟨trivial, ?_⟩; gi_at_call 26; refine (callsIn_wide.2 (places x _)).mono ?_; rintro e w' ⟨rfl, rfl⟩)
      obtain ⟨q0, q1, qB⟩ := two2 W (.int .u32 0) (.int .u32 (x : Int)) 28 28
      have bT := hid (HT.out.below hT0 (hB.trans (qB.mono hB.size)))
      have qL : Hid (Mks w.heap.size W.heap.size L ((W.alloc (.cells #[.int .u32 0] 28)).alloc (.cells #[.int .u32 (x : Int)] 28))) := hid (hL.others ((KeepsOthers.alloc _ _).trans (KeepsOthers.alloc _ _)))
      refine wpIn_rangeFunc_ownF rfl (by omega) (gf := 32) (lb := #[.pointer (some ⟨W.heap.size + 1, 0, none⟩)]) rfl trivial (enters_of Tryd.func32 (by kernel_rfl) rfl)
        (places_stops 4 (by omega) (W.heap.size + 1) w.heap.size x hx32 hT0 _ q1.lt q1.cell bT.out) belowK_t (belowK_b (by simp; omega)) (Below.refl _ _) (fun _ => rfl)
        (fun pre V => ((Boxed V w.heap.size 22 (.slice a M.length cap) ∧ Boxed V P 28 (.int .u32 (F : Int)) ∧ Boxed V W.heap.size 28 (.int .u32 ((gat (anb M F) (pv pre) : Nat) : Int))) ∧ Mks w.heap.size W.heap.size L V) ∧ Below w.heap.size w V)
        (fun _ _ _ => False)
        (OwnFrom.and (OwnFrom.and (OwnFrom.and (Own.from (boxed_own _ _ fun _ => _) _) (OwnFrom.and (Own.from (boxed_own _ _ fun _ => _) _) (Own.from (boxed_own _ _ fun pre => .int .u32 ((gat (anb M F) (pv pre) : Nat) : Int)) _))) (Mks.own (by simp; omega))) (ownFrom_below (Nat.le_refl _) (by simp; omega)))
        (fun _ _ _ _ _ hs _ _ => hs)
        ⟨⟨⟨(b0.alloc _).alloc _, (bF.alloc _).alloc _, q0⟩, qL.out⟩, hB.trans (qB.mono hB.size)⟩
        (fun i => { tmps := #[.slice a M.length cap, .int .i64 (n : Int), .pointer (some ⟨w.heap.size, 0, none⟩), u3, u4, .int .u32 (B : Int), .pointer (some ⟨P, 0, none⟩), .pointer (some ⟨W.heap.size, 0, none⟩), .int .i64 (i.1 : Int), u9, u10, u11, u12, u13, u14, u15, u16, u17, u18, .int .u32 (F : Int), .bool true, .slice a M.length cap, .int .u32 (al_ M : Int), .int .u32 (B : Int), .int .u32 (x : Int), .func (.func 32) #[] #[.pointer (some ⟨W.heap.size + 1, 0, none⟩)], .int .i64 (i.1 : Int), u27, u28, u29, u30, u31, u32, u33, u34, u35, u36, u37, u38, u39, u40, u41, u42, u43], defers := [] }) ?assign ?body ?done ?stop
      case assign =>
        intro l i W K hK
        gi_wp2
        exact hK
      case body =>
        clear b0 bF q0 q1 qB bT qL hB c0 cF fF hL hmore hbf2 hal hcn
        rintro l pre ⟨i, hi⟩ V ⟨⟨⟨B0, B1, B2⟩, hL⟩, hB⟩ _
        have hin := hxn.out i hi
        have hi32 : i < 32 := (mem_bl.1 hi).1
        obtain ⟨g, o, rfl, hg', hc⟩ := (HM.out.below hB).at (mk_at hin)
        have hil : i < M.length := Nat.lt_of_lt_of_le hin (nn_len M)
        have e1 := hid (u32_and_nat (mk M i) F (mk_lt hM i) hbf.ltF)
        have hgl := gat_lt (anb M F) (l := pv pre) (fun j hj => by obtain ⟨q, _, rfl⟩ := List.mem_map.1 hj; exact (mem_bl.1 q.2).1)
        have c0 := B0.cell
        have c1 := B1.cell
        have c2 := B2.cell
        have f2 := B2.frozen
        have hsn : Hid (gat (anb M F) (pv (pre ++ [⟨i, hi⟩])) = if anb M F i then gat (anb M F) (pv pre) ||| 2 ^ i else gat (anb M F) (pv pre)) := hid (by
          rw [pv_snoc, gat_snoc])
        generalize gat (anb M F) (pv pre) = G at *
        have ho := hid (u32_or_nat G (2 ^ i) hgl (by have : 2 ^ i < 2 ^ 32 := Nat.pow_lt_pow_right (by decide) hi32; omega))
        rw [← pow_u32 hi32, ← IntKind.wrap_u32] at ho
        obtain ⟨m, hm⟩ : ∃ m, Hid (mk M i = m) := ⟨_, hid rfl⟩
        rw [hm.out] at hc e1
        have hmx : Tryd.prog.follows .mixedOrders = true := by kernel_rfl
        by_cases hz : m &&& F = 0
        · have t1 : (bits .and .u32 (m : Int) (F : Int) == 0) = true := by rw [e1.out, hz]; rfl
          have t2 : (bits .and .u32 (m : Int) (F : Int) != 0) = false := by simp [bne, t1]
          have hsn' : Hid (gat (anb M F) (pv (pre ++ [⟨i, hi⟩])) = G) := hid (by rw [hsn.out, if_neg (by unfold anb; rw [hm.out, hz]; decide)])
          clear e1 hsn hz hbf hk
          gi_wp2
          gi_region_with_o (fail)
          all_goals gi_wp2
          all_goals exact ⟨KeepsOthers.drew _, (Below.refl w.heap.size V).drew, ⟨⟨⟨B0, B1, by rw [hsn'.out]; exact B2⟩, hL.others (KeepsOthers.drew _)⟩, hB.drew⟩⟩
        · have t1 : (bits .and .u32 (m : Int) (F : Int) == 0) = false := by rw [e1.out, beq_eq_false_iff_ne]; omega
          have t2 : (bits .and .u32 (m : Int) (F : Int) != 0) = true := by simp [bne, t1]
          have hsn' : Hid (gat (anb M F) (pv (pre ++ [⟨i, hi⟩])) = G ||| 2 ^ i) := hid (by rw [hsn.out, if_pos (show anb M F i = true from decide_eq_true (by rw [hm.out]; exact hz))])
          clear e1 hsn hz hbf hk
          gi_wp2
          gi_region_with_o (fail)
          all_goals gi_wp2
          all_goals gi_region_with_o (fail)
          all_goals gi_wp2
          all_goals rw [ho.out]
          all_goals exact ⟨((KeepsOthers.setCell _ _ _).trans (KeepsOthers.drew _)).trans (KeepsOthers.drew _), ((Below.refl w.heap.size V).setCell (p := ⟨W.heap.size, 0, none⟩) (by show w.heap.size ≤ W.heap.size; omega) _).drew.drew, ⟨⟨⟨B0.other (by omega) _, B1.other (by omega) _, by rw [hsn'.out]; exact B2.set _⟩, hL.others (((KeepsOthers.setCell _ _ _).trans (KeepsOthers.drew _)).trans (KeepsOthers.drew _))⟩, (hB.setCell (p := ⟨W.heap.size, 0, none⟩) (by show w.heap.size ≤ W.heap.size; omega) _).drew.drew⟩⟩
      case done =>
        clear b0 bF q0 q1 qB bT qL hB c0 cF fF hL
        rintro D ys V hD hys ⟨⟨⟨B0, B1, B2⟩, hL⟩, hB⟩ hK
        have hG : Hid (gat (anb M F) (pv ys) = fnb M B F) := hid (by rw [hys, hfb.out])
        rw [hG.out] at B2
        have hol := hid (u32_or_nat B (fnb M B F) hbf.ltB (fnb_lt M B F))
        generalize fnb M B F = N at *
        have c0 := B0.cell
        have c1 := B1.cell
        have f1 := B1.frozen
        have c2 := B2.cell
        have f2 := B2.frozen
        have hlV := B1.lt
        have hDV := (Array.getElem?_eq_some_iff.1 hK).1
        clear hk
        gi_wp2
        rw [hol.out]
        have hKO : KeepsOthers V ((V.setCell ⟨P, 0, none⟩ (.int .u32 (N : Int))).alloc (.cells #[.int .u32 (N : Int)] 28)) := (KeepsOthers.setCell _ _ _).trans (KeepsOthers.alloc _ _)
        have hDW : W.heap.size ≤ D := by simp at hD; omega
        have hBW := hB.size
        have hb := Boxed.new (V.setCell ⟨P, 0, none⟩ (.int .u32 (N : Int))) 28 (.int .u32 (N : Int))
        rw [show (V.setCell ⟨P, 0, none⟩ (.int .u32 (N : Int))).heap.size = V.heap.size by simp] at hb
        refine ⟨2 * (4294967296 - (B ||| N)) + (if N = 0 then 0 else 1), ?_, B ||| N, N, V.heap.size, D :: L, _, _, _, _, _, _, _, _, _, _, _, _, _, _, _, _, _, _, _, _, _, _, _, _, _, _, _, _, _, _, _, _, _, _, _, _, _, _, _, rfl, hbf2, rfl, by omega, hb, (B0.other (by omega) _).alloc _, ⟨by omega, by simp; omega, hKO.same D _ hK rfl, hL.not hDW, (hL.others hKO).wide (by simp; omega)⟩, (hB.setCell (p := ⟨P, 0, none⟩) (by show w.heap.size ≤ P; omega) _).alloc (by simpa using hBW) _⟩
        have hk2 := hk'.out
        rw [if_neg hF] at hk2
        have h1 := hbf2.ltB
        have h2 : B ≤ B ||| N := Nat.left_le_or
        by_cases q : N = 0
        · rw [if_pos q]; omega
        · rw [if_neg q]
          have := hmore q
          omega
      case stop =>
        rintro D c pre W _ _ h _
        exact h.elim

end Go.Proofs.YtcojpajmeacpiaaDoor.Wry
