/-
  The walk of the law GrantLists: of any keys the table lists those that were added, rising, each once; a grant dropped and added again is where it was: it returns true, and nothing that was in memory has turned. Conditions: none but that the arguments lie in memory as such do.
-/
import Derived.Test.YtpbbamoeaalolaaGtLs
import Derived.BigQuiet
namespace Go.Proofs.Ytpbbamoeaalolaa.Wg
open Go.ChangeShapes Go.WideShapes Go.ChangeAt Go.RowKit Go.Proofs.Ytpbbamoeaalolaa.M Go.Maps

set_option maxRecDepth 100000 in
set_option maxHeartbeats 3200000 in
theorem lists (p : Option Addr) (n cap : Nat) (A : Nat → Ky) (iv : Int) (w : World) (hc : n ≤ cap) (_ : cap ≤ maxLen) (hA : Kys w p n A) (hi1 : -9223372036854775808 ≤ iv) (hi2 : iv < 9223372036854775808) :
    Calls Try.prog 8 #[.slice p n cap, .int .i64 iv] w fun e w' => e = .returned (.bool true) ∧ Below w.heap.size w w' := by
  have k1' : min (n : Int) 40 = ((min n 40 : Nat) : Int) := by omega
  obtain ⟨kk, hkk⟩ : ∃ k, k = min n 40 := ⟨_, rfl⟩
  have hkk1 : kk ≤ 40 := by omega
  have hkk2 : kk ≤ n := by omega
  rw [← hkk] at k1'
  clear hkk
  have HA := hid hA
  have HV := hid (And.intro hi1 hi2)
  have WK := hid Wg.wakes
  have NN := hid newNone
  have hmm := @run_makeMap Try.prog
  clear hA hi1 hi2
  go_enter Try.func8, Try.ntmps8
  go_wp2_with fail
  refine (NN.out _).mono ?_
  rintro e w1 ⟨s, rfl, t1⟩
  go_wp2_with fail
  refine (WK.out _).mono ?_
  rintro e w2 ⟨rfl, b2⟩
  have G2 := hid (gl_new (t1.below b2))
  clear t1 b2 WK NN
  go_wp2
  have hw2 := G2.out.bel.size
  have G3 : Hid (Gl w (w2.alloc (.map #[] 0)) s [w2.heap.size] []) := G2.out.more ((Below.refl _ _).alloc (Nat.le_refl _) _) (fun i hi => by simp at hi; subst hi; exact .inr ⟨Nat.le_refl _, by simp⟩)
  go_loopw [33] (fun i wr => ∃ (m : Nat) (L : List Ky) (D : DataW Unit), i = .int .i64 m ∧ m ≤ kk ∧ Hid (Gl w wr s [w2.heap.size] L ∧ Bm wr w2.heap.size D L)) (fun i _ => kk - (intOf i).toNat)
  case atStart => exact ⟨0, [], _, rfl, Nat.zero_le _, G3.out, bm_new w2⟩
  case round =>
    clear G2 G3
    obtain ⟨m, L, D, rfl, hm, hP⟩ := hrel
    by_cases cm : m < kk
    · obtain ⟨hA1, hA2⟩ := HA.out
      rcases hA2 with hA2 | ⟨b, o, rfl, q3, q4⟩
      · omega
      have kx := hA1 m (by omega)
      have bw := hP.out.1.bel
      have y0 := (bw.cell (p := ⟨b, o + m * 2 + 0, none⟩) q3).trans (q4 m (by omega) 0 _ rfl)
      have y1 := (bw.cell (p := ⟨b, o + m * 2 + 1, none⟩) q3).trans (q4 m (by omega) 1 _ rfl)
      rw [Nat.add_zero] at y0
      clear hA1 q4 HA
      generalize A m = x at kx y0 y1
      have hBl := hP.out.2.own.lt
      have hT := hid hP.out.1.tbl
      have hL16 := hP.out.1.tbl.len
      have G4 : Hid (Gl w (wr.alloc (.cells #[.int .i64 x.1, .string x.2] 25)) s [w2.heap.size, wr.heap.size] L) := hP.out.1.more ((Below.refl _ _).alloc (Nat.le_refl _) _) (fun i hi => by simp at hi; exact hi.elim (fun h => .inl (by simp [h])) (fun h => .inr ⟨by omega, by simp; omega⟩))
      have CA := hid (gl_add G4.out kx)
      clear bw
      by_cases e0 : addE x L = 0
      · have hn := (addE_0.1 e0).2.2.1
        rw [e0, addL_yes e0] at CA
        clear e0
        go_wp2_with fail
        refine CA.out.mono ?_
        rintro e w4 ⟨rfl, G5, hz, hkp⟩
        obtain ⟨j0, j1, j2⟩ := KAt.c (w := w4) (g := wr.heap.size) (k := x) (T := 25) ((hkp _ (by simp)).trans (heap_alloc_new wr _))
        have B5 := hid (hP.out.2.at ((hkp _ (by simp)).trans (heap_alloc_old wr _ hBl)))
        have G5' := hid G5
        have own5 := B5.out.own
        clear CA G4 hkp G5 hP y0 y1
        go_wp2_with (first | (at_mapUpdate; refine wpList_mapUpdate_own _ rfl _ _ _ 59 rfl 38 4 lawG Try.underlying59 _ w2.heap.size L.length D rfl own5 (by unfold maxLen; omega) _ _ _ rfl rfl (keyOf_mk kx) _ [] (plainElem_bool Try.underlying4 true) ?_; intro w5 hown5 hg5) | go_in)
        have G6 := (G5'.out.put hg5 (by simp) hw2).more (Below.refl _ _) (av' := [w2.heap.size]) (fun i hi => .inl (by simp at hi; simp [hi]))
        have B6 := B5.out.put (fun k hk => Tbl.ok hT.out hk) kx hn hown5
        go_roundw
        case rel => exact ⟨m + 1, _, _, by go_num, cm, G6, B6⟩
        case measure => simp [intOf]; omega
      · rw [addL_no e0] at CA
        have e1 : (addE x L == 0) = false := by simpa using e0
        have e2 : decide (addE x L = 0) = false := decide_eq_false e0
        clear e0
        go_wp2_with fail
        refine CA.out.mono ?_
        rintro e w4 ⟨rfl, G5, hz, hkp⟩
        have B5 := hid (hP.out.2.at ((hkp _ (by simp)).trans (heap_alloc_old wr _ hBl)))
        have G6 := hid (G5.more (Below.refl _ _) (av' := [w2.heap.size]) (fun i hi => .inl (by simp at hi; simp [hi])))
        clear CA G4 hkp G5 hP y0 y1
        go_wp2
        go_roundw
        case rel => exact ⟨m + 1, L, D, by go_num, cm, G6.out, B5.out⟩
        case measure => simp [intOf]; omega
    · have LS := hid (gl_list hP.out.1)
      clear HA
      go_wp2_with fail
      refine LS.out.mono ?_
      rintro e w3 ⟨a, cp, rfl, hLc, hcp, hLs, b3⟩
      have B3 := hid (hP.out.2.below b3)
      have hT := hid hP.out.1.tbl
      have hL16 := hP.out.1.tbl.len
      have hwr := hP.out.1.bel.size
      have GP := hid hP.out.1
      clear LS hP
      go_wp2
      go_loopw [11, 48] (fun _ i wr' => ∃ j : Nat, j ≤ L.length ∧ i = .int .i64 j ∧ Below w3.heap.size w3 wr') (fun _ i _ => L.length - (intOf i).toNat)
      case atStart => exact ⟨0, Nat.zero_le _, rfl, Below.refl _ _⟩
      case round =>
        rename World => wo
        obtain ⟨j, hj, rfl, bo⟩ := hrel
        by_cases cj : j < L.length
        · rcases hLs with h4 | ⟨g, rfl, _, hgl, rd⟩
          · rw [h4] at cj; simp at cj
          obtain ⟨x, hx⟩ : ∃ x, L[j]? = some x := ⟨L[j], List.getElem?_eq_getElem cj⟩
          obtain ⟨x0, x1⟩ := rd.at hx
          have y0 := (bo.cell (p := ⟨g, j * 2, none⟩) hgl).trans x0
          have y1 := (bo.cell (p := ⟨g, j * 2 + 1, none⟩) hgl).trans x1
          have hmx := List.mem_of_getElem? hx
          have hlt := bo.size
          have hgo : g < wo.heap.size := Nat.lt_of_lt_of_le hgl bo.size
          have LK : ∀ o q, (Instr.lookup 59 (.map (some w2.heap.size)) (.agg #[.int .i64 x.1, .string x.2]) false).run Try.prog ((wo.alloc o).drewN q) = .ok (.bool true) ((wo.alloc o).drewN q) := fun o q =>
            ((B3.out.below bo).at (w' := (wo.alloc o).drewN q) (heap_alloc_old wo o (B3.out.below bo).own.lt)).look hmx (Tbl.ok hT.out hmx)
          have LK0 := fun o => LK o 0
          have bo' : ∀ o q, Below w3.heap.size w3 ((wo.alloc o).drewN q) := fun o q => by
            have h := bo.alloc bo.size o
            exact ⟨h.os, h.tape, h.output, h.size, h.block⟩
          have BO := hid bo'
          have HB : Hid (∀ i x, L[i]? = some x → ∀ t v, (kC x)[t]? = some v → wo.cell? ⟨g, 0 + i * 2 + t, none⟩ = some v) := fun i x hx t v hv => (bo.cell (p := ⟨g, 0 + i * 2 + t, none⟩) hgl).trans (rd i x hx t v hv)
          clear bo bo' x0 x1
          rcases j with _ | j'
          · clear rd hx hmx
            go_wp2
            go_quiet (fail)
            go_wp2
            go_roundw
            case rel => exact ⟨1, cj, by go_num, BO.out _ _⟩
            case measure => simp [intOf]; omega
          · obtain ⟨y, hy⟩ : ∃ y, L[j']? = some y := ⟨L[j'], List.getElem?_eq_getElem (by omega)⟩
            obtain ⟨z0, z1⟩ := rd.at hy
            have z0' := HB.out j' y hy 0 _ rfl
            have z1' := HB.out j' y hy 1 _ rfl
            have hlt' : kLt y x = true := by
              have := List.pairwise_iff_getElem.1 hT.out.rsg j' (j' + 1) (by omega) cj (by omega)
              rw [(List.getElem?_eq_some_iff.1 hy).2, (List.getElem?_eq_some_iff.1 hx).2] at this
              exact this
            rw [Nat.zero_add] at z0' z1'
            rw [Nat.add_zero] at z0'
            clear rd hx hmx hy z0 z1 HB
            have hw1 : wrap64 ((j' : Int) + 1 - 1) = (j' : Int) := by unfold wrap64; omega
            have hw2 : (j' : Int) + 1 - 1 = (j' : Int) := by omega
            have hj'l : j' < L.length := by omega
            have hgt : decide ((0 : Int) < (j' : Int) + 1) = true := decide_eq_true (by omega)
            rcases kLt_cases y x with ⟨c1, _⟩ | ⟨c1, c2, c3, _⟩ | ⟨_, _, _, c4⟩ | ⟨_, _, c4⟩
            · have g1 : decide (x.1 < y.1) = false := decide_eq_false (by omega)
              have g2 : decide (y.1 = x.1) = false := decide_eq_false (by omega)
              have g3 : (y.1 == x.1) = false := by simp; omega
              clear c1 hlt'
              go_wp2
              go_quiet (fail)
              go_wp2
              go_roundw
              case rel => exact ⟨j' + 1 + 1, cj, by go_num, BO.out _ _⟩
              case measure => simp [intOf]; omega
            · rw [c2] at z0'
              have g1 : decide (x.1 < x.1) = false := decide_eq_false (by omega)
              have hge : ∀ W, (binOp .geq 9 (.string y.2) (.string x.2)).run Try.prog W = .ok (.bool (!Op.bytesLess y.2.toList x.2.toList)) W := fun W => rfl
              rw [c3] at hge
              simp only [Bool.not_true] at hge
              clear c1 c2 hlt'
              go_wp2
              go_quiet (fail)
              go_wp2
              go_roundw
              case rel => exact ⟨j' + 1 + 1, cj, by go_num, BO.out _ _⟩
              case measure => simp [intOf]; omega
            · rw [c4] at hlt'; cases hlt'
            · rw [c4] at hlt'; cases hlt'
        · have Bo := B3.out.below bo
          have hlen := Bo.own.len Try.underlying59 3
          rw [Bo.ts.size] at hlen
          have bF := hid (GP.out.bel.trans ((b3.trans (bo.mono b3.size)).mono hwr))
          by_cases cL : L = []
          · subst cL
            clear Bo
            go_wp2
            go_ret
            exact ⟨rfl, bF.out⟩
          · have hpos : 0 < L.length := List.length_pos_iff.2 cL
            rcases hLs with h4 | ⟨g, rfl, hgw, hgl, rd⟩
            · exact absurd h4 cL
            have hd1 : decide ((L.length : Int) = 0) = false := decide_eq_false (by omega)
            have hd2 : ((L.length : Int) == 0) = false := by simp; omega
            have h0 : (0 : Int) ≤ max 0 iv := by omega
            have h1 := Int.tmod_nonneg (L.length : Int) h0
            have h2 := Int.tmod_lt_of_pos (max 0 iv) (b := (L.length : Int)) (by omega)
            obtain ⟨q, hq⟩ : ∃ q : Nat, (max 0 iv).tmod (L.length : Int) = (q : Int) := ⟨((max 0 iv).tmod (L.length : Int)).toNat, by omega⟩
            have hqL : q < L.length := by omega
            obtain ⟨x, hx⟩ : ∃ x, L[q]? = some x := ⟨L[q], List.getElem?_eq_getElem hqL⟩
            obtain ⟨x0, x1⟩ := rd.at hx
            have y0 := (bo.cell (p := ⟨g, q * 2, none⟩) hgl).trans x0
            have y1 := (bo.cell (p := ⟨g, q * 2 + 1, none⟩) hgl).trans x1
            have hmx := List.mem_of_getElem? hx
            have kx := Tbl.ok hT.out hmx
            obtain ⟨eA, eL, eD, hnx, hln⟩ := drop_add hT.out hmx
            have hln' : (dropL x L).length = L.length - 1 := by omega
            have hgo : g < wo.heap.size := Nat.lt_of_lt_of_le hgl bo.size
            have G7 : Hid (Gl w (wo.alloc (.cells #[.int .i64 x.1, .string x.2] 38)) s [g, wo.heap.size] L) := GP.out.more ((b3.trans (bo.mono b3.size)).alloc (Nat.le_trans b3.size bo.size) _) (fun i hi => by simp at hi; exact .inr (hi.elim (fun h => ⟨by omega, by simp; omega⟩) (fun h => ⟨by have := b3.size; have := bo.size; omega, by simp; omega⟩)))
            have CD := hid (gl_drop G7.out kx)
            rw [eD] at CD
            have rdo : Hid (Rd kC wo g 0 L) := fun i x hx t v hv => (bo.cell (p := ⟨g, 0 + i * 2 + t, none⟩) hgl).trans (rd i x hx t v hv)
            have hw1 : wrap64 ((L.length : Int) - 1) = ((L.length - 1 : Nat) : Int) := by unfold wrap64; omega
            have hw2 : (L.length : Int) - 1 = ((L.length - 1 : Nat) : Int) := by omega
            clear h0 h1 h2 Bo cL x0 x1 hx hmx rd GP hln bo b3 B3 hd1 hd2
            have FA := hid (And.intro eA (And.intro eL (And.intro hnx hln')))
            clear eA eL eD hnx hln'
            go_wp2_with fail
            refine CD.out.mono ?_
            rintro e w5 ⟨rfl, G8, hz8, hk8⟩
            have K5 : Hid (KAt w5 wo.heap.size x 38) := (hk8 _ (by simp)).trans (heap_alloc_new wo _)
            have e5 : Hid (w5.heap[g]? = wo.heap[g]?) := (hk8 _ (by simp)).trans (heap_alloc_old wo _ hgo)
            have hg5 : g < w5.heap.size := Nat.lt_of_lt_of_le (by simp; omega) hz8
            obtain ⟨j0, j1, j2⟩ := K5.out.c
            have CH := hid (gl_has G8 kx)
            rw [decide_eq_false FA.out.2.2.1] at CH
            have G8' := hid G8
            clear CD G7 hk8 G8 y0 y1
            go_wp2_with fail
            refine CH.out.mono ?_
            rintro e w6 ⟨rfl, b6⟩
            have G9 := hid (G8'.out.more b6 (av' := [g, wo.heap.size]) (fun i hi => .inl hi))
            have K6 := hid (K5.out.below b6)
            have e6 : Hid (w6.heap[g]? = wo.heap[g]?) := (b6.block g hg5).trans e5.out
            have hg6 : g < w6.heap.size := Nat.lt_of_lt_of_le hg5 b6.size
            have CL := hid (gl_list G9.out)
            rw [FA.out.2.2.2] at CL
            clear CH K5 e5 G8' b6 j0 j1 j2
            go_wp2_with fail
            refine CL.out.mono ?_
            rintro e w7 ⟨a7, c7, rfl, _, _, _, b7⟩
            have G10 := hid (G9.out.more b7 (av' := [g, wo.heap.size]) (fun i hi => .inl hi))
            have K7 := K6.out.below b7
            obtain ⟨j0, j1, j2⟩ := K7.c
            have e7 : Hid (w7.heap[g]? = wo.heap[g]?) := (b7.block g hg6).trans e6.out
            have hg7 : g < w7.heap.size := Nat.lt_of_lt_of_le hg6 b7.size
            have CA := hid (gl_add G10.out kx)
            rw [FA.out.1, FA.out.2.1] at CA
            clear CL K6 e6 G9 b7 K7
            go_wp2_with fail
            refine CA.out.mono ?_
            rintro e w8 ⟨rfl, G11, hz11, hk11⟩
            have e8 : Hid (w8.heap[g]? = wo.heap[g]?) := (hk11 _ (by simp)).trans e7.out
            have LS := hid (gl_list G11)
            have b8 := hid G11.bel
            clear CA G10 e7 hk11 G11 j0 j1 j2 FA hw1 hw2 kx hq
            go_wp2_with fail
            refine LS.out.mono ?_
            rintro e w9 ⟨a9, c9, rfl, _, _, hL9, b9⟩
            have g9 : g < w8.heap.size := Nat.lt_of_lt_of_le hg7 hz11
            have rd9 : Hid (Rd kC w9 g 0 L) := fun i x hx t v hv => (b9.cell (p := ⟨g, 0 + i * 2 + t, none⟩) g9).trans ((World.cell?_of_block (w := wo) (a := ⟨g, 0 + i * 2 + t, none⟩) e8.out).trans (rdo.out i x hx t v hv))
            have bG := hid (b8.out.trans (b9.mono b8.out.size))
            have hg9 := Nat.lt_of_lt_of_le g9 b9.size
            clear LS e8 rdo b8 b9
            have hqk := neqK 38 (.inl rfl)
            go_wp2
            go_loopw [14, 145] (fun _ i wr' => ∃ j : Nat, j ≤ L.length ∧ i = .int .i64 j ∧ Below w9.heap.size w9 wr') (fun _ i _ => L.length - (intOf i).toNat)
            case atStart => exact ⟨0, Nat.zero_le _, rfl, Below.refl _ _⟩
            case round =>
              rename World => wv
              obtain ⟨j, hj, rfl, bv⟩ := hrel
              by_cases cj : j < L.length
              · rcases hL9 with h4 | ⟨h, rfl, _, hhl, rdh⟩
                · rw [h4] at cj; simp at cj
                obtain ⟨z, hz⟩ : ∃ z, L[j]? = some z := ⟨L[j], List.getElem?_eq_getElem cj⟩
                obtain ⟨x0, x1⟩ := rd9.out.at hz
                obtain ⟨x2, x3⟩ := rdh.at hz
                have y0 := (bv.cell (p := ⟨g, j * 2, none⟩) hg9).trans x0
                have y1 := (bv.cell (p := ⟨g, j * 2 + 1, none⟩) hg9).trans x1
                have y2 := (bv.cell (p := ⟨h, j * 2, none⟩) hhl).trans x2
                have y3 := (bv.cell (p := ⟨h, j * 2 + 1, none⟩) hhl).trans x3
                have hgv : g < wv.heap.size := Nat.lt_of_lt_of_le hg9 bv.size
                have hhv : h < wv.heap.size := Nat.lt_of_lt_of_le hhl bv.size
                have hqx := fun W => hqk W z z
                simp only [decide_true, Bool.not_true] at hqx
                have BO : Hid (∀ o q, Below w9.heap.size w9 ((wv.alloc o).drewN q)) := fun o q => by
                  have h := bv.alloc bv.size o
                  exact ⟨h.os, h.tape, h.output, h.size, h.block⟩
                clear hqk x0 x1 x2 x3 hz rdh bv
                go_wp2
                go_quiet (fail)
                go_wp2
                go_roundw
                case rel => exact ⟨j + 1, cj, by go_num, BO.out _ _⟩
                case measure => simp [intOf]; omega
              · have bH := hid (bG.out.trans (bv.mono bG.out.size))
                clear bv hL9 rd9
                go_wp2
                go_ret
                exact ⟨rfl, bH.out⟩

end Go.Proofs.Ytpbbamoeaalolaa.Wg
