/-
  The contract of the document's Read. Conditions: the value can be read, and has at most 10000 inner ones.
-/
import Derived.Test.YtainajjklakaeaaGpRq
import Derived.Deep.RegionHeld3
import Derived.Deep.RegionLaw
import Derived.Deep.AppendLies
namespace Go.Proofs.Ytainajjklakaeaa.Wgx
open Go.ChangeShapes Go.WideShapes Go.ChangeAt Go.RowKit Go.Proofs.Ytainajjklakaeaa.M Go.Proofs.Ytainajjklakaeaa.Wgp Go.Proofs.Ytainajjklakaeaa.Wgf

set_option maxRecDepth 100000 in
set_option maxHeartbeats 12800000 in
theorem readRef (k n : Int) (s : ByteArray) (l : F) (M : Value) (w : World) (A : Nat → Prop) (hM : Rd w A M l) (hok : l.ok) (hlen : l.nodes ≤ 10000) :
    Calls Try.prog 7 #[.agg #[.int .i64 k, .int .i64 n, .string s, M]] w fun e w' => RrP w' k l e ∧ Below w.heap.size w w' := by
  obtain ⟨p, cap, rfl, hc, hcm⟩ := rd_slice hM
  unfold maxLen at hcm
  have HM := hid hM
  have HO := hid hok
  have SM := hid smallRef
  clear hM hok
  by_cases c1 : k = 2
  · by_cases c2 : l.len = 2
    · have e1 : ((2 : Int) != 2) = false := by decide
      subst c1
      obtain ⟨k0, n0, s0, g0, k1, n1, s1, l1, hl⟩ := two_of c2
      obtain ⟨g, p1, pc, rfl, hg, u0, u2, u4, u7, hL1⟩ := rd_two2 HM.out hl
      have HK : Hid (k0 = 1 ∧ k1 = 2 → rdF 2 l = match rdL l1 with | some m => some (s0, m) | none => none) := hid (by
        rintro ⟨rfl, rfl⟩
        rw [hl]
        exact Wgr.rdF2 _ _ _ _ _ _)
      have HB : Hid ((k0 ≠ 1 ∨ k1 ≠ 2) → rdF 2 l = none) := hid (fun h => by rw [hl]; exact fl_kind h)
      have hnn : l1.nodes < l.nodes := F.at_nodes (j := 1) (k := k1) (n := n1) (s := s1) (by rw [hl]; rfl)
      have HO1 : Hid l1.ok := hid (F.at_ok (j := 1) (k := k1) (n := n1) (s := s1) (l := l1) (by rw [hl]; rfl) HO.out).2.2.2
      have HL1 := hid hL1
      obtain ⟨_, _, hL1e, hpc, hpcm⟩ := rd_slice hL1
      have hl1 := F.len_nodes l1
      rw [c2] at hc ⊢
      have hg1 : g < w.heap.size + 1 := by omega
      have hg2 : g < w.heap.size + 1 + 1 := by omega
      clear hl hL1 HM HO hL1e c2
      by_cases d0 : k0 = 1
      · by_cases d1 : k1 = 2
        · have f0 : (k0 != 1) = false := by simp [d0]
          have f1 : (k1 != 2) = false := by simp [d1]
          have HR := hid (HK.out ⟨d0, d1⟩)
          clear HK HB
          have IZ := hid infoS
          obtain ⟨i0, hi0, hz0, hs0, hb0⟩ := info_parts infoS
          obtain ⟨i1, hi1, hz1, hs1, hb1⟩ := info_parts infoR
          have U4 := hid u4
          have U7 := hid u7
          clear IZ
          go_enter Try.func7, Try.ntmps7
          go_wp2_with fail
          clear u0 u2 u4 u7 f0 f1
          go_loopw [6] (fun iv wr => ∃ (i : Nat) (m : List Nd), iv = .int .i64 (i : Int) ∧ i ≤ l1.len ∧ Hid (m.length = i) ∧ Hid (Ez w 2 n s (.slice (some ⟨g, 0, none⟩) 2 cap) wr) ∧ Hid (R1 (w.heap.size + 1 + 1 + 1 + 1) (w.heap.size + 1 + 1 + 1) s0 m wr) ∧ Hid (∀ j x, m[j]? = some x → ∃ k n s g, l1.at j = some (k, n, s, g) ∧ rdN1 k g = some x)) (fun iv _ => l1.len - (intOf iv).toNat)
          case atStart =>
            obtain ⟨X, hX⟩ : ∃ X, X = ((w.alloc (.cells #[.int .i64 2, .int .i64 n, .string s, .slice (some ⟨g, 0, none⟩) 2 cap] 40)).alloc (.cells #[.string ⟨#[]⟩, .slice none 0 0] 31)).alloc (.cells #[.string ⟨#[]⟩, .slice none 0 0] 31) := ⟨_, rfl⟩
            obtain ⟨x1, x2, x3, xz, xb⟩ := Wgr.alloc3 _ _ _ _ _ _ _ X hX
            rw [← hX]
            have xo : ∀ o j, j < w.heap.size + 3 → (X.alloc o).heap[j]? = X.heap[j]? := fun o j hj => Below.heap_alloc X o j (by omega)
            refine ⟨0, [], rfl, Nat.zero_le _, hid rfl, hid ⟨xb.alloc (by omega) _, Pz.far ⟨x1, x2, x3⟩ (xo _), by simp; omega⟩, hid ⟨fun _ => False, none, 0, [], ?_, World.ownsRow_nil _ _ _ _, rfl, fun _ h => h.elim, by simp; omega⟩, hid (fun j x h => by simp at h)⟩
            have h := heap_alloc_new X (.cells #[.string s0, .slice none 0 0] 31)
            rw [xz] at h
            exact h
          case round =>
            obtain ⟨i, m, rfl, hi, hml, hE, hG, hno⟩ := hrel
            have hml' := hml.out
            subst hml'
            obtain ⟨wo, rfl⟩ : ∃ wo, wo = wr := ⟨_, rfl⟩
            obtain ⟨v3, r0, r1, rf, o0, o1⟩ := hE.out.2.1.cells
            have zE := hE.out.2.2
            have b0_ : w.heap.size < wo.heap.size := by omega
            have b1_ : w.heap.size + 1 < wo.heap.size := by omega
            have b2_ : w.heap.size + 1 + 1 < wo.heap.size := by omega
            have hg3 : g < wo.heap.size := by omega
            have u4 := (hE.out.1.cell (p := ⟨g, 4, none⟩) hg).trans U4.out
            have u7 := (hE.out.1.cell (p := ⟨g, 7, none⟩) hg).trans U7.out
            by_cases ci : m.length < l1.len
            · obtain ⟨a, n', s', l', ha⟩ := F.at_some l1 (j := m.length) ci
              obtain ⟨gp, L', rfl, _, hgp, y0', y1', y2', y3', hL'⟩ := rd_at HL1.out ha
              obtain ⟨pl, cl, rfl, hcl, hclm⟩ := rd_slice hL'
              unfold maxLen at hclm
              have hgp3 : gp < wo.heap.size := by omega
              have y0 := (hE.out.1.cell (p := ⟨gp, m.length * 4, none⟩) hgp).trans y0'
              have y1 := (hE.out.1.cell (p := ⟨gp, m.length * 4 + 1, none⟩) hgp).trans y1'
              have y2 := (hE.out.1.cell (p := ⟨gp, m.length * 4 + 2, none⟩) hgp).trans y2'
              have y3 := (hE.out.1.cell (p := ⟨gp, m.length * 4 + 3, none⟩) hgp).trans y3'
              have HO2 := hid (F.at_ok ha HO1.out).2.2.2
              have hn' := F.at_nodes ha
              have HA := hid ha
              have HL2 := hid hL'
              have HF := hid (show rdN1 a l' = none → rdF 2 l = none from fun h => by rw [HR.out, Wgr.rdL_at HA.out h])
              clear y0' y1' y2' y3' ha hL'
              by_cases c1 : a = 2
              · have e2 : ((2 : Int) != 2) = false := by decide
                subst c1
                by_cases c2 : l'.len = 6
                · obtain ⟨k0, n0, t0, g0, k1, n1, t1, l6, k2, n2, t2, g2, k3, n3, t3, g3, k4, n4, t4, g4, k5, n5, t5, g5, hl⟩ := six_of c2
                  obtain ⟨gq, p6, c6, rfl, hgq, hL6, ⟨a0', a1', a2', a3', a4', a5'⟩, b0', b1', b2', b3', b4', b5'⟩ := rd_six2 HL2.out hl
                  have a0 := (hE.out.1.cell (p := ⟨gq, 0, none⟩) hgq).trans a0'
                  have a1 := (hE.out.1.cell (p := ⟨gq, 4, none⟩) hgq).trans a1'
                  have a2 := (hE.out.1.cell (p := ⟨gq, 8, none⟩) hgq).trans a2'
                  have a3 := (hE.out.1.cell (p := ⟨gq, 12, none⟩) hgq).trans a3'
                  have a4 := (hE.out.1.cell (p := ⟨gq, 16, none⟩) hgq).trans a4'
                  have a5 := (hE.out.1.cell (p := ⟨gq, 20, none⟩) hgq).trans a5'
                  have b0 := (hE.out.1.cell (p := ⟨gq, 2, none⟩) hgq).trans b0'
                  have b1 := (hE.out.1.cell (p := ⟨gq, 7, none⟩) hgq).trans b1'
                  have b2 := (hE.out.1.cell (p := ⟨gq, 9, none⟩) hgq).trans b2'
                  have b3 := (hE.out.1.cell (p := ⟨gq, 13, none⟩) hgq).trans b3'
                  have b4 := (hE.out.1.cell (p := ⟨gq, 17, none⟩) hgq).trans b4'
                  have b5 := (hE.out.1.cell (p := ⟨gq, 22, none⟩) hgq).trans b5'
                  have HB : Hid ((k0 ≠ 1 ∨ k1 ≠ 2 ∨ k2 ≠ 0 ∨ k3 ≠ 0 ∨ k4 ≠ 0 ∨ k5 ≠ 1) → rdN1 2 l' = none) := hid (fun h => by rw [hl]; exact nd_kind h)
                  have HC : Hid (k0 = 1 ∧ k1 = 2 ∧ k2 = 0 ∧ k3 = 0 ∧ k4 = 0 ∧ k5 = 1 → rdN1 2 l' = if sm n2 = true ∧ sm n4 = true then (match rdS l6 with | some ds => some ⟨t0, ds, n2, n3, n4, t5⟩ | none => none) else none) := hid (by
                    rintro ⟨rfl, rfl, rfl, rfl, rfl, rfl⟩
                    rw [hl]
                    exact nd_six _ _ _ _ _ _ _ _ _ _ _ _ _ _ _ _ _ _)
                  have hgq3 : gq < wo.heap.size := by omega
                  have hn6 : l6.nodes < l'.nodes := F.at_nodes (j := 1) (k := k1) (n := n1) (s := t1) (by rw [hl]; rfl)
                  have HO6 := hid (F.at_ok (j := 1) (k := k1) (n := n1) (s := t1) (l := l6) (by rw [hl]; rfl) HO2.out).2.2.2
                  have HL6 := hid hL6
                  obtain ⟨_, _, hL6e, hc6, hc6m⟩ := rd_slice hL6
                  have hl6 := F.len_nodes l6
                  rw [c2] at y3 hcl
                  clear hl hL6 HO2 HL2 hL6e c2 a0' a1' a2' a3' a4' a5' b0' b1' b2' b3' b4' b5'
                  by_cases q0 : k0 = 1
                  · have z0 : (k0 != 1) = false := by simp [q0]
                    by_cases q1 : k1 = 2
                    · have z1 : (k1 != 2) = false := by simp [q1]
                      by_cases q2 : k2 = 0
                      · have z2 : (k2 != 0) = false := by simp [q2]
                        by_cases q3 : k3 = 0
                        · have z3 : (k3 != 0) = false := by simp [q3]
                          by_cases q4 : k4 = 0
                          · have z4 : (k4 != 0) = false := by simp [q4]
                            by_cases q5 : k5 = 1
                            · have z5 : (k5 != 1) = false := by simp [q5]
                              have HC' := hid (HC.out ⟨q0, q1, q2, q3, q4, q5⟩)
                              clear HB HC
                              rcases m2 : sm n2 with _ | _
                              · have R := hid (HF.out (by rw [HC'.out, if_neg (by rw [m2]; simp)]))
                                have C1 := hid (fun W => SM.out n2 W)
                                rw [m2] at C1
                                have C2 := hid (fun W => SM.out n4 W)
                                clear HC' HF hG HR HL1 HO1 m2 HA HL6 HO6
                                generalize sm n4 = bb at C2
                                go_wp2_with fail
                                refine (C1.out _).mono ?_
                                rintro e w3 ⟨rfl, rfl⟩
                                clear C1
                                go_wp2_with fail
                                refine (C2.out _).mono ?_
                                rintro e w3 ⟨rfl, rfl⟩
                                clear C2
                                go_wp2_with fail
                                have e0_ : ((wo.setCell ⟨w.heap.size + 1, 0, none⟩ (.string ⟨#[]⟩)).setCell ⟨w.heap.size + 1, 1, none⟩ (.slice none 0 0)).cell? ⟨w.heap.size + 1, 0, none⟩ = some (.string ⟨#[]⟩) := by simp [go_sem, r0]
                                have e1_ : ((wo.setCell ⟨w.heap.size + 1, 0, none⟩ (.string ⟨#[]⟩)).setCell ⟨w.heap.size + 1, 1, none⟩ (.slice none 0 0)).cell? ⟨w.heap.size + 1, 1, none⟩ = some (.slice none 0 0) := by simp [go_sem, r1]
                                have e2_ := fun o => Wgr.cell_al e0_ (o := o)
                                have e3_ := fun o => Wgr.cell_al e1_ (o := o)
                                refine bodyPost_ret (v := .tuple #[.agg #[.string ⟨#[]⟩, .slice none 0 0], .int .i64 4]) (by simp [results, Try.results7, go_sem, e2_, e3_]) rfl ⟨.inr ⟨R.out, rfl⟩, ?_⟩
                                exact (put2_below (j := 0) hE.out.1 (by omega) _ _).alloc (by simp [World.setCell]; exact hE.out.1.size) _
                              · have C1 := hid (fun W => SM.out n2 W)
                                rw [m2] at C1
                                rcases m4 : sm n4 with _ | _
                                · have R := hid (HF.out (by rw [HC'.out, if_neg (by rw [m4]; simp)]))
                                  have C2 := hid (fun W => SM.out n4 W)
                                  rw [m4] at C2
                                  clear HC' HF hG HR HL1 HO1 m2 m4 HA HL6 HO6
                                  go_wp2_with fail
                                  refine (C1.out _).mono ?_
                                  rintro e w3 ⟨rfl, rfl⟩
                                  clear C1
                                  go_wp2_with fail
                                  refine (C2.out _).mono ?_
                                  rintro e w3 ⟨rfl, rfl⟩
                                  clear C2
                                  go_wp2_with fail
                                  have e0_ : ((wo.setCell ⟨w.heap.size + 1, 0, none⟩ (.string ⟨#[]⟩)).setCell ⟨w.heap.size + 1, 1, none⟩ (.slice none 0 0)).cell? ⟨w.heap.size + 1, 0, none⟩ = some (.string ⟨#[]⟩) := by simp [go_sem, r0]
                                  have e1_ : ((wo.setCell ⟨w.heap.size + 1, 0, none⟩ (.string ⟨#[]⟩)).setCell ⟨w.heap.size + 1, 1, none⟩ (.slice none 0 0)).cell? ⟨w.heap.size + 1, 1, none⟩ = some (.slice none 0 0) := by simp [go_sem, r1]
                                  have e2_ := fun o => Wgr.cell_al e0_ (o := o)
                                  have e3_ := fun o => Wgr.cell_al e1_ (o := o)
                                  refine bodyPost_ret (v := .tuple #[.agg #[.string ⟨#[]⟩, .slice none 0 0], .int .i64 4]) (by simp [results, Try.results7, go_sem, e2_, e3_]) rfl ⟨.inr ⟨R.out, rfl⟩, ?_⟩
                                  exact (put2_below (j := 0) hE.out.1 (by omega) _ _).alloc (by simp [World.setCell]; exact hE.out.1.size) _
                                · have HS : Hid (rdN1 2 l' = match rdS l6 with | some ds => some ⟨t0, ds, n2, n3, n4, t5⟩ | none => none) := hid (by rw [HC'.out, if_pos ⟨m2, m4⟩])
                                  have C2 := hid (fun W => SM.out n4 W)
                                  rw [m4] at C2
                                  have BS := hid (show ∀ W, Below wo.heap.size wo W → W.cell? ⟨gq, 7, none⟩ = some (.slice p6 l6.len c6) from fun W b => (b.cell (p := ⟨gq, 7, none⟩) (Nat.lt_of_lt_of_le hgq hE.out.1.size)).trans b1)
                                  clear HC' m2 m4
                                  go_wp2_with fail
                                  refine (C1.out _).mono ?_
                                  rintro e w3 ⟨rfl, rfl⟩
                                  clear C1
                                  go_wp2_with fail
                                  refine (C2.out _).mono ?_
                                  rintro e w3 ⟨rfl, rfl⟩
                                  clear C2
                                  go_wp2_with fail
                                  clear y0 y1 y2 y3 a0 a1 a2 a3 a4 a5 z0 z1 z2 z3 z4 z5 e2 v3 u4 u7 o0 o1 r0 r1 rf b1
                                  obtain ⟨Y, hY⟩ : ∃ Y, Y = wo.alloc (.cells #[.int .i64 2, .int .i64 n', .string s', .slice (some ⟨gq, 0, none⟩) 6 cl] 40) := ⟨_, rfl⟩
                                  rw [← hY]
                                  have zY : Y.heap.size = wo.heap.size + 1 := by rw [hY]; simp
                                  have bY := hid (show Below wo.heap.size wo Y by rw [hY]; exact al wo _)
                                  have nY := hid (show Y.heap[wo.heap.size]? = some (.cells #[.int .i64 2, .int .i64 n', .string s', .slice (some ⟨gq, 0, none⟩) 6 cl] 40 (0, 0)) by rw [hY]; exact heap_alloc_new wo _)
                                  have gw := hgq3
                                  have c3 : Y.cell? ⟨wo.heap.size, 3, none⟩ = some (.slice (some ⟨gq, 0, none⟩) 6 cl) := by simp [World.cell?, nY.out]
                                  have s0_ := (bY.out.cell (p := ⟨gq, 2, none⟩) gw).trans b0
                                  have s2_ := (bY.out.cell (p := ⟨gq, 9, none⟩) gw).trans b2
                                  have s3_ := (bY.out.cell (p := ⟨gq, 13, none⟩) gw).trans b3
                                  have s4_ := (bY.out.cell (p := ⟨gq, 17, none⟩) gw).trans b4
                                  have s5_ := (bY.out.cell (p := ⟨gq, 22, none⟩) gw).trans b5
                                  clear hY b0 b2 b3 b4 b5
                                  have w0_ := World.new_ne Y _ c3
                                  have w1_ := World.new_ne Y _ s0_
                                  have w2_ := World.new_ne Y _ s2_
                                  have w3_ := World.new_ne Y _ s3_
                                  have w4_ := World.new_ne Y _ s4_
                                  have w5_ := World.new_ne Y _ s5_
                                  go_region_held3 (fun W => W.cell? ⟨wo.heap.size, 3, none⟩ = some (.slice (some ⟨gq, 0, none⟩) 6 cl) ∧ W.cell? ⟨gq, 2, none⟩ = some (.string t0) ∧ W.cell? ⟨gq, 9, none⟩ = some (.int .i64 n2) ∧ W.cell? ⟨gq, 13, none⟩ = some (.int .i64 n3) ∧ W.cell? ⟨gq, 17, none⟩ = some (.int .i64 n4) ∧ W.cell? ⟨gq, 22, none⟩ = some (.string t5))
                                    (go_keep)
                                    (fail)
                                  go_wp2_with fail
                                  have I0 := hid (show ∃ q d, Inn wo (Y.alloc (.cells #[.string t0, .slice none 0 0, .int .i64 n2, .int .i64 n3, .int .i64 n4, .string t5] 57)).drew #[.int .i64 2, .int .i64 n', .string s', .slice (some ⟨gq, 0, none⟩) 6 cl] t0 n2 n3 n4 t5 q 0 d [] from ⟨none, 0, (bY.out.alloc (by omega) _).drew, by show wo.heap.size + 2 ≤ (Y.alloc _).heap.size; simp; omega, (Below.heap_alloc Y (.cells #[.string t0, .slice none 0 0, .int .i64 n2, .int .i64 n3, .int .i64 n4, .string t5] 57) _ (by omega)).trans nY.out, by have h := heap_alloc_new Y (.cells #[.string t0, .slice none 0 0, .int .i64 n2, .int .i64 n3, .int .i64 n4, .string t5] 57); rw [zY] at h; exact h, World.ownsRow_nil _ _ _ _⟩)
                                  clear c3 s0_ s2_ s3_ s4_ s5_ w0_ w1_ w2_ w3_ w4_ w5_
                                  go_loopw [11] (fun kv wi => ∃ (kk : Nat), kv = .int .i64 (kk : Int) ∧ kk ≤ l6.len ∧ Hid (∃ q d, Inn wo wi #[.int .i64 2, .int .i64 n', .string s', .slice (some ⟨gq, 0, none⟩) 6 cl] t0 n2 n3 n4 t5 q kk d (((Wgr.txts l6).take kk).map Value.string)) ∧ Hid (∀ j, j < kk → ∃ n s g, l6.at j = some (1, n, s, g))) (fun kv _ => l6.len - (intOf kv).toNat)
                                  case atStart => exact ⟨0, rfl, Nat.zero_le _, hid (by simpa using I0.out), hid (fun j h => absurd h (Nat.not_lt_zero j))⟩
                                  case round =>
                                    clear I0 bY nY
                                    obtain ⟨kk, rfl, hk, hI, hq⟩ := hrel
                                    obtain ⟨q', d', hI'⟩ := hI.out
                                    have HI := hid hI'
                                    obtain ⟨bi, zi, nx, nd, ow⟩ := hI'
                                    have zi2 := zi
                                    have x3 : wr.cell? ⟨wo.heap.size, 3, none⟩ = some (.slice (some ⟨gq, 0, none⟩) 6 cl) := by simp [World.cell?, nx]
                                    have x7 := BS.out wr bi
                                    have hEI := hid (hE.out.2.1.far (W' := wr) (fun j hj => bi.block j (by omega)))
                                    have HBI := hid bi
                                    by_cases ck : kk < l6.len
                                    · obtain ⟨ak, na, sa, la, ha⟩ := F.at_some l6 (j := kk) ck
                                      obtain ⟨gd, Ld, rfl, _, hgd, x0', _, x2', _⟩ := rd_at HL6.out ha
                                      have hgd3 : gd < wo.heap.size := by omega
                                      have x0 := (bi.cell (p := ⟨gd, kk * 4, none⟩) hgd3).trans ((hE.out.1.cell (p := ⟨gd, kk * 4, none⟩) hgd).trans x0')
                                      have x2 := (bi.cell (p := ⟨gd, kk * 4 + 2, none⟩) hgd3).trans ((hE.out.1.cell (p := ⟨gd, kk * 4 + 2, none⟩) hgd).trans x2')
                                      have HAK := hid ha
                                      clear ha x0' x2' nx
                                      by_cases ca : ak = 1
                                      · have e5 : (ak != 1) = false := by simp [ca]
                                        have hq2 : Hid (∀ j, j < kk + 1 → ∃ n s g, l6.at j = some (1, n, s, g)) := hid (fun j hj => by
                                          by_cases q : j = kk
                                          · subst q; exact ⟨na, sa, la, by rw [← ca]; exact HAK.out⟩
                                          · exact hq.out j (by omega))
                                        have hsn : Hid (((Wgr.txts l6).take (kk + 1)).map Value.string = ((Wgr.txts l6).take kk).map Value.string ++ [.string sa]) := hid (by rw [List.take_add_one, Wgr.txts_at ck, Wgr.txt_of HAK.out]; simp)
                                        have r3 : wr.cell? ⟨wo.heap.size + 1, 1, none⟩ = some (.slice q' kk d') := by simp [World.cell?, nd]
                                        have r4 : ∀ o, (wr.alloc o).cell? ⟨wo.heap.size + 1, 1, none⟩ = some (.slice q' kk d') := fun o => (World.cell?_of_block (w := wr) (Below.heap_alloc wr o (wo.heap.size + 1) (by omega))).trans r3
                                        have OW : Hid (∀ o, (wr.drew.alloc o).ownsRow (wo.heap.size + 2) 9 1 (.slice q' kk d') kk (((Wgr.txts l6).take kk).map Value.string)) := fun o => World.ownsRow.alloc (w := wr.drew) ow o
                                        have FI := hid (fun (w3 : World) (g cap : Nat) (o : Obj) (own3 : w3.ownsRow (wo.heap.size + 2) 9 1 (.slice (some ⟨g, 0, none⟩) (kk + 1) cap) (kk + 1) (((Wgr.txts l6).take kk).map Value.string ++ [.string sa])) (gr3 : (wr.drew.alloc o).grownBy w3 (Value.slice q' kk d').ownBlock) => (show (w3.cell? ⟨wo.heap.size + 1, 1, none⟩ = some (.slice q' kk d') ∧ w3.frozen? ⟨wo.heap.size + 1, 1, none⟩ = false) ∧ ∃ q d, Inn wo (w3.setCell ⟨wo.heap.size + 1, 1, none⟩ (.slice (some ⟨g, 0, none⟩) (kk + 1) cap)) #[.int .i64 2, .int .i64 n', .string s', .slice (some ⟨gq, 0, none⟩) 6 cl] t0 n2 n3 n4 t5 q (kk + 1) d (((Wgr.txts l6).take (kk + 1)).map Value.string) from by
                                          have h := HI.out.end own3 gr3
                                          rw [hsn.out]
                                          exact ⟨h.1, _, _, h.2⟩))
                                        clear ca hq ow nd bi hEI HBI hI HI HAK hsn hno hG HF HS HR HL1 HO1 HA HL6 HO6 hE
                                        go_wp2_with fail
                                        go_region_law (refine step_append_lies _ rfl (.tmp 186) (.tmp 196) 53 rfl (wo.heap.size + 2) 9 i0 (.string ⟨#[]⟩) 1 16 Try.underlying53 hi0 hz0 hs0 hb0 rfl (by decide) _ _ _ rfl (OW.out _) ⟨wr.heap.size, 0, none⟩ 1 1 [.string sa] rfl rfl (World.news_of_block (heap_alloc_new wr.drew _)) (by intro u hu; simp at hu; subst hu; rfl) (by decide) (by unfold maxLen; omega) (by omega) (by show _ ≤ (World.alloc _ _).heap.size; simp; omega) (wr.heap.size + 1) (by simp) ?_; intro g cap w3 own3 gr3 hg3 hlt3; obtain ⟨⟨f1, f2⟩, f3⟩ := FI.out w3 g cap _ own3 gr3; have F3 := hid f3; clear f3 own3 gr3 hg3 hlt3)
                                        all_goals try go_wp2
                                        all_goals go_roundw
                                        all_goals first | exact ⟨kk + 1, by go_num, ck, F3, hq2⟩ | (simp [intOf] <;> omega)
                                      · have e5 : (ak != 1) = true := by simpa using ca
                                        have R := hid (HF.out (by rw [HS.out, rdS_at HAK.out ca]))
                                        obtain ⟨_, r0, r1, rf, o0, o1⟩ := hEI.out.cells
                                        have bb := hid (hE.out.1.trans (HBI.out.mono hE.out.1.size))
                                        have b1x : w.heap.size + 1 < wr.heap.size := by omega
                                        have b2x : w.heap.size + 1 + 1 < wr.heap.size := by omega
                                        clear hno hG HF HS HR HL1 HO1 HA HL6 HO6 hq hI HI hEI HBI ow nd
                                        go_wp2_with fail
                                        refine bodyPost_ret (v := .tuple #[.agg #[.string ⟨#[]⟩, .slice none 0 0], .int .i64 4]) (by simp [results, Try.results7, go_sem, r0, r1]) rfl ⟨.inr ⟨R.out, rfl⟩, put2_below (j := 0) bb.out (by omega) _ _⟩
                                    · have ek : kk = l6.len := by omega
                                      subst ek
                                      obtain ⟨ea, ec, ee, k3, k4, k5⟩ := own_ss (l := Wgr.txts l6) ow (Wgr.txts_len l6).symm (by rw [List.take_of_length_le (by rw [Wgr.txts_len]; exact Nat.le_refl _)])
                                      injection ee with ee1 ee2 ee3
                                      clear ee2
                                      subst ee1 ee3
                                      have HX := hid (show rdN1 2 l' = some ⟨t0, Wgr.txts l6, n2, n3, n4, t5⟩ by rw [HS.out, Wgr.txts_rd hq.out])
                                      have gI := hid (grown_below bi)
                                      obtain ⟨S, qq, dd, xs, u1, u2, u3, u4, u5, u6⟩ := r_mid hG.out gI.out
                                      have hD : Hid (DpS wr S ⟨t0, Wgr.txts l6, n2, n3, n4, t5⟩ q' d') := hid (by
                                        refine ⟨k3, k4, ?_⟩
                                        rcases k5 with k5 | ⟨g5, v1, v2, v3, v4⟩
                                        · exact .inl k5
                                        · exact .inr ⟨g5, v1, u5 g5 (by omega) v3, v3, v4⟩)
                                      have UC := hid u1
                                      have UZ := hid u2
                                      have KN := hid u3
                                      have KS := hid u4
                                      have u6' := u6
                                      have hl20 : m.length ≤ 10000 := by omega
                                      have h0 := cell_there nd (j := 0) (by simp)
                                      have h1 := cell_there nd (j := 1) (by simp)
                                      have h2 := cell_there nd (j := 2) (by simp)
                                      have h3 := cell_there nd (j := 3) (by simp)
                                      have h4 := cell_there nd (j := 4) (by simp)
                                      have h5 := cell_there nd (j := 5) (by simp)
                                      simp only [List.getElem_toArray, List.getElem_cons_zero, List.getElem_cons_succ] at h0 h1 h2 h3 h4 h5
                                      have d1' : wr.cell? ⟨w.heap.size + 1 + 1 + 1, 1, none⟩ = some (.slice qq m.length dd) := by simp [World.cell?, u1]
                                      have lC : w.heap.size + 1 + 1 + 1 < wr.heap.size := lt_of_heap u1
                                      have lN : wo.heap.size + 1 < wr.heap.size := lt_of_heap nd
                                      have EZ := hid (hE.out.grow gI.out)
                                      have hno2 := hid (show ∀ j y, (m ++ [(⟨t0, Wgr.txts l6, n2, n3, n4, t5⟩ : Nd)])[j]? = some y → ∃ k n s g, l1.at j = some (k, n, s, g) ∧ rdN1 k g = some y from fun j y hy => by
                                        by_cases q : j < m.length
                                        · rw [List.getElem?_append_left q] at hy
                                          exact hno.out j y hy
                                        · have hj : j = m.length := by
                                            have := (List.getElem?_eq_some_iff.1 hy).1
                                            simp at this; omega
                                          subst hj
                                          rw [List.getElem?_append_right (Nat.le_refl _), Nat.sub_self] at hy
                                          simp at hy
                                          subst hy
                                          exact ⟨_, _, _, _, HA.out, HX.out⟩)
                                      clear ow nx nd bi hI HI hEI HBI hq u1 u2 u3 u4 u5 k3 k4 k5 HS HF HX hG hno HR HL1 HO1 HA HL6 HO6 hE
                                      go_wp2_with (first | (at_builtin; (refine wpList_append_lies _ rfl _ _ 29 rfl (w.heap.size + 1 + 1 + 1 + 1) 57 i1 _ 6 80 Try.underlying29 hi1 hz1 hs1 hb1 rfl (by decide) (.slice qq m.length dd) m.length xs rfl (UZ.out.alloc _) ⟨wr.heap.size, 0, none⟩ 1 1 [.string t0, .slice q' l6.len d', .int .i64 n2, .int .i64 n3, .int .i64 n4, .string t5] rfl rfl (World.news_of_block (cs := #[.string t0, .slice q' l6.len d', .int .i64 n2, .int .i64 n3, .int .i64 n4, .string t5]) (heap_alloc_new wr _)) (by simp [Value.oneCell']) (by decide) (by unfold maxLen; omega) (by omega) (by rw [World.size_alloc]; omega) _ rfl ?_; intro g3 t3 Y3 o3 gg3 at3 _; have yC := (gg3.block (w.heap.size + 1 + 1 + 1) (by rw [World.size_alloc]; omega) (fun e => by have := (UZ.out.lt _ e.symm).1; omega)).trans ((Below.heap_alloc _ _ _ (by omega)).trans UC.out); have yC1 := cell_there yC (j := 1) (by simp); have yCf := frozen_there yC; go_frame)))
                                      have KE := hid (r_end (base := w.heap.size + 1 + 1 + 1 + 1) (C := w.heap.size + 1 + 1 + 1) (g := g3) (t := t3) (y := ⟨t0, Wgr.txts l6, n2, n3, n4, t5⟩) (Y := Y3) (by omega) UC.out UZ.out KN.out KS.out hD.out u6' (X' := wr.alloc (.cells #[.string t0, .slice q' l6.len d', .int .i64 n2, .int .i64 n3, .int .i64 n4, .string t5] 57)) (grown1 _ _) (by show World.ownsRow Y3 (w.heap.size + 1 + 1 + 1 + 1) 57 6 _ _ (xs ++ [.string t0, .slice q' (Wgr.txts l6).length d', .int .i64 n2, .int .i64 n3, .int .i64 n4, .string t5]); rw [Wgr.txts_len]; exact o3) gg3 at3)
                                      clear o3 gg3 at3 yC yC1 yCf
                                      go_roundw
                                      case rel =>
                                        obtain ⟨E1, E2, E3, E4, E5, E6⟩ := KE.out
                                        exact ⟨m.length + 1, m ++ [⟨t0, Wgr.txts l6, n2, n3, n4, t5⟩], by go_num, ci, hid (by simp), hid (EZ.out.end (fun j h1 h2 => E2 j (by omega) h2) E3 E4 E5 E6), hid E1, hno2⟩
                                      case measure => simp [intOf]; omega
                            · have z5 : (k5 != 1) = true := by simpa using q5
                              have R := hid (HF.out (HB.out (.inr (.inr (.inr (.inr (.inr q5)))))))
                              clear HA HF hG HR HL1 HO1 HB HC HO6 HL6
                              go_wp2_with fail
                              have e0_ : ((wo.setCell ⟨w.heap.size + 1, 0, none⟩ (.string ⟨#[]⟩)).setCell ⟨w.heap.size + 1, 1, none⟩ (.slice none 0 0)).cell? ⟨w.heap.size + 1, 0, none⟩ = some (.string ⟨#[]⟩) := by simp [go_sem, r0]
                              have e1_ : ((wo.setCell ⟨w.heap.size + 1, 0, none⟩ (.string ⟨#[]⟩)).setCell ⟨w.heap.size + 1, 1, none⟩ (.slice none 0 0)).cell? ⟨w.heap.size + 1, 1, none⟩ = some (.slice none 0 0) := by simp [go_sem, r1]
                              have e2_ := fun o => Wgr.cell_al e0_ (o := o)
                              have e3_ := fun o => Wgr.cell_al e1_ (o := o)
                              refine bodyPost_ret (v := .tuple #[.agg #[.string ⟨#[]⟩, .slice none 0 0], .int .i64 4]) (by simp [results, Try.results7, go_sem, e2_, e3_]) rfl ⟨.inr ⟨R.out, rfl⟩, ?_⟩
                              exact (put2_below (j := 0) hE.out.1 (by omega) _ _).alloc (by simp [World.setCell]; exact hE.out.1.size) _
                          · have z4 : (k4 != 0) = true := by simpa using q4
                            have R := hid (HF.out (HB.out (.inr (.inr (.inr (.inr (.inl q4)))))))
                            clear HA HF hG HR HL1 HO1 HB HC HO6 HL6
                            go_wp2_with fail
                            have e0_ : ((wo.setCell ⟨w.heap.size + 1, 0, none⟩ (.string ⟨#[]⟩)).setCell ⟨w.heap.size + 1, 1, none⟩ (.slice none 0 0)).cell? ⟨w.heap.size + 1, 0, none⟩ = some (.string ⟨#[]⟩) := by simp [go_sem, r0]
                            have e1_ : ((wo.setCell ⟨w.heap.size + 1, 0, none⟩ (.string ⟨#[]⟩)).setCell ⟨w.heap.size + 1, 1, none⟩ (.slice none 0 0)).cell? ⟨w.heap.size + 1, 1, none⟩ = some (.slice none 0 0) := by simp [go_sem, r1]
                            have e2_ := fun o => Wgr.cell_al e0_ (o := o)
                            have e3_ := fun o => Wgr.cell_al e1_ (o := o)
                            refine bodyPost_ret (v := .tuple #[.agg #[.string ⟨#[]⟩, .slice none 0 0], .int .i64 4]) (by simp [results, Try.results7, go_sem, e2_, e3_]) rfl ⟨.inr ⟨R.out, rfl⟩, ?_⟩
                            exact (put2_below (j := 0) hE.out.1 (by omega) _ _).alloc (by simp [World.setCell]; exact hE.out.1.size) _
                        · have z3 : (k3 != 0) = true := by simpa using q3
                          have R := hid (HF.out (HB.out (.inr (.inr (.inr (.inl q3))))))
                          clear HA HF hG HR HL1 HO1 HB HC HO6 HL6
                          go_wp2_with fail
                          have e0_ : ((wo.setCell ⟨w.heap.size + 1, 0, none⟩ (.string ⟨#[]⟩)).setCell ⟨w.heap.size + 1, 1, none⟩ (.slice none 0 0)).cell? ⟨w.heap.size + 1, 0, none⟩ = some (.string ⟨#[]⟩) := by simp [go_sem, r0]
                          have e1_ : ((wo.setCell ⟨w.heap.size + 1, 0, none⟩ (.string ⟨#[]⟩)).setCell ⟨w.heap.size + 1, 1, none⟩ (.slice none 0 0)).cell? ⟨w.heap.size + 1, 1, none⟩ = some (.slice none 0 0) := by simp [go_sem, r1]
                          have e2_ := fun o => Wgr.cell_al e0_ (o := o)
                          have e3_ := fun o => Wgr.cell_al e1_ (o := o)
                          refine bodyPost_ret (v := .tuple #[.agg #[.string ⟨#[]⟩, .slice none 0 0], .int .i64 4]) (by simp [results, Try.results7, go_sem, e2_, e3_]) rfl ⟨.inr ⟨R.out, rfl⟩, ?_⟩
                          exact (put2_below (j := 0) hE.out.1 (by omega) _ _).alloc (by simp [World.setCell]; exact hE.out.1.size) _
                      · have z2 : (k2 != 0) = true := by simpa using q2
                        have R := hid (HF.out (HB.out (.inr (.inr (.inl q2)))))
                        clear HA HF hG HR HL1 HO1 HB HC HO6 HL6
                        go_wp2_with fail
                        have e0_ : ((wo.setCell ⟨w.heap.size + 1, 0, none⟩ (.string ⟨#[]⟩)).setCell ⟨w.heap.size + 1, 1, none⟩ (.slice none 0 0)).cell? ⟨w.heap.size + 1, 0, none⟩ = some (.string ⟨#[]⟩) := by simp [go_sem, r0]
                        have e1_ : ((wo.setCell ⟨w.heap.size + 1, 0, none⟩ (.string ⟨#[]⟩)).setCell ⟨w.heap.size + 1, 1, none⟩ (.slice none 0 0)).cell? ⟨w.heap.size + 1, 1, none⟩ = some (.slice none 0 0) := by simp [go_sem, r1]
                        have e2_ := fun o => Wgr.cell_al e0_ (o := o)
                        have e3_ := fun o => Wgr.cell_al e1_ (o := o)
                        refine bodyPost_ret (v := .tuple #[.agg #[.string ⟨#[]⟩, .slice none 0 0], .int .i64 4]) (by simp [results, Try.results7, go_sem, e2_, e3_]) rfl ⟨.inr ⟨R.out, rfl⟩, ?_⟩
                        exact (put2_below (j := 0) hE.out.1 (by omega) _ _).alloc (by simp [World.setCell]; exact hE.out.1.size) _
                    · have z1 : (k1 != 2) = true := by simpa using q1
                      have R := hid (HF.out (HB.out (.inr (.inl q1))))
                      clear HA HF hG HR HL1 HO1 HB HC HO6 HL6
                      go_wp2_with fail
                      have e0_ : ((wo.setCell ⟨w.heap.size + 1, 0, none⟩ (.string ⟨#[]⟩)).setCell ⟨w.heap.size + 1, 1, none⟩ (.slice none 0 0)).cell? ⟨w.heap.size + 1, 0, none⟩ = some (.string ⟨#[]⟩) := by simp [go_sem, r0]
                      have e1_ : ((wo.setCell ⟨w.heap.size + 1, 0, none⟩ (.string ⟨#[]⟩)).setCell ⟨w.heap.size + 1, 1, none⟩ (.slice none 0 0)).cell? ⟨w.heap.size + 1, 1, none⟩ = some (.slice none 0 0) := by simp [go_sem, r1]
                      have e2_ := fun o => Wgr.cell_al e0_ (o := o)
                      have e3_ := fun o => Wgr.cell_al e1_ (o := o)
                      refine bodyPost_ret (v := .tuple #[.agg #[.string ⟨#[]⟩, .slice none 0 0], .int .i64 4]) (by simp [results, Try.results7, go_sem, e2_, e3_]) rfl ⟨.inr ⟨R.out, rfl⟩, ?_⟩
                      exact (put2_below (j := 0) hE.out.1 (by omega) _ _).alloc (by simp [World.setCell]; exact hE.out.1.size) _
                  · have z0 : (k0 != 1) = true := by simpa using q0
                    have R := hid (HF.out (HB.out (.inl q0)))
                    clear HA HF hG HR HL1 HO1 HB HC HO6 HL6
                    go_wp2_with fail
                    have e0_ : ((wo.setCell ⟨w.heap.size + 1, 0, none⟩ (.string ⟨#[]⟩)).setCell ⟨w.heap.size + 1, 1, none⟩ (.slice none 0 0)).cell? ⟨w.heap.size + 1, 0, none⟩ = some (.string ⟨#[]⟩) := by simp [go_sem, r0]
                    have e1_ : ((wo.setCell ⟨w.heap.size + 1, 0, none⟩ (.string ⟨#[]⟩)).setCell ⟨w.heap.size + 1, 1, none⟩ (.slice none 0 0)).cell? ⟨w.heap.size + 1, 1, none⟩ = some (.slice none 0 0) := by simp [go_sem, r1]
                    have e2_ := fun o => Wgr.cell_al e0_ (o := o)
                    have e3_ := fun o => Wgr.cell_al e1_ (o := o)
                    refine bodyPost_ret (v := .tuple #[.agg #[.string ⟨#[]⟩, .slice none 0 0], .int .i64 4]) (by simp [results, Try.results7, go_sem, e2_, e3_]) rfl ⟨.inr ⟨R.out, rfl⟩, ?_⟩
                    exact (put2_below (j := 0) hE.out.1 (by omega) _ _).alloc (by simp [World.setCell]; exact hE.out.1.size) _
                · have e3 : ((l'.len : Int) != 6) = true := by simp; omega
                  have R := hid (HF.out (nd_len (.inr c2)))
                  clear HO2 HA HL2 HF hG HR HL1 HO1
                  go_wp2_with fail
                  have e0_ : ((wo.setCell ⟨w.heap.size + 1, 0, none⟩ (.string ⟨#[]⟩)).setCell ⟨w.heap.size + 1, 1, none⟩ (.slice none 0 0)).cell? ⟨w.heap.size + 1, 0, none⟩ = some (.string ⟨#[]⟩) := by simp [go_sem, r0]
                  have e1_ : ((wo.setCell ⟨w.heap.size + 1, 0, none⟩ (.string ⟨#[]⟩)).setCell ⟨w.heap.size + 1, 1, none⟩ (.slice none 0 0)).cell? ⟨w.heap.size + 1, 1, none⟩ = some (.slice none 0 0) := by simp [go_sem, r1]
                  have e2_ := fun o => Wgr.cell_al e0_ (o := o)
                  have e3_ := fun o => Wgr.cell_al e1_ (o := o)
                  refine bodyPost_ret (v := .tuple #[.agg #[.string ⟨#[]⟩, .slice none 0 0], .int .i64 4]) (by simp [results, Try.results7, go_sem, e2_, e3_]) rfl ⟨.inr ⟨R.out, rfl⟩, ?_⟩
                  exact (put2_below (j := 0) hE.out.1 (by omega) _ _).alloc (by simp [World.setCell]; exact hE.out.1.size) _
              · have e2 : (a != 2) = true := by simpa using c1
                have R := hid (HF.out (nd_len (.inl c1)))
                clear HO2 HA HL2 HF hG HR HL1 HO1
                go_wp2_with fail
                have e0_ : ((wo.setCell ⟨w.heap.size + 1, 0, none⟩ (.string ⟨#[]⟩)).setCell ⟨w.heap.size + 1, 1, none⟩ (.slice none 0 0)).cell? ⟨w.heap.size + 1, 0, none⟩ = some (.string ⟨#[]⟩) := by simp [go_sem, r0]
                have e1_ : ((wo.setCell ⟨w.heap.size + 1, 0, none⟩ (.string ⟨#[]⟩)).setCell ⟨w.heap.size + 1, 1, none⟩ (.slice none 0 0)).cell? ⟨w.heap.size + 1, 1, none⟩ = some (.slice none 0 0) := by simp [go_sem, r1]
                have e2_ := fun o => Wgr.cell_al e0_ (o := o)
                have e3_ := fun o => Wgr.cell_al e1_ (o := o)
                refine bodyPost_ret (v := .tuple #[.agg #[.string ⟨#[]⟩, .slice none 0 0], .int .i64 4]) (by simp [results, Try.results7, go_sem, e2_, e3_]) rfl ⟨.inr ⟨R.out, rfl⟩, ?_⟩
                exact (put2_below (j := 0) hE.out.1 (by omega) _ _).alloc (by simp [World.setCell]; exact hE.out.1.size) _
            · have ei : m.length = l1.len := by omega
              have R := hid (show rdF 2 l = some (s0, m) by rw [HR.out, Wgr.rdL_all m ei hno.out])
              obtain ⟨qf, df, w0, w1, hd1, hd2, hns⟩ := r_fin hG.out
              have HNS := hid hns
              clear hns hG HR hno HL1 HO1
              go_wp2_with fail
              refine bodyPost_ret (v := .tuple #[.agg #[.string s0, .slice qf m.length df], .int .i64 0]) (by simp [results, Try.results7, go_sem, r0, r1] <;> omega) rfl ⟨.inl ⟨s0, m, qf, df, R.out, rfl, hd1, hd2, HNS.out _ (by simp [World.setCell]) (fun b hb => ?_)⟩, put2_below (j := 0) hE.out.1 (by omega) _ _⟩
              rw [Below.heap_setCell _ _ _ _ (by show b ≠ w.heap.size + 1; omega), Below.heap_setCell _ _ _ _ (by show b ≠ w.heap.size + 1; omega)]
        · have f0 : (k0 != 1) = false := by simp [d0]
          have f1 : (k1 != 2) = true := by simpa using d1
          
          have R := hid (show rdF 2 l = none from HB.out (.inr d1))
          clear SM
          go_enter Try.func7, Try.ntmps7
          go_wp2_with fail
          refine bodyPost_ret (v := .tuple #[.agg #[.string ⟨#[]⟩, .slice none 0 0], .int .i64 4]) (by simp [results, Try.results7, go_sem]) rfl ⟨.inr ⟨R.out, rfl⟩, ?_⟩
          repeat (first | exact Below.refl _ _ | (refine Below.alloc ?_ (by simp <;> omega) _) | (refine Below.setCell (p := ⟨w.heap.size + 1, _, none⟩) ?_ (by show w.heap.size ≤ w.heap.size + 1; omega) _))
      · have f0 : (k0 != 1) = true := by simpa using d0
        
        have R := hid (show rdF 2 l = none from HB.out (.inl d0))
        clear SM
        go_enter Try.func7, Try.ntmps7
        go_wp2_with fail
        refine bodyPost_ret (v := .tuple #[.agg #[.string ⟨#[]⟩, .slice none 0 0], .int .i64 4]) (by simp [results, Try.results7, go_sem]) rfl ⟨.inr ⟨R.out, rfl⟩, ?_⟩
        repeat (first | exact Below.refl _ _ | (refine Below.alloc ?_ (by simp <;> omega) _) | (refine Below.setCell (p := ⟨w.heap.size + 1, _, none⟩) ?_ (by show w.heap.size ≤ w.heap.size + 1; omega) _))
    · have e1 : ((2 : Int) != 2) = false := by decide
      subst c1
      have e2 : ((l.len : Int) != 2) = true := by simp; omega
      
      have R := hid (show rdF 2 l = none from fl_len (.inr c2))
      clear SM
      go_enter Try.func7, Try.ntmps7
      go_wp2_with fail
      refine bodyPost_ret (v := .tuple #[.agg #[.string ⟨#[]⟩, .slice none 0 0], .int .i64 4]) (by simp [results, Try.results7, go_sem]) rfl ⟨.inr ⟨R.out, rfl⟩, ?_⟩
      repeat (first | exact Below.refl _ _ | (refine Below.alloc ?_ (by simp <;> omega) _) | (refine Below.setCell (p := ⟨w.heap.size + 1, _, none⟩) ?_ (by show w.heap.size ≤ w.heap.size + 1; omega) _))
  · have e1 : (k != 2) = true := by simpa using c1
    
    have R := hid (show rdF k l = none from fl_len (.inl c1))
    clear SM
    go_enter Try.func7, Try.ntmps7
    go_wp2_with fail
    refine bodyPost_ret (v := .tuple #[.agg #[.string ⟨#[]⟩, .slice none 0 0], .int .i64 4]) (by simp [results, Try.results7, go_sem]) rfl ⟨.inr ⟨R.out, rfl⟩, ?_⟩
    repeat (first | exact Below.refl _ _ | (refine Below.alloc ?_ (by simp <;> omega) _) | (refine Below.setCell (p := ⟨w.heap.size + 1, _, none⟩) ?_ (by show w.heap.size ≤ w.heap.size + 1; omega) _))
end Go.Proofs.Ytainajjklakaeaa.Wgx
