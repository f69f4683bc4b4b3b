/-
  The walk of the document's Parse: the claims, the tag and the error that 'tkN', 'tkT' and 'tkE' say; nothing that was in memory has turned. Conditions: texts of at most 2^47 bytes.
-/
import Derived.Test.YtkelipedpjmmaaaDoorRows
import Derived.Test.YtkelipedpjmmaaaDoorQd
import Derived.Test.YtkelipedpjmmaaaDoorRefGet
namespace Go.Proofs.YtkelipedpjmmaaaDoor.Wtk
open Go.ChangeShapes Go.WideShapes Go.ChangeAt Go.RowKit Go.Proofs.YtkelipedpjmmaaaDoor.M Go.Proofs.YtkelipedpjmmaaaDoor.Wf Go.Proofs.YtkelipedpjmmaaaDoor.Wr

/-- A number of the list is sound. -/
def gd (f : F) (i : Nat) : Prop := f.kd i = 0 ∧ (i < 2 → 0 ≤ f.nb i ∧ f.nb i ≤ 2147483647)
theorem gd_all {v : V} (hk : v.k = 2) (hl : v.l.len = 4) (h : ∀ i, i < 4 → gd v.l i) : okV v :=
  ⟨hk, hl, ⟨(h 0 (by decide)).1, (h 0 (by decide)).2 (by decide)⟩, ⟨(h 1 (by decide)).1, (h 1 (by decide)).2 (by decide)⟩, (h 2 (by decide)).1, (h 3 (by decide)).1⟩
theorem gd_no {v : V} {i : Nat} (hi : i < 4) (h : ¬ gd v.l i) : ¬ okV v := by
  rintro ⟨_, _, ⟨a0, b0⟩, ⟨a1, b1⟩, a2, a3⟩
  obtain rfl | rfl | rfl | rfl : i = 0 ∨ i = 1 ∨ i = 2 ∨ i = 3 := by omega
  · exact h ⟨a0, fun _ => b0⟩
  · exact h ⟨a1, fun _ => b1⟩
  · exact h ⟨a2, fun c => absurd c (by decide)⟩
  · exact h ⟨a3, fun c => absurd c (by decide)⟩

set_option maxRecDepth 100000 in
set_option maxHeartbeats 1000000 in
theorem parseRef (s : ByteArray) (w : World) (hs : s.size ≤ 140737488355328) :
    Calls Tryd.prog 9 #[.string s] w fun e w' => e = .returned (.tuple #[.agg #[.int .i64 (tkN s 0), .int .i64 (tkN s 1), .int .i64 (tkN s 2), .int .i64 (tkN s 3)], .string (tkT s), .int .i64 (tkE s)]) ∧ Below w.heap.size w w' := by
  by_cases c : s.size < 32
  · have e3 := tk_short c
    obtain ⟨t0, n0⟩ := tk_none (s := s) (by rw [e3]; decide)
    rw [e3, t0, n0, n0, n0, n0]
    clear e3 t0 n0
    go_enter Tryd.func9, Tryd.ntmps9
    go_wp2_with fail
    exact bodyPost_ret (v := .tuple #[.agg #[.int .i64 0, .int .i64 0, .int .i64 0, .int .i64 0], .string ⟨#[]⟩, .int .i64 3]) (by simp [results, Tryd.results9, go_sem]) rfl ⟨rfl, ((Below.refl w.heap.size w).alloc (Nat.le_refl _) _).alloc (by simp) _⟩
  · have CG := hid (fun W => Wr.getRef (hd32 s) W (by rw [hd32_size]; unfold maxLen; omega))
    have HE := hid (fun e => tk_err (s := s) (e := e) c)
    have HF := hid (fun v => tk_form (s := s) (v := v) c)
    have HO := hid (fun v => tk_ok (s := s) (v := v) c)
    have c' : ¬ (s.size : Int) < 32 := by omega
    have hat : (s.size : Int) - 32 = ((s.size - 32 : Nat) : Int) := by omega
    have hat2 : s.size - 32 ≤ s.size := by omega
    generalize hr : allR (hd32 s) = r at *
    have hH := hid (show s.extract 0 (s.size - 32) = hd32 s from rfl)
    have hL := hid (show s.extract (s.size - 32) s.size = tl32 s from rfl)
    generalize s.size - 32 = at_ at *
    rw [← hH.out] at CG
    cases r with
    | error e0 =>
      have e3 := HE.out e0 rfl
      have ne := allR_code hr
      obtain ⟨t0, n0⟩ := tk_none (s := s) (by rw [e3]; exact ne)
      rw [e3, t0, n0, n0, n0, n0]
      have ne' : (e0 != 0) = true := by simpa using ne
      have CG2 : Hid (∀ W, Calls Tryd.prog 18 #[.string (s.extract 0 at_)] W fun e w' => ∃ p cap, e = .returned (.tuple #[.agg #[.int .i64 0, .int .i64 0, .string ⟨#[]⟩, .slice p 0 cap], .int .i64 e0]) ∧ Hid (Rd w' (fun g => W.heap.size ≤ g) (.slice p 0 cap) .nil) ∧ Below W.heap.size W w') := CG
      clear e3 t0 n0 HE HF HO CG hr ne hH hL
      go_enter Tryd.func9, Tryd.ntmps9
      go_wp2_with fail
      refine (CG2.out _).mono ?_
      rintro e w2 ⟨p, cap, rfl, _, b2⟩
      have Z2 := hid (((rz_start 27 w).alloc _).below b2)
      have bl := hid ((b2.block (w.heap.size + 1) (by simp)).trans (heap_alloc2_new w _ _))
      obtain ⟨v0, v1, v2, v3, vf, vl⟩ := Z2.out.cells
      obtain ⟨d0, d1, d2, d3⟩ := four_c bl.out
      have dl := lt_of_heap bl.out
      clear bl b2
      go_wp2_with fail
      exact bodyPost_ret (v := .tuple #[.agg #[.int .i64 0, .int .i64 0, .int .i64 0, .int .i64 0], .string ⟨#[]⟩, .int .i64 e0]) (by simp [results, Tryd.results9, go_sem, v0, v1, v2, v3, vl]) rfl ⟨rfl, (Z2.out.put _ _ _ _).alloc (by rw [put4_size]; exact Z2.out.2.size) _⟩
    | ok v =>
      have OK := hid (all_back hr).2
      have CG2 : Hid (∀ W, Calls Tryd.prog 18 #[.string (s.extract 0 at_)] W fun e w' => ∃ p cap, e = .returned (.tuple #[.agg #[.int .i64 v.k, .int .i64 v.n, .string v.s, .slice p v.l.len cap], .int .i64 0]) ∧ Hid (Rd w' (fun g => W.heap.size ≤ g) (.slice p v.l.len cap) v.l) ∧ Below W.heap.size W w') := CG
      by_cases hk : v.k = 2
      · by_cases hl : v.l.len = 4
        · rw [hk, hl] at CG2
          have HK := hid hk
          have HLn := hid hl
          clear CG hk hl HE hr
          go_enter Tryd.func9, Tryd.ntmps9
          go_wp2_with fail
          refine (CG2.out _).mono ?_
          rintro e w2 ⟨p, cap, rfl, R2, b2⟩
          have Z2 := hid ((((rz_start 27 w).alloc _).below b2).alloc (.cells #[.int .i64 2, .int .i64 v.n, .string v.s, .slice p 4 cap] 58))
          have bl := hid ((Below.heap_alloc w2 (.cells #[.int .i64 2, .int .i64 v.n, .string v.s, .slice p 4 cap] 58) (w.heap.size + 1) (by have := b2.size; simp at this; omega)).trans ((b2.block (w.heap.size + 1) (by simp)).trans (heap_alloc2_new w _ _)))
          have bv := hid (heap_alloc_new w2 (.cells #[.int .i64 2, .int .i64 v.n, .string v.s, .slice p 4 cap] 58))
          have RA := hid (rd_at (rd_below R2.out ((Below.refl w2.heap.size w2).alloc (Nat.le_refl _) (.cells #[.int .i64 2, .int .i64 v.n, .string v.s, .slice p 4 cap] 58))) (by rw [HLn.out]; decide))
          have hc8 := (rd_at R2.out (by rw [HLn.out]; decide))
          clear b2 R2
          obtain ⟨X, hX⟩ : ∃ X, X = w2.alloc (.cells #[.int .i64 2, .int .i64 v.n, .string v.s, .slice p 4 cap] 58) := ⟨_, rfl⟩
          rw [← hX] at Z2 bl bv RA
          obtain ⟨g, rfl, _, hc4, _, hA⟩ := RA.out
          rw [HLn.out] at hc4 hA
          obtain ⟨v0, v1, v2, v3, vf, vl⟩ := Z2.out.cells
          obtain ⟨d0, d1, d2, d3⟩ := four_c bl.out
          obtain ⟨y0, y1, y2, y3⟩ := four_c bv.out
          have HA := hid hA
          have dl := lt_of_heap bl.out
          have yl := lt_of_heap bv.out
          clear RA hA hc8 bl bv
          go_wp2_with fail
          rw [← hX]
          clear hX
          go_loopw [9] (fun iv wr => ∃ i : Nat, i ≤ 4 ∧ iv = .int .i64 (i : Int) ∧ wr = X ∧ Hid (∀ j, j < i → gd v.l j)) (fun i _ => 4 - (intOf i).toNat)
          case atStart => exact ⟨0, by omega, rfl, rfl, fun j hj => absurd hj (by omega)⟩
          case round =>
            obtain ⟨i, hi, rfl, rfl, hg⟩ := hrel
            by_cases hlt : i < 4
            · obtain ⟨_, t, p2, n2, c2, k0, k1, k2, k3⟩ := HA.out i hlt
              rw [Nat.mul_comm] at k0 k1 k2 k3
              have hi4 : (i : Int) < 4 := by omega
              have BD : Hid (¬ gd v.l i → tkE s = 4 ∧ tkT s = ⟨#[]⟩ ∧ ∀ i, tkN s i = 0) := fun h => by
                have e3 := HF.out v rfl (gd_no hlt h)
                obtain ⟨t0, n0⟩ := tk_none (s := s) (by rw [e3]; decide)
                exact ⟨e3, t0, n0⟩
              have GD : Hid (gd v.l i → ∀ j, j < i + 1 → gd v.l j) := fun h j hj => by
                by_cases hc : j < i
                · exact hg.out j hc
                · obtain rfl : j = i := by omega
                  exact h
              have GDf : Hid (∀ k n : Int, k = v.l.kd i → n = v.l.nb i → gd v.l i = (k = 0 ∧ (i < 2 → 0 ≤ n ∧ n ≤ 2147483647))) := fun k n h1 h2 => by rw [h1, h2]; rfl
              clear HF HO HA hg OK CG2
              obtain ⟨kk, ek⟩ : ∃ kk, Hid (kk = v.l.kd i) := ⟨_, rfl⟩
              obtain ⟨nn, en⟩ : ∃ nn, Hid (nn = v.l.nb i) := ⟨_, rfl⟩
              rw [← ek.out] at k0
              rw [← en.out] at k1
              have GE := hid (GDf.out kk nn ek.out en.out)
              clear GDf ek en
              by_cases hk0 : kk = 0
              · by_cases h2 : i < 2
                · have h2' : (i : Int) < 2 := by omega
                  by_cases h3 : nn < 0
                  · have BAD := hid (BD.out (by rw [GE.out]; exact fun h => absurd (h.2 h2).1 (by omega)))
                    clear GE BD GD
                    subst hk0
                    go_wp2_with fail
                    exact bodyPost_ret (v := .tuple #[.agg #[.int .i64 0, .int .i64 0, .int .i64 0, .int .i64 0], .string ⟨#[]⟩, .int .i64 4]) (by simp [results, Tryd.results9, go_sem, v0, v1, v2, v3]) rfl ⟨by rw [BAD.out.1, BAD.out.2.1, BAD.out.2.2, BAD.out.2.2, BAD.out.2.2, BAD.out.2.2], Z2.out.put _ _ _ _⟩
                  · by_cases h4 : 2147483647 < nn
                    · have BAD := hid (BD.out (by rw [GE.out]; exact fun h => absurd (h.2 h2).2 (by omega)))
                      clear GE BD GD
                      subst hk0
                      go_wp2_with fail
                      exact bodyPost_ret (v := .tuple #[.agg #[.int .i64 0, .int .i64 0, .int .i64 0, .int .i64 0], .string ⟨#[]⟩, .int .i64 4]) (by simp [results, Tryd.results9, go_sem, v0, v1, v2, v3]) rfl ⟨by rw [BAD.out.1, BAD.out.2.1, BAD.out.2.2, BAD.out.2.2, BAD.out.2.2, BAD.out.2.2], Z2.out.put _ _ _ _⟩
                    · have GG := hid (GD.out (by rw [GE.out]; exact ⟨hk0, fun _ => ⟨by omega, by omega⟩⟩))
                      clear GE BD GD
                      subst hk0
                      go_wp2_with fail
                      exact ⟨⟨i + 1, by omega, by go_num, trivial, GG⟩, by simp [intOf]; omega⟩
                · have h2' : ¬ (i : Int) < 2 := by omega
                  have GG := hid (GD.out (by rw [GE.out]; exact ⟨hk0, fun h => absurd h h2⟩))
                  clear GE BD GD
                  subst hk0
                  go_wp2_with fail
                  exact ⟨⟨i + 1, by omega, by go_num, trivial, GG⟩, by simp [intOf]; omega⟩
              · have hk1 : (kk != 0) = true := by simpa using hk0
                have BAD := hid (BD.out (by rw [GE.out]; exact fun h => hk0 h.1))
                clear GE BD GD
                go_wp2_with fail
                exact bodyPost_ret (v := .tuple #[.agg #[.int .i64 0, .int .i64 0, .int .i64 0, .int .i64 0], .string ⟨#[]⟩, .int .i64 4]) (by simp [results, Tryd.results9, go_sem, v0, v1, v2, v3]) rfl ⟨by rw [BAD.out.1, BAD.out.2.1, BAD.out.2.2, BAD.out.2.2, BAD.out.2.2, BAD.out.2.2], Z2.out.put _ _ _ _⟩
            · have hi4 : ¬ (i : Int) < 4 := by omega
              have e3 := hid (HO.out v rfl (gd_all HK.out HLn.out (fun j hj => hg.out j (by omega))))
              obtain ⟨_, t0, p0, n0, c0, a0, b0, a1, b1⟩ := HA.out 0 (by decide)
              obtain ⟨_, t1, p1, n1, c1, a2, b2, a3, b3⟩ := HA.out 1 (by decide)
              obtain ⟨_, t2, p2, n2, c2, a4, b4, a5, b5⟩ := HA.out 2 (by decide)
              obtain ⟨_, t3, p3, n3, c3, a6, b6, a7, b7⟩ := HA.out 3 (by decide)
              simp only [Nat.mul_zero, Nat.zero_add, Nat.reduceMul, Nat.reduceAdd] at b0 b2 b4 b6
              clear HF HO HA hg OK CG2 a0 a2 a4 a6 a1 a3 a5 a7 b1 b3 b5 b7
              go_wp2_with fail
              go_region
              go_wp2_with fail
              exact bodyPost_ret (v := .tuple #[.agg #[.int .i64 (v.l.nb 0), .int .i64 (v.l.nb 1), .int .i64 (v.l.nb 2), .int .i64 (v.l.nb 3)], .string (s.extract at_ s.size), .int .i64 0]) (by simp [results, Tryd.results9, go_sem, v0, v1, v2, v3]) rfl ⟨by rw [e3.out.1, e3.out.2.1, e3.out.2.2, e3.out.2.2, e3.out.2.2, e3.out.2.2, hL.out], (Z2.out.put _ _ _ _).drew⟩
        · rw [hk] at CG2
          have BAD : Hid (tkE s = 4 ∧ tkT s = ⟨#[]⟩ ∧ ∀ i, tkN s i = 0) := by
            have e3 := HF.out v rfl (fun h => hl h.2.1)
            obtain ⟨t0, n0⟩ := tk_none (s := s) (by rw [e3]; decide)
            exact ⟨e3, t0, n0⟩
          rw [BAD.out.1, BAD.out.2.1, BAD.out.2.2, BAD.out.2.2, BAD.out.2.2, BAD.out.2.2]
          have hl1 : ((v.l.len : Int) != 4) = true := by simp; omega
          clear CG hr HE HF HO BAD
          go_enter Tryd.func9, Tryd.ntmps9
          go_wp2_with fail
          refine (CG2.out _).mono ?_
          rintro e w2 ⟨p, cap, rfl, R2, b2⟩
          have Z2 := hid (((rz_start 27 w).alloc _).below b2)
          have bl := hid ((b2.block (w.heap.size + 1) (by simp)).trans (heap_alloc2_new w _ _))
          obtain ⟨v0, v1, v2, v3, vf, vl⟩ := Z2.out.cells
          obtain ⟨d0, d1, d2, d3⟩ := four_c bl.out
          have dl := lt_of_heap bl.out
          have hmx : v.l.len ≤ 9223372036854775807 := by
            obtain ⟨_, _, _, _, h1, h2, _⟩ := rd_form R2.out
            unfold maxLen at h2
            omega
          clear bl b2 R2
          go_wp2_with fail
          exact bodyPost_ret (v := .tuple #[.agg #[.int .i64 0, .int .i64 0, .int .i64 0, .int .i64 0], .string ⟨#[]⟩, .int .i64 4]) (by simp [results, Tryd.results9, go_sem, v0, v1, v2, v3, vl]) rfl ⟨rfl, (Z2.out.put _ _ _ _).alloc (by rw [put4_size]; exact Z2.out.2.size) _⟩
      · have BAD : Hid (tkE s = 4 ∧ tkT s = ⟨#[]⟩ ∧ ∀ i, tkN s i = 0) := by
          have e3 := HF.out v rfl (fun h => hk h.1)
          obtain ⟨t0, n0⟩ := tk_none (s := s) (by rw [e3]; decide)
          exact ⟨e3, t0, n0⟩
        rw [BAD.out.1, BAD.out.2.1, BAD.out.2.2, BAD.out.2.2, BAD.out.2.2, BAD.out.2.2]
        have hk1 : (v.k != 2) = true := by simpa using hk
        clear CG hr HE HF HO BAD
        go_enter Tryd.func9, Tryd.ntmps9
        go_wp2_with fail
        refine (CG2.out _).mono ?_
        rintro e w2 ⟨p, cap, rfl, R2, b2⟩
        have Z2 := hid (((rz_start 27 w).alloc _).below b2)
        have bl := hid ((b2.block (w.heap.size + 1) (by simp)).trans (heap_alloc2_new w _ _))
        obtain ⟨v0, v1, v2, v3, vf, vl⟩ := Z2.out.cells
        obtain ⟨d0, d1, d2, d3⟩ := four_c bl.out
        have dl := lt_of_heap bl.out
        have hmx : v.l.len ≤ 9223372036854775807 := by
          obtain ⟨_, _, _, _, h1, h2, _⟩ := rd_form R2.out
          unfold maxLen at h2
          omega
        clear bl b2 R2
        go_wp2_with fail
        exact bodyPost_ret (v := .tuple #[.agg #[.int .i64 0, .int .i64 0, .int .i64 0, .int .i64 0], .string ⟨#[]⟩, .int .i64 4]) (by simp [results, Tryd.results9, go_sem, v0, v1, v2, v3, vl]) rfl ⟨rfl, (Z2.out.put _ _ _ _).alloc (by rw [put4_size]; exact Z2.out.2.size) _⟩

end Go.Proofs.YtkelipedpjmmaaaDoor.Wtk
