/-
  The walk of area.Parse: it returns what 'pOk', 'cG', 'cI', 'cD' say, and nothing that was in memory has turned. Condition: the text's length is an int.
-/
import Derived.Test.YtcnonioiggniiaaArD
namespace Go.Proofs.Ytcnonioiggniiaa.War
open Go.ChangeShapes Go.WideShapes Go.ChangeAt Go.RowKit Go.Proofs.Ytcnonioiggniiaa.M

set_option maxRecDepth 100000 in
set_option maxHeartbeats 1000000 in
theorem parse (s : ByteArray) (w : World) (hs : s.size ≤ maxLen) :
    Calls Try.prog 66 #[.string s] w fun e w' => e = .returned (.tuple #[cv (cG s) (cI s) (cD s), .bool (pOk s)]) ∧ Below w.heap.size w w' := by
  unfold maxLen at hs
  have B0 : Below w.heap.size w (w.alloc (.cells #[.int .i64 0, .int .i64 0, .string ⟨#[]⟩] 122)) := (Below.refl _ _).alloc (Nat.le_refl _) _
  by_cases c0 : s.size = 64
  · obtain ⟨⟨a1, a2, a3⟩, ⟨a4, a5, a6⟩, a7, a8, a9⟩ := heads c0
    have C1 : Hid _ := fun w => Wg.get s 0 6 w (by unfold maxLen; omega) (by omega) (by omega)
    have C2 : Hid _ := fun w => Wg.get s 6 2 w (by unfold maxLen; omega) (by omega) (by omega)
    have C3 : Hid _ := fun w => Wg.get s 8 1 w (by unfold maxLen; omega) (by omega) (by omega)
    rw [a1, a2, a3] at C1
    rw [a4, a5, a6] at C2
    rw [a7, a8, a9] at C3
    clear a1 a2 a3 a4 a5 a6 a7 a8 a9
    have hG := pG_range s
    have hI := pI_range s
    by_cases c1 : pN s ≤ 55
    · have hD := pD_size c0 c1
      have M : Hid _ := fun w => make (pG s) (pI s) (pD s) w (by unfold maxLen; omega)
      have N' : Hid _ := fun w => Wc.clone (pD s) w (by omega)
      have y1 : Hid (mE (pG s) (pI s) (pD s) = 0 → mB (pG s) (pI s) (pD s) = sec (pG s) (pI s) (pD s)) := fun h => if_pos h
      have y2 : Hid (¬ mE (pG s) (pI s) (pD s) = 0 → pOk s = false) := fun h => p_err h
      have y3 : Hid (¬ sec (pG s) (pI s) (pD s) = s → pOk s = false) := fun h => p_other h
      have y4 : Hid (mE (pG s) (pI s) (pD s) = 0 → sec (pG s) (pI s) (pD s) = s → pOk s = true) := fun h h2 => p_mk c0 c1 h h2
      have y5 : Hid _ := @p_no s
      have y6 : Hid _ := @p_yes s
      have n1 : (pN s : Int) ≤ 55 := by omega
      have n2 : ¬ 55 < (pN s : Int) := by omega
      have hsl := cut s (pD s) 9 (9 + (pN s : Int)) 9 (9 + pN s) rfl (by omega) (by omega) (by omega) rfl
      generalize sec (pG s) (pI s) (pD s) = S at y1 y3 y4
      generalize mE (pG s) (pI s) (pD s) = E at M y1 y2 y4
      generalize mB (pG s) (pI s) (pD s) = T at M y1
      generalize pG s = G at *
      generalize pI s = I at *
      generalize pD s = D at *
      generalize pN s = N at *
      unfold cv at M
      go_enter Try.func66, Try.ntmps66
      go_wp2_with fail
      refine (C1.out _).mono ?_
      rintro e w1 ⟨rfl, rfl⟩
      go_wp2_with fail
      refine (C2.out _).mono ?_
      rintro e w2 ⟨rfl, rfl⟩
      go_wp2_with fail
      refine (C3.out _).mono ?_
      rintro e w2 ⟨rfl, rfl⟩
      go_wp2_with fail
      refine (N'.out _).mono ?_
      rintro e w4 ⟨rfl, b4⟩
      have z4 := b4.size
      rw [World.size_alloc] at z4
      go_wp2_with fail
      refine (M.out _).mono ?_
      rintro e w3 ⟨rfl, b3⟩
      have R0 : w3.heap[w.heap.size]? = some (.cells #[.int .i64 0, .int .i64 0, .string ⟨#[]⟩] 122 (0, 0)) := (b3.block _ (by simp <;> omega)).trans ((heap_alloc_old w4 _ (by omega)).trans ((b4.block _ (by simp)).trans (heap_alloc_new w _)))
      have R1 : w3.heap[w4.heap.size]? = some (.cells #[.int .i64 G, .int .i64 I, .string D] 122 (0, 0)) := (b3.block _ (by simp)).trans (heap_alloc_new w4 _)
      have B3 : Below w.heap.size w w3 := (B0.trans (b4.mono (by simp))).trans ((((Below.refl _ _).alloc (Nat.le_refl _) _).trans (b3.mono (by simp))).mono (by omega))
      obtain ⟨r0, r1, r2, rf⟩ := at3 R0
      obtain ⟨k0, k1, k2, kf⟩ := at3 R1
      have HB : Hid _ := B3
      have HR : Hid _ := R0
      clear b3 b4 B3 B0 R0 R1 hsl C1 C2 C3 M N'
      by_cases cE : E = 0
      · subst cE
        obtain rfl := y1.out rfl
        by_cases cS : T = s
        · have hp := y4.out rfl cS
          have HP : Hid _ := And.intro hp (y6.out hp)
          clear hp y1 y2 y3 y4 y5 y6
          subst cS
          obtain ⟨f0, f1, f2⟩ := set3 HR.out (.int .i64 G) (.int .i64 I) (.string D)
          go_wp2
          exact bodyPost_ret (v := .tuple #[cv G I D, .bool true]) (by simp [results, Try.results66, go_sem, cv, f0, f1, f2]) rfl ⟨by rw [HP.out.1, HP.out.2.1, HP.out.2.2.1, HP.out.2.2.2], below3 HB.out (Nat.le_refl _) _ _ _⟩
        · have hp := y3.out cS
          have HP : Hid _ := And.intro hp (y5.out hp)
          have hne := list_ne cS
          clear hp y1 y2 y3 y4 y5 y6 cS
          obtain ⟨f0, f1, f2⟩ := set3 HR.out (.int .i64 0) (.int .i64 0) (.string ⟨#[]⟩)
          go_wp2
          exact bodyPost_ret (v := .tuple #[cv 0 0 ⟨#[]⟩, .bool false]) (by simp [results, Try.results66, go_sem, cv, f0, f1, f2]) rfl ⟨by rw [HP.out.1, HP.out.2.1, HP.out.2.2.1, HP.out.2.2.2], below3 HB.out (Nat.le_refl _) _ _ _⟩
      · have hp := y2.out cE
        have HP : Hid _ := And.intro hp (y5.out hp)
        have hne : (E == 0) = false := by simpa using cE
        clear hp y1 y2 y3 y4 y5 y6
        obtain ⟨f0, f1, f2⟩ := set3 HR.out (.int .i64 0) (.int .i64 0) (.string ⟨#[]⟩)
        go_wp2
        exact bodyPost_ret (v := .tuple #[cv 0 0 ⟨#[]⟩, .bool false]) (by simp [results, Try.results66, go_sem, cv, f0, f1, f2]) rfl ⟨by rw [HP.out.1, HP.out.2.1, HP.out.2.2.1, HP.out.2.2.2], below3 HB.out (Nat.le_refl _) _ _ _⟩
    · have hp := p_big c1
      obtain ⟨e1, e2, e3⟩ := p_no hp
      rw [e1, e2, e3, hp]
      clear e1 e2 e3 hp
      have c2 : 55 < (pN s : Int) := by omega
      have c3 : (pN s : Int) ≤ 255 := by rw [pN_int]; exact (bt_range s 8).2
      generalize pN s = N at *
      generalize pG s = G at *
      generalize pI s = I at *
      go_enter Try.func66, Try.ntmps66
      go_wp2_with fail
      refine (C1.out _).mono ?_
      rintro e w1 ⟨rfl, rfl⟩
      go_wp2_with fail
      refine (C2.out _).mono ?_
      rintro e w2 ⟨rfl, rfl⟩
      go_wp2_with fail
      refine (C3.out _).mono ?_
      rintro e w2 ⟨rfl, rfl⟩
      go_wp2
      exact bodyPost_ret (v := .tuple #[cv 0 0 ⟨#[]⟩, .bool false]) (by simp [results, Try.results66, go_sem, cv]) rfl ⟨rfl, B0⟩
  · have hp := p_short c0
    obtain ⟨e1, e2, e3⟩ := p_no hp
    rw [e1, e2, e3, hp]
    clear e1 e2 e3 hp
    have hne : ((s.size : Int) == 64) = false := by simp; omega
    go_enter Try.func66, Try.ntmps66
    go_wp2
    exact bodyPost_ret (v := .tuple #[cv 0 0 ⟨#[]⟩, .bool false]) (by simp [results, Try.results66, go_sem, cv]) rfl ⟨rfl, B0⟩

end Go.Proofs.Ytcnonioiggniiaa.War
