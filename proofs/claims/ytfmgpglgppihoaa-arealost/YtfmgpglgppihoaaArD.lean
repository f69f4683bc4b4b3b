/-
  The walks of area.Parse and of the document's Parse: each returns what 'pOk', 'cG', 'cI', 'cD' say, and nothing that was in memory has turned. Condition: the text's length is an int.
-/
import Derived.Test.YtfmgpglgppihoaaArC
import Derived.Laws.ResultCell
namespace Go.Proofs.Ytfmgpglgppihoaa.War
open Go.ChangeShapes Go.WideShapes Go.ChangeAt Go.RowKit Go.Proofs.Ytfmgpglgppihoaa.M

theorem heads {s : ByteArray} (h : s.size = 64) : (gE s 0 6 = 0 ∧ gN s 0 6 = pG s ∧ gX s 0 6 = 6) ∧ (gE s 6 2 = 0 ∧ gN s 6 2 = pI s ∧ gX s 6 2 = 8) ∧ (gE s 8 1 = 0 ∧ gN s 8 1 = (pN s : Int) ∧ gX s 8 1 = 9) := by
  refine ⟨?_, ?_, ?_⟩
  · exact get_ok (s := s) (a := 0) (w := 6) (by omega) (by omega) (by omega)
  · exact get_ok (s := s) (a := 6) (w := 2) (by omega) (by omega) (by omega)
  · obtain ⟨h1, h2, h3⟩ := get_ok (s := s) (a := 8) (w := 1) (by omega) (by omega) (by omega)
    exact ⟨h1, h2.trans (pN_num s), h3⟩

theorem list_ne {a b : ByteArray} (h : ¬ a = b) : (a.toList == b.toList) = false := by
  have : ¬ a.toList = b.toList := fun e => h (by
    rw [ByteArray.toList_eq, ByteArray.toList_eq] at e
    exact ByteArray.ext (Array.toList_inj.1 e))
  simpa using this

/-- A piece of a text. -/
theorem cut (s D : ByteArray) (i j : Int) (a b : Nat) (hi : i = (a : Int)) (hj : j = (b : Int)) (h1 : a ≤ b) (h2 : b ≤ s.size) (hD : s.extract a b = D) (u : World) :
    (Instr.slice 9 (.string s) (some (.int .i64 i)) (some (.int .i64 j)) none).run Try.prog u = .ok (.string D) u := by
  subst hi hj hD
  have e1 : (0 : Int) ≤ (b : Int) ∧ (b : Int) ≤ (s.size : Int) := ⟨by omega, by omega⟩
  have e2 : (0 : Int) ≤ (a : Int) ∧ (a : Int) ≤ (b : Int) := ⟨by omega, by omega⟩
  simp [Instr.slice, Instr.sliceBounds, Instr.sliceBound, asIntOf, run_underlying Try.underlying9, h1, h2]

/-- Where a cell stands in a world that grew. -/
theorem at3 {W : World} {b : Nat} {T : TypeId} {x y z : Value} (h : W.heap[b]? = some (.cells #[x, y, z] T (0, 0))) :
    W.cell? ⟨b, 0, none⟩ = some x ∧ W.cell? ⟨b, 1, none⟩ = some y ∧ W.cell? ⟨b, 2, none⟩ = some z ∧ ∀ j, W.frozen? ⟨b, j, none⟩ = false := by
  refine ⟨?_, ?_, ?_, fun j => ?_⟩ <;> simp [World.cell?, World.frozen?, h]

/-- A cell laid over a cell. -/
theorem set3 {W : World} {b : Nat} {T : TypeId} {x y z : Value} (h : W.heap[b]? = some (.cells #[x, y, z] T (0, 0))) (x' y' z' : Value) :
    (W.setCell ⟨b, 0, none⟩ x').cell? ⟨b, 0, none⟩ = some x' ∧ ((W.setCell ⟨b, 0, none⟩ x').setCell ⟨b, 1, none⟩ y').cell? ⟨b, 1, none⟩ = some y' ∧
      (((W.setCell ⟨b, 0, none⟩ x').setCell ⟨b, 1, none⟩ y').setCell ⟨b, 2, none⟩ z').cell? ⟨b, 2, none⟩ = some z' := by
  have h0 := heap_setCell_same W b 0 _ _ x' h
  have h1 := heap_setCell_same _ b 1 _ _ y' h0
  have h2 := heap_setCell_same _ b 2 _ _ z' h1
  refine ⟨?_, ?_, ?_⟩
  · simp [World.cell?, h0]
  · simp [World.cell?, h1]
  · simp [World.cell?, h2]
theorem below3 {w W : World} {b : Nat} (h : Below w.heap.size w W) (hb : w.heap.size ≤ b) (x y z : Value) : Below w.heap.size w (((W.setCell ⟨b, 0, none⟩ x).setCell ⟨b, 1, none⟩ y).setCell ⟨b, 2, none⟩ z) :=
  ((h.setCell hb _).setCell hb _).setCell hb _

set_option maxRecDepth 100000 in
set_option maxHeartbeats 1000000 in
theorem parseRef (s : ByteArray) (w : World) (hs : s.size ≤ maxLen) :
    Calls Try.prog 13 #[.string s] w fun e w' => e = .returned (.tuple #[cv (cG s) (cI s) (cD s), .bool (pOk s)]) ∧ Below w.heap.size w w' := by
  unfold maxLen at hs
  have B0 : Below w.heap.size w (w.alloc (.cells #[.int .i64 0, .int .i64 0, .string ⟨#[]⟩] 30)) := (Below.refl _ _).alloc (Nat.le_refl _) _
  by_cases c0 : s.size = 64
  · have hg : ∀ h : 8 < s.size, ((s[8]'h).toNat : Int) = (pN s : Int) := fun h => by rw [get_bt s 8 h, pN_int]
    by_cases c1 : pN s ≤ 55
    · obtain ⟨⟨a1, a2, a3⟩, ⟨a4, a5, a6⟩, _⟩ := heads c0
      have C1 : Hid _ := fun w => Wg.getRef s 0 6 w (by unfold maxLen; omega) (by omega) (by omega)
      have C2 : Hid _ := fun w => Wg.getRef s 6 2 w (by unfold maxLen; omega) (by omega) (by omega)
      rw [a1, a2, a3] at C1
      rw [a4, a5, a6] at C2
      clear a1 a2 a3 a4 a5 a6
      have hG := pG_range s
      have hI := pI_range s
      have hD := pD_size c0 c1
      have M : Hid _ := fun w => makeRef (pG s) (pI s) (pD s) w (by unfold maxLen; omega)
      have y1 : Hid (mE (pG s) (pI s) (pD s) = 0 → mB (pG s) (pI s) (pD s) = sec (pG s) (pI s) (pD s)) := fun h => if_pos h
      have y2 : Hid (¬ mE (pG s) (pI s) (pD s) = 0 → pOk s = false) := fun h => p_err h
      have y3 : Hid (¬ sec (pG s) (pI s) (pD s) = s → pOk s = false) := fun h => p_other h
      have y4 : Hid (mE (pG s) (pI s) (pD s) = 0 → sec (pG s) (pI s) (pD s) = s → pOk s = true) := fun h h2 => p_mk c0 c1 h h2
      have y5 : Hid _ := @p_no s
      have y6 : Hid _ := @p_yes s
      have n1 : (pN s : Int) ≤ 55 := by omega
      have n2 : ¬ 55 < (pN s : Int) := by omega
      have hsl := cut s (pD s) 9 (9 + (pN s : Int)) 9 (9 + pN s) rfl (by omega) (by omega) (by omega) rfl
      generalize sec (pG s) (pI s) (pD s) = S at y1 y3 y4
      generalize mE (pG s) (pI s) (pD s) = E at M y1 y2 y4
      generalize mB (pG s) (pI s) (pD s) = T at M y1
      generalize pG s = G at *
      generalize pI s = I at *
      generalize pD s = D at *
      generalize pN s = N at *
      unfold cv at M
      go_enter Try.func13, Try.ntmps13
      go_wp2_with fail
      refine (C1.out _).mono ?_
      rintro e w1 ⟨rfl, rfl⟩
      go_wp2_with fail
      refine (C2.out _).mono ?_
      rintro e w2 ⟨rfl, rfl⟩
      go_wp2_with fail
      refine (M.out _).mono ?_
      rintro e w3 ⟨rfl, b3⟩
      have R0 : w3.heap[w.heap.size]? = some (.cells #[.int .i64 0, .int .i64 0, .string ⟨#[]⟩] 30 (0, 0)) := (b3.block _ (by simp <;> omega)).trans (heap_alloc2_old w _ _)
      have R1 : w3.heap[w.heap.size + 1]? = some (.cells #[.int .i64 G, .int .i64 I, .string D] 30 (0, 0)) := (b3.block _ (by simp)).trans (heap_alloc2_new w _ _)
      have B3 : Below w.heap.size w w3 := (B0.alloc (by simp) _).trans (b3.mono (by simp <;> omega))
      obtain ⟨r0, r1, r2, rf⟩ := at3 R0
      obtain ⟨k0, k1, k2, kf⟩ := at3 R1
      have HB : Hid _ := B3
      have HR : Hid _ := R0
      clear b3 B3 B0 R0 R1 hsl C1 C2 M
      by_cases cE : E = 0
      · subst cE
        obtain rfl := y1.out rfl
        by_cases cS : T = s
        · have hp := y4.out rfl cS
          have HP : Hid _ := And.intro hp (y6.out hp)
          clear hp y1 y2 y3 y4 y5 y6
          subst cS
          obtain ⟨f0, f1, f2⟩ := set3 HR.out (.int .i64 G) (.int .i64 I) (.string D)
          go_wp2
          exact bodyPost_ret (v := .tuple #[cv G I D, .bool true]) (by simp [results, Try.results13, go_sem, cv, f0, f1, f2]) rfl ⟨by rw [HP.out.1, HP.out.2.1, HP.out.2.2.1, HP.out.2.2.2], below3 HB.out (Nat.le_refl _) _ _ _⟩
        · have hp := y3.out cS
          have HP : Hid _ := And.intro hp (y5.out hp)
          have hne := list_ne cS
          clear hp y1 y2 y3 y4 y5 y6 cS
          obtain ⟨f0, f1, f2⟩ := set3 HR.out (.int .i64 0) (.int .i64 0) (.string ⟨#[]⟩)
          go_wp2
          exact bodyPost_ret (v := .tuple #[cv 0 0 ⟨#[]⟩, .bool false]) (by simp [results, Try.results13, go_sem, cv, f0, f1, f2]) rfl ⟨by rw [HP.out.1, HP.out.2.1, HP.out.2.2.1, HP.out.2.2.2], below3 HB.out (Nat.le_refl _) _ _ _⟩
      · have hp := y2.out cE
        have HP : Hid _ := And.intro hp (y5.out hp)
        have hne : (E == 0) = false := by simpa using cE
        clear hp y1 y2 y3 y4 y5 y6
        obtain ⟨f0, f1, f2⟩ := set3 HR.out (.int .i64 0) (.int .i64 0) (.string ⟨#[]⟩)
        go_wp2
        exact bodyPost_ret (v := .tuple #[cv 0 0 ⟨#[]⟩, .bool false]) (by simp [results, Try.results13, go_sem, cv, f0, f1, f2]) rfl ⟨by rw [HP.out.1, HP.out.2.1, HP.out.2.2.1, HP.out.2.2.2], below3 HB.out (Nat.le_refl _) _ _ _⟩
    · have hp := p_big c1
      obtain ⟨e1, e2, e3⟩ := p_no hp
      rw [e1, e2, e3, hp]
      clear e1 e2 e3 hp
      have c2 : 55 < (pN s : Int) := by omega
      have c3 : (pN s : Int) ≤ 255 := by rw [pN_int]; exact (bt_range s 8).2
      generalize pN s = N at *
      go_enter Try.func13, Try.ntmps13
      go_wp2
      exact bodyPost_ret (v := .tuple #[cv 0 0 ⟨#[]⟩, .bool false]) (by simp [results, Try.results13, go_sem, cv]) rfl ⟨rfl, B0⟩
  · have hp := p_short c0
    obtain ⟨e1, e2, e3⟩ := p_no hp
    rw [e1, e2, e3, hp]
    clear e1 e2 e3 hp
    have hne : ((s.size : Int) == 64) = false := by simp; omega
    go_enter Try.func13, Try.ntmps13
    go_wp2
    exact bodyPost_ret (v := .tuple #[cv 0 0 ⟨#[]⟩, .bool false]) (by simp [results, Try.results13, go_sem, cv]) rfl ⟨rfl, B0⟩

end Go.Proofs.Ytfmgpglgppihoaa.War
