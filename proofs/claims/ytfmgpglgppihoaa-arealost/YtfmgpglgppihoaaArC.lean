/-
  The walks of area.Make, area.Parse, of the document's Parse, and of the laws' wakes: each returns what 'mE', 'mB', 'pOk', 'cG', 'cI', 'cD' say, and nothing that was in memory has turned. Conditions: none but that each number fits its kind and that the text's length is an int.
-/
import Derived.Test.YtfmgpglgppihoaaArB
import Derived.Test.YtfmgpglgppihoaaGet
import Derived.Test.YtfmgpglgppihoaaClone
namespace Go.Proofs.Ytfmgpglgppihoaa.War
open Go.ChangeShapes Go.WideShapes Go.ChangeAt Go.RowKit Go.Proofs.Ytfmgpglgppihoaa.M

set_option maxRecDepth 100000 in
theorem make (g i : Int) (d : ByteArray) (w : World) (hs : d.size ≤ maxLen) :
    Calls Try.prog 9 #[cv g i d] w fun e w' => e = .returned (.tuple #[.string (mB g i d), .int .i64 (mE g i d)]) ∧ Below w.heap.size w w' := by
  unfold maxLen at hs
  have C : Hid _ := fun w => within g i w
  have b0 : ∀ T, Below w.heap.size w (w.alloc (.cells #[.int .i64 g, .int .i64 i, .string d] T)) := fun T => (Below.refl _ _).alloc (Nat.le_refl _) _
  by_cases c0 : Wt g i
  · rw [decide_eq_true c0] at C
    by_cases c5 : 55 < d.size
    · obtain ⟨e1, e2⟩ := m_long (d := d) c0 c5
      rw [e1, e2]
      clear e1 e2
      unfold cv
      go_enter Try.func9, Try.ntmps9
      go_wp2_with fail
      refine (C.out _).mono ?_
      rintro e w1 ⟨rfl, rfl⟩
      go_wp2
      go_ret2
      exact ⟨rfl, b0 _⟩
    · obtain ⟨e1, e2⟩ := m_ok (d := d) c0 c5
      rw [e1, e2]
      clear e1 e2
      have D : Hid _ := fun w => sectorOf g i d w c0 (by omega)
      generalize hS : sec g i d = S at D ⊢
      unfold cv at D ⊢
      clear hS
      go_enter Try.func9, Try.ntmps9
      go_wp2_with fail
      refine (C.out _).mono ?_
      rintro e w1 ⟨rfl, rfl⟩
      go_wp2_with fail
      refine (D.out _).mono ?_
      rintro e w1 ⟨rfl, b1⟩
      go_wp2
      go_ret2
      exact ⟨rfl, (b0 _).trans (b1.mono (by simp))⟩
  · rw [decide_eq_false c0] at C
    obtain ⟨e1, e2⟩ := m_arg (d := d) c0
    rw [e1, e2]
    clear e1 e2
    unfold cv
    go_enter Try.func9, Try.ntmps9
    go_wp2_with fail
    refine (C.out _).mono ?_
    rintro e w1 ⟨rfl, rfl⟩
    go_wp2
    go_ret2
    exact ⟨rfl, b0 _⟩

theorem wake_sec : mB 1 2 ⟨#[97, 98]⟩ = sec 1 2 ⟨#[97, 98]⟩ ∧ mE 1 2 ⟨#[97, 98]⟩ = 0 ∧ (sec 1 2 ⟨#[97, 98]⟩).size = 64 ∧ (sec 1 2 ⟨#[97, 98]⟩).extract 0 11 = ⟨#[0, 0, 0, 0, 0, 1, 0, 2, 2, 97, 98]⟩ := by decide +kernel

set_option maxRecDepth 100000 in
theorem wakes (w : World) :
    Calls Try.prog 11 #[] w fun e w' => e = .returned (.bool true) ∧ Below w.heap.size w w' := by
  have C : Hid _ := fun w => make 1 2 ⟨#[97, 98]⟩ w (by decide)
  obtain ⟨e1, e2, e3, e4⟩ := wake_sec
  rw [e1, e2] at C
  clear e1 e2
  generalize sec 1 2 ⟨#[97, 98]⟩ = S at C e3 e4
  unfold cv at C
  go_enter Try.func11, Try.ntmps11
  go_wp2_with fail
  refine (C.out _).mono ?_
  rintro e w1 ⟨rfl, b1⟩
  go_wp2
  go_ret
  exact ⟨rfl, b1⟩

set_option maxRecDepth 100000 in
theorem makes (g i : Int) (d : ByteArray) (w : World) (hs : d.size ≤ 140737488355328) :
    Calls Try.prog 3 #[cv g i d] w fun e w' => e = .returned (.bool true) ∧ Below w.heap.size w w' := by
  have C : Hid _ := fun w => make g i d w (by unfold maxLen; omega)
  have D : Hid _ := fun w => makeRef g i d w (by unfold maxLen; omega)
  generalize mB g i d = b at C D
  generalize mE g i d = f at C D
  unfold cv at C D ⊢
  go_enter Try.func3, Try.ntmps3
  go_wp2_with fail
  refine (C.out _).mono ?_
  rintro e w1 ⟨rfl, b1⟩
  obtain ⟨k0, k1, k2⟩ := cell3 _ _ _ _ _ _ b1
  go_wp2_with fail
  refine (D.out _).mono ?_
  rintro e w2 ⟨rfl, b2⟩
  have b0 : Below w.heap.size w w1 := ((Below.refl _ _).alloc (Nat.le_refl _) _).trans (b1.mono (by simp))
  clear k0 k1 k2 b1
  go_wp2_with fail
  refine (wakes _).mono ?_
  rintro e w3 ⟨rfl, b3⟩
  go_wp2
  go_ret
  exact ⟨rfl, b0.trans ((b2.mono b0.size).trans (b3.mono (Nat.le_trans b0.size b2.size)))⟩

end Go.Proofs.Ytfmgpglgppihoaa.War
