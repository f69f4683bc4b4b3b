/-
  The walks of area.Make, area.Parse, of the document's Parse, and of the laws' wakes: each returns what 'mE', 'mB', 'pOk', 'cG', 'cI', 'cD' say, and nothing that was in memory has turned. Conditions: none but that each number fits its kind and that the text's length is an int.
-/
import Derived.Test.YtcnonioiggniiaaArB
import Derived.Test.YtcnonioiggniiaaGet
import Derived.Test.YtcnonioiggniiaaClone
namespace Go.Proofs.Ytcnonioiggniiaa.War
open Go.ChangeShapes Go.WideShapes Go.ChangeAt Go.RowKit Go.Proofs.Ytcnonioiggniiaa.M

set_option maxRecDepth 100000 in
theorem make (g i : Int) (d : ByteArray) (w : World) (hs : d.size ≤ maxLen) :
    Calls Try.prog 86 #[cv g i d] w fun e w' => e = .returned (.tuple #[.string (mB g i d), .int .i64 (mE g i d)]) ∧ Below w.heap.size w w' := by
  unfold maxLen at hs
  have C : Hid _ := fun w => within g i w
  have b0 : ∀ T, Below w.heap.size w (w.alloc (.cells #[.int .i64 g, .int .i64 i, .string d] T)) := fun T => (Below.refl _ _).alloc (Nat.le_refl _) _
  by_cases c0 : Wt g i
  · rw [decide_eq_true c0] at C
    by_cases c5 : 55 < d.size
    · obtain ⟨e1, e2⟩ := m_long (d := d) c0 c5
      rw [e1, e2]
      clear e1 e2
      unfold cv
      go_enter Try.func86, Try.ntmps86
      go_wp2_with fail
      refine (C.out _).mono ?_
      rintro e w1 ⟨rfl, rfl⟩
      go_wp2
      go_ret2
      exact ⟨rfl, b0 _⟩
    · obtain ⟨e1, e2⟩ := m_ok (d := d) c0 c5
      rw [e1, e2]
      clear e1 e2
      have D : Hid _ := fun w => sectorOf g i d w c0 (by omega)
      generalize hS : sec g i d = S at D ⊢
      unfold cv at D ⊢
      clear hS
      go_enter Try.func86, Try.ntmps86
      go_wp2_with fail
      refine (C.out _).mono ?_
      rintro e w1 ⟨rfl, rfl⟩
      go_wp2_with fail
      refine (D.out _).mono ?_
      rintro e w1 ⟨rfl, b1⟩
      go_wp2
      go_ret2
      exact ⟨rfl, (b0 _).trans (b1.mono (by simp))⟩
  · rw [decide_eq_false c0] at C
    obtain ⟨e1, e2⟩ := m_arg (d := d) c0
    rw [e1, e2]
    clear e1 e2
    unfold cv
    go_enter Try.func86, Try.ntmps86
    go_wp2_with fail
    refine (C.out _).mono ?_
    rintro e w1 ⟨rfl, rfl⟩
    go_wp2
    go_ret2
    exact ⟨rfl, b0 _⟩

theorem wake_sec : mB 1 2 ⟨#[97, 98]⟩ = sec 1 2 ⟨#[97, 98]⟩ ∧ mE 1 2 ⟨#[97, 98]⟩ = 0 ∧ (sec 1 2 ⟨#[97, 98]⟩).size = 64 ∧ (sec 1 2 ⟨#[97, 98]⟩).extract 0 11 = ⟨#[0, 0, 0, 0, 0, 1, 0, 2, 2, 97, 98]⟩ := by decide +kernel

end Go.Proofs.Ytcnonioiggniiaa.War
