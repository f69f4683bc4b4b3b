/-
  The walk of the laws' wakes: it returns true; nothing that was in memory has turned. Conditions: the table of the rounds' numbers holds what it was laid with.
-/
import Derived.Test.YtkelipedpjmmaaaDoorRows
import Derived.Test.YtkelipedpjmmaaaDoorTkD
import Derived.Test.YtkelipedpjmmaaaDoorTkE
import Derived.Laws.IdiomStrings
namespace Go.Proofs.YtkelipedpjmmaaaDoor.Wtk
open Go.ChangeShapes Go.WideShapes Go.ChangeAt Go.RowKit Go.Proofs.YtkelipedpjmmaaaDoor.M Go.Proofs.YtkelipedpjmmaaaDoor.Wh

theorem mt_zero : Mt 0 0 0 0 := ⟨⟨by decide, by decide⟩, ⟨by decide, by decide⟩, ⟨by decide, by decide⟩, ⟨by decide, by decide⟩⟩
theorem i6_zero : I6 0 := ⟨by decide, by decide⟩

set_option maxRecDepth 100000 in
set_option maxHeartbeats 1000000 in
theorem wakes (w : World) (hT : Tab w) : Calls Tryd.prog 10 #[] w fun e w' => e = .returned (.bool true) ∧ Below w.heap.size w w' := by
  obtain ⟨k0, k1, n0, n1, n2, n3⟩ := tk_mint (K := ⟨#[107]⟩) mt_zero
  have CM : Hid (∀ w, Tab w → Calls Tryd.prog 13 #[.string ⟨#[107]⟩, .agg #[.int .i64 0, .int .i64 0, .int .i64 0, .int .i64 0]] w fun e w' => e = .returned (.string (mint ⟨#[107]⟩ 0 0 0 0)) ∧ Below w.heap.size w w') := fun w h => mint_ ⟨#[107]⟩ 0 0 0 0 w (by decide) i6_zero i6_zero i6_zero i6_zero h
  have hz : (mint ⟨#[107]⟩ 0 0 0 0).size = 43 := by rw [mint_size, cB_zero]; rfl
  have h11 : (mint ⟨#[107]⟩ 0 0 0 0).extract 0 11 = ⟨#[3, 0, 4, 1, 0, 1, 0, 1, 0, 1, 0]⟩ := by
    have e := hd32_mint ⟨#[107]⟩ 0 0 0 0
    unfold hd32 at e
    rw [hz, cB_zero] at e
    exact e
  have hrest : (mint ⟨#[107]⟩ 0 0 0 0).extract 11 43 = tag ⟨#[107]⟩ (cB 0 0 0 0) := by
    have e := tl32_mint ⟨#[107]⟩ 0 0 0 0
    unfold tl32 at e
    rw [hz] at e
    exact e
  have CP : Hid (∀ w, Calls Tryd.prog 8 #[.string (mint ⟨#[107]⟩ 0 0 0 0)] w fun e w' => e = .returned (.tuple #[.agg #[.int .i64 0, .int .i64 0, .int .i64 0, .int .i64 0], .string (tag ⟨#[107]⟩ (cB 0 0 0 0)), .int .i64 0]) ∧ Below w.heap.size w w') := fun w => by
    have h := parse (mint ⟨#[107]⟩ 0 0 0 0) w (by rw [hz]; decide)
    rw [k0, k1, n0, n1, n2, n3] at h
    exact h
  have HT : Hid (Tab w) := hT
  generalize mint ⟨#[107]⟩ 0 0 0 0 = M at *
  generalize tag ⟨#[107]⟩ (cB 0 0 0 0) = G at *
  clear hT k0 k1 n0 n1 n2 n3
  go_enter Tryd.func10, Tryd.ntmps10
  go_wp2_with fail
  refine (CM.out _ HT.out).mono ?_
  rintro e w1 ⟨rfl, b1⟩
  go_wp2_with fail
  refine (CP.out _).mono ?_
  rintro e w2 ⟨rfl, b2⟩
  go_wp2_with fail
  go_ret
  have c1 : Below w.heap.size w w2 := b1.trans (b2.mono b1.size)
  exact ⟨rfl, c1.alloc c1.size _⟩

end Go.Proofs.YtkelipedpjmmaaaDoor.Wtk
