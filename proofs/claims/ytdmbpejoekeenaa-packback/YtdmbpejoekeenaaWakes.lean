/-
  The walk of the laws' own 'wakes': the bytes that the document fixes are what pack makes: it returns true. Nothing that was in memory has turned. Conditions: none.
-/
import Derived.Test.YtdmbpejoekeenaaPutV
import Derived.Test.YtdmbpejoekeenaaMade
namespace Go.Proofs.Ytdmbpejoekeenaa.Wv
open Go.ChangeShapes Go.WideShapes Go.ChangeAt Go.RowKit Go.Proofs.Ytdmbpejoekeenaa.M Go.Proofs.Ytdmbpejoekeenaa.Wf Go.Proofs.Ytdmbpejoekeenaa.We

/-- The two values of the document's example. -/
def two : F := .cons 0 (-1) ⟨#[]⟩ .nil (.cons 1 0 ⟨#[97]⟩ .nil .nil)
theorem two_ok : two.ok := ⟨by decide, by decide, by decide, trivial, by decide, by decide, by decide, trivial, trivial⟩
theorem two_enc : Wu.encV 2 0 ⟨#[]⟩ two = .ok [3, 0, 2, 1, 1, 1, 2, 0, 1, 97] := by rfl
theorem two_row (w : World) : Rd (w.alloc (.cells #[.int .i64 0, .int .i64 (-1), .string ⟨#[]⟩, .slice none 0 0, .int .i64 1, .int .i64 0, .string ⟨#[97]⟩, .slice none 0 0] 26)) (fun _ => True) (.slice (some ⟨w.heap.size, 0, none⟩) 2 2) two :=
  rd_row (A := fun _ => True) (f := two) (heap_alloc_new w _) trivial (fun _ h => h) ⟨_, _, rfl, ⟨_, _, rfl, rfl, rd_nil _ _⟩, rd_nil _ _⟩ (Nat.le_refl _) (by decide)

set_option maxHeartbeats 400000 in
theorem wakes (w : World) : Calls Try.prog 12 #[] w fun e w' => e = .returned (.bool true) ∧ Below w.heap.size w w' := by
  have hB : Wu.bytesB (Wu.encV 2 0 ⟨#[]⟩ two) = ⟨#[3, 0, 2, 1, 1, 1, 2, 0, 1, 97]⟩ := by rw [two_enc]; rfl
  have hC : codeOf (Wu.encV 2 0 ⟨#[]⟩ two) = 0 := by rw [two_enc]; rfl
  have CP : Hid (∀ W p cap (A : Nat → Prop), Rd W A (.slice p two.len cap) two → Calls Try.prog 10 #[.agg #[.int .i64 2, .int .i64 0, .string ⟨#[]⟩, .slice p two.len cap]] W fun e w' => e = .returned (.tuple #[.string ⟨#[3, 0, 2, 1, 1, 1, 2, 0, 1, 97]⟩, .int .i64 0]) ∧ Below W.heap.size W w') := fun W p cap A h =>
    (Wu.put 2 0 ⟨#[]⟩ two p cap A W ⟨by decide, by decide, by decide, two_ok, trivial⟩ h (by decide)).mono (fun e w' hh => by rw [hB, hC] at hh; exact hh)
  clear hB hC
  go_enter Try.func12, Try.ntmps12
  go_wp2_with fail
  refine (Wy.num _ _).mono ?_
  rintro e w1 ⟨rfl, b1⟩
  go_wp2_with fail
  refine (Wy.str _ _ (by decide)).mono ?_
  rintro e w2 ⟨rfl, b2⟩
  go_wp2_with fail
  refine (Wy.all two _ _ _ (by decide) two_ok (two_row _)).mono ?_
  rintro e w3 ⟨p', cap', rfl, hR, b3⟩
  have HR : Hid _ := hR
  clear hR
  go_wp2_with fail
  refine (CP.out _ _ _ _ HR.out).mono ?_
  rintro e w4 ⟨rfl, b4⟩
  go_wp2_with fail
  go_ret
  have s1 := b1.size
  have s2 := b2.size
  have s3 := b3.size
  simp at s3
  exact ⟨rfl, b1.trans ((b2.mono (by omega)).trans ((((Below.refl _ _).alloc (Nat.le_refl _) _).mono (by omega)).trans ((b3.mono (by simp; omega)).trans (b4.mono (by omega)))))⟩

end Go.Proofs.Ytdmbpejoekeenaa.Wv
