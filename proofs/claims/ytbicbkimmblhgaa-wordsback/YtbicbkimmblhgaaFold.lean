/-
  The walks of words.Fold, words.Unfold and of the document's two, and of the law WordsFolds: each call returns, whatever the number, what 'foldI' and 'unfoldI' say; the law returns true. Conditions: none but that each number fits its kind.
-/
import Derived.Test.YtbicbkimmblhgaaRows
import Derived.Test.YtbicbkimmblhgaaMathA
import Derived.WalkKit
import Derived.ProofKit
import Derived.OpenShut
namespace Go.Proofs.Ytbicbkimmblhgaa.Wk
open Go.ChangeShapes Go.WideShapes Go.ChangeAt Go.RowKit Go.Proofs.Ytbicbkimmblhgaa.M

theorem fold (n : Int) (w : World) (h1 : -9223372036854775808 ≤ n) (h2 : n < 9223372036854775808) :
    Calls Try.prog 15 #[.int .i64 n] w fun e w' => e = .returned (.int .u64 (foldI n)) ∧ w' = w := by
  by_cases c : n < 0
  · have e := fold_code_neg c h1
    go_enter Try.func15, Try.ntmps15
    go_wp2
    go_ret
    exact ⟨ret_int (by first | rfl | exact e), rfl⟩
  · have e := fold_pos c
    go_enter Try.func15, Try.ntmps15
    go_wp2
    go_ret
    exact ⟨ret_int (by omega), rfl⟩

theorem foldRef (n : Int) (w : World) (h1 : -9223372036854775808 ≤ n) (h2 : n < 9223372036854775808) :
    Calls Try.prog 16 #[.int .i64 n] w fun e w' => e = .returned (.int .u64 (foldI n)) ∧ w' = w := by
  by_cases c : n < 0
  · have e : foldI n = 2 * -(n + 1) + 1 := by rw [fold_neg c]; omega
    have c' : ¬ 0 ≤ n := by omega
    go_enter Try.func16, Try.ntmps16
    go_wp2
    go_ret
    exact ⟨ret_int (by omega), rfl⟩
  · have e := fold_pos c
    have c' : 0 ≤ n := by omega
    go_enter Try.func16, Try.ntmps16
    go_wp2
    go_ret
    exact ⟨ret_int (by omega), rfl⟩

theorem unfold (n : Int) (w : World) (h1 : 0 ≤ n) (h2 : n < 18446744073709551616) :
    Calls Try.prog 17 #[.int .u64 n] w fun e w' => e = .returned (.int .i64 (unfoldI n)) ∧ w' = w := by
  have ha := and_one n h1 h2
  by_cases c : n % 2 = 1
  · have e := unfold_odd c
    have en := not_i64 (n / 2) (by omega) (by omega)
    go_enter Try.func17, Try.ntmps17
    go_wp2
    go_ret
    exact ⟨ret_int (by omega), rfl⟩
  · have e := unfold_even c
    go_enter Try.func17, Try.ntmps17
    go_wp2
    go_ret
    exact ⟨ret_int (by omega), rfl⟩

theorem unfoldRef (n : Int) (w : World) (h1 : 0 ≤ n) (h2 : n < 18446744073709551616) :
    Calls Try.prog 18 #[.int .u64 n] w fun e w' => e = .returned (.int .i64 (unfoldI n)) ∧ w' = w := by
  by_cases c : n % 2 = 1
  · have e := unfold_odd c
    go_enter Try.func18, Try.ntmps18
    go_wp2
    go_ret
    exact ⟨ret_int (by omega), rfl⟩
  · have e := unfold_even c
    go_enter Try.func18, Try.ntmps18
    go_wp2
    go_ret
    exact ⟨ret_int (by omega), rfl⟩

theorem law (a0 a1 : Int) (w0 : (Lit.int .i64 a0).wf = true) (w1 : (Lit.int .u64 a1).wf = true) (w : World) :
    Calls Try.prog 5 #[.int .i64 a0, .int .u64 a1] w fun e w' => e = .returned (.bool true) ∧ Below w.heap.size w w' := by
  obtain ⟨h1, h2⟩ := wf_i64 w0
  obtain ⟨h3, h4⟩ := wf_u64 w1
  clear w0 w1
  have e1 := unfold_fold a0
  have e2 := fold_unfold a1 h3
  obtain ⟨r1, r2⟩ := fold_range h1 h2
  obtain ⟨r3, r4⟩ := unfold_range h3 h4
  have e3 := fold_two
  go_enter Try.func5, Try.ntmps5
  go_wp2_with (first
    | (go_at_call 15; refine (fold _ _ ?_ ?_).mono ?_ <;> first | omega | (rintro e w' ⟨rfl, rfl⟩))
    | (go_at_call 16; refine (foldRef _ _ ?_ ?_).mono ?_ <;> first | omega | (rintro e w' ⟨rfl, rfl⟩))
    | (go_at_call 17; refine (unfold _ _ ?_ ?_).mono ?_ <;> first | omega | (rintro e w' ⟨rfl, rfl⟩))
    | (go_at_call 18; refine (unfoldRef _ _ ?_ ?_).mono ?_ <;> first | omega | (rintro e w' ⟨rfl, rfl⟩)))
  go_ret
  exact ⟨rfl, Below.refl _ _⟩

end Go.Proofs.Ytbicbkimmblhgaa.Wk
