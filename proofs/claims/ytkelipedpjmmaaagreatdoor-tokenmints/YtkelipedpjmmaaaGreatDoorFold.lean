/-
  The walks of words.Fold, words.Unfold and of the document's two, and of the law WordsFolds: each call returns, whatever the number, what 'foldI' and 'unfoldI' say; the law returns true. Conditions: none but that each number fits its kind.
-/
import Derived.Test.YtkelipedpjmmaaaGreatDoorRows
import Derived.Test.YtkelipedpjmmaaaGreatDoorQa
import Derived.WalkKit
import Derived.ProofKit
import Derived.OpenShut
namespace Go.Proofs.YtkelipedpjmmaaaGreatDoor.Wk
open Go.ChangeShapes Go.WideShapes Go.ChangeAt Go.RowKit Go.Proofs.YtkelipedpjmmaaaGreatDoor.M

theorem fold (n : Int) (w : World) (h1 : -9223372036854775808 ≤ n) (h2 : n < 9223372036854775808) :
    Calls Tryz.prog 52 #[.int .i64 n] w fun e w' => e = .returned (.int .u64 (foldI n)) ∧ w' = w := by
  by_cases c : n < 0
  · have e := fold_code_neg c h1
    go_enter Tryz.func52, Tryz.ntmps52
    go_wp2
    go_ret
    exact ⟨ret_int (by first | rfl | exact e), rfl⟩
  · have e := fold_pos c
    go_enter Tryz.func52, Tryz.ntmps52
    go_wp2
    go_ret
    exact ⟨ret_int (by omega), rfl⟩

theorem foldRef (n : Int) (w : World) (h1 : -9223372036854775808 ≤ n) (h2 : n < 9223372036854775808) :
    Calls Tryz.prog 85 #[.int .i64 n] w fun e w' => e = .returned (.int .u64 (foldI n)) ∧ w' = w := by
  by_cases c : n < 0
  · have e : foldI n = 2 * -(n + 1) + 1 := by rw [fold_neg c]; omega
    have c' : ¬ 0 ≤ n := by omega
    go_enter Tryz.func85, Tryz.ntmps85
    go_wp2
    go_ret
    exact ⟨ret_int (by omega), rfl⟩
  · have e := fold_pos c
    have c' : 0 ≤ n := by omega
    go_enter Tryz.func85, Tryz.ntmps85
    go_wp2
    go_ret
    exact ⟨ret_int (by omega), rfl⟩

theorem unfold (n : Int) (w : World) (h1 : 0 ≤ n) (h2 : n < 18446744073709551616) :
    Calls Tryz.prog 70 #[.int .u64 n] w fun e w' => e = .returned (.int .i64 (unfoldI n)) ∧ w' = w := by
  have ha := and_one n h1 h2
  by_cases c : n % 2 = 1
  · have e := unfold_odd c
    have en := not_i64 (n / 2) (by omega) (by omega)
    go_enter Tryz.func70, Tryz.ntmps70
    go_wp2
    go_ret
    exact ⟨ret_int (by omega), rfl⟩
  · have e := unfold_even c
    go_enter Tryz.func70, Tryz.ntmps70
    go_wp2
    go_ret
    exact ⟨ret_int (by omega), rfl⟩

end Go.Proofs.YtkelipedpjmmaaaGreatDoor.Wk
