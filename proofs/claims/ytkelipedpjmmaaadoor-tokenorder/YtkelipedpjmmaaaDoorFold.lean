/-
  The walks of words.Fold, words.Unfold and of the document's two, and of the law WordsFolds: each call returns, whatever the number, what 'foldI' and 'unfoldI' say; the law returns true. Conditions: none but that each number fits its kind.
-/
import Derived.Test.YtkelipedpjmmaaaDoorRows
import Derived.Test.YtkelipedpjmmaaaDoorQa
import Derived.WalkKit
import Derived.ProofKit
import Derived.OpenShut
namespace Go.Proofs.YtkelipedpjmmaaaDoor.Wk
open Go.ChangeShapes Go.WideShapes Go.ChangeAt Go.RowKit Go.Proofs.YtkelipedpjmmaaaDoor.M

theorem fold (n : Int) (w : World) (h1 : -9223372036854775808 ≤ n) (h2 : n < 9223372036854775808) :
    Calls Tryd.prog 68 #[.int .i64 n] w fun e w' => e = .returned (.int .u64 (foldI n)) ∧ w' = w := by
  by_cases c : n < 0
  · have e := fold_code_neg c h1
    go_enter Tryd.func68, Tryd.ntmps68
    go_wp2
    go_ret
    exact ⟨ret_int (by first | rfl | exact e), rfl⟩
  · have e := fold_pos c
    go_enter Tryd.func68, Tryd.ntmps68
    go_wp2
    go_ret
    exact ⟨ret_int (by omega), rfl⟩

theorem unfold (n : Int) (w : World) (h1 : 0 ≤ n) (h2 : n < 18446744073709551616) :
    Calls Tryd.prog 56 #[.int .u64 n] w fun e w' => e = .returned (.int .i64 (unfoldI n)) ∧ w' = w := by
  have ha := and_one n h1 h2
  by_cases c : n % 2 = 1
  · have e := unfold_odd c
    have en := not_i64 (n / 2) (by omega) (by omega)
    go_enter Tryd.func56, Tryd.ntmps56
    go_wp2
    go_ret
    exact ⟨ret_int (by omega), rfl⟩
  · have e := unfold_even c
    go_enter Tryd.func56, Tryd.ntmps56
    go_wp2
    go_ret
    exact ⟨ret_int (by omega), rfl⟩

theorem unfoldRef (n : Int) (w : World) (h1 : 0 ≤ n) (h2 : n < 18446744073709551616) :
    Calls Tryd.prog 44 #[.int .u64 n] w fun e w' => e = .returned (.int .i64 (unfoldI n)) ∧ w' = w := by
  by_cases c : n % 2 = 1
  · have e := unfold_odd c
    go_enter Tryd.func44, Tryd.ntmps44
    go_wp2
    go_ret
    exact ⟨ret_int (by omega), rfl⟩
  · have e := unfold_even c
    go_enter Tryd.func44, Tryd.ntmps44
    go_wp2
    go_ret
    exact ⟨ret_int (by omega), rfl⟩

end Go.Proofs.YtkelipedpjmmaaaDoor.Wk
