/-
  The walks of words.Fold, words.Unfold and of the document's two, and of the law WordsFolds: each call returns, whatever the number, what 'foldI' and 'unfoldI' say; the law returns true. Conditions: none but that each number fits its kind.
-/
import Derived.Test.YtpmmffihibhlhaaDoorRows
import Derived.Test.YtpmmffihibhlhaaDoorMathA
import Derived.WalkKit
import Derived.ProofKit
import Derived.OpenShut
namespace Go.Proofs.YtpmmffihibhlhaaDoor.Wk
open Go.ChangeShapes Go.WideShapes Go.ChangeAt Go.RowKit Go.Proofs.YtpmmffihibhlhaaDoor.M

theorem fold (n : Int) (w : World) (h1 : -9223372036854775808 ≤ n) (h2 : n < 9223372036854775808) :
    Calls Tryd.prog 65 #[.int .i64 n] w fun e w' => e = .returned (.int .u64 (foldI n)) ∧ w' = w := by
  by_cases c : n < 0
  · have e := fold_code_neg c h1
    go_enter Tryd.func65, Tryd.ntmps65
    go_wp2
    go_ret
    exact ⟨ret_int (by first | rfl | exact e), rfl⟩
  · have e := fold_pos c
    go_enter Tryd.func65, Tryd.ntmps65
    go_wp2
    go_ret
    exact ⟨ret_int (by omega), rfl⟩

theorem foldRef (n : Int) (w : World) (h1 : -9223372036854775808 ≤ n) (h2 : n < 9223372036854775808) :
    Calls Tryd.prog 71 #[.int .i64 n] w fun e w' => e = .returned (.int .u64 (foldI n)) ∧ w' = w := by
  by_cases c : n < 0
  · have e : foldI n = 2 * -(n + 1) + 1 := by rw [fold_neg c]; omega
    have c' : ¬ 0 ≤ n := by omega
    go_enter Tryd.func71, Tryd.ntmps71
    go_wp2
    go_ret
    exact ⟨ret_int (by omega), rfl⟩
  · have e := fold_pos c
    have c' : 0 ≤ n := by omega
    go_enter Tryd.func71, Tryd.ntmps71
    go_wp2
    go_ret
    exact ⟨ret_int (by omega), rfl⟩

end Go.Proofs.YtpmmffihibhlhaaDoor.Wk
