/-
  The walks of words.Bits, of the document's Bit and Bits, and of the law WordsBits: each returns the bits that 'bitsN' says; the law returns true. Conditions: none but that each number fits its kind.
-/
import Derived.Test.YtcojpajmeacpiaaDoorRows
import Derived.Test.YtcojpajmeacpiaaDoorMathC
import Derived.WalkKit
import Derived.ProofKit
import Derived.OpenShut
namespace Go.Proofs.YtcojpajmeacpiaaDoor.Wb
open Go.ChangeShapes Go.WideShapes Go.ChangeAt Go.RowKit Go.Proofs.YtcojpajmeacpiaaDoor.M

theorem bit (n a : Int) (w : World) (h0 : 0 ≤ n) (h1 : n < 18446744073709551616) :
    Calls Tryd.prog 34 #[.int .u64 n, .int .i64 a] w fun e w' => e = .returned (.int .u64 ((bitB n a).toNat : Int)) ∧ w = w' := by
  by_cases c1 : a < 0
  · rw [bitB_neg c1]
    go_enter Tryd.func34, Tryd.ntmps34
    go_wp2
    go_ret
    exact ⟨rfl, rfl⟩
  · by_cases c2 : 63 < a
    · rw [bitB_big h0 h1 c2]
      go_enter Tryd.func34, Tryd.ntmps34
      go_wp2
      go_ret
      exact ⟨rfl, rfl⟩
    · obtain ⟨A, rfl⟩ := Int.eq_ofNat_of_zero_le (show 0 ≤ a by omega)
      have c3 : A ≤ 63 := by omega
      go_enter Tryd.func34, Tryd.ntmps34
      go_wp2
      go_loop [0, 5] (fun nv iv => ∃ i : Nat, i ≤ A ∧ iv = .int .i64 i ∧ nv = .int .u64 (hv n i)) (fun _ i => A - (intOf i).toNat)
      case atStart => exact ⟨0, Nat.zero_le _, rfl, rfl⟩
      case round =>
        obtain ⟨i, hi, rfl, rfl⟩ := hrel
        have hr := hv_range h0 h1 i
        by_cases hlt : i < A
        · go_wp2
          go_round
          case rel => exact ⟨i + 1, by omega, by go_num, rfl⟩
          case measure => simp [intOf]; omega
        · have hki : i = A := by omega
          subst hki
          have e := hv_bit h0 i
          go_wp2
          go_ret
          exact ⟨ret_int (by first | rfl | exact e), rfl⟩