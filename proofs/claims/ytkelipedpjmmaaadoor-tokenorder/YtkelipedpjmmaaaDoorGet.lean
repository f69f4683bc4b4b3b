/-
  The walks of words.Get, of the document's Get, and of the law WordsGets: each returns the number, the place behind it and the error that 'gN', 'gX', 'gE' say; the law returns true. Conditions: none but that each number fits its kind and that the text's length is an int.
-/
import Derived.Test.YtkelipedpjmmaaaDoorRows
import Derived.Test.YtkelipedpjmmaaaDoorQa
import Derived.WalkKit
import Derived.ProofKit
import Derived.OpenShut
namespace Go.Proofs.YtkelipedpjmmaaaDoor.Wg
open Go.ChangeShapes Go.WideShapes Go.ChangeAt Go.RowKit Go.Proofs.YtkelipedpjmmaaaDoor.M

theorem get (s : ByteArray) (at_ width : Int) (w : World) (hs : s.size ≤ maxLen) (h0 : -9223372036854775808 ≤ at_) (h1 : at_ < 9223372036854775808) :
    Calls Tryd.prog 73 #[.string s, .int .i64 at_, .int .i64 width] w fun e w' => e = .returned (.tuple #[.int .u64 (gN s at_ width), .int .i64 (gX s at_ width), .int .i64 (gE s at_ width)]) ∧ w = w' := by
  unfold maxLen at hs
  by_cases c0 : width < 1 ∨ 8 < width ∨ at_ < 0 ∨ (s.size : Int) < at_
  · obtain ⟨e1, e2, e3⟩ := g_arg c0
    rw [e1, e2, e3]
    clear e1 e2 e3
    by_cases c1 : width < 1
    · go_enter Tryd.func73, Tryd.ntmps73
      go_wp2
      go_ret3
      exact ⟨rfl, rfl⟩
    · by_cases c2 : 8 < width
      · go_enter Tryd.func73, Tryd.ntmps73
        go_wp2
        go_ret3
        exact ⟨rfl, rfl⟩
      · by_cases c3 : at_ < 0
        · go_enter Tryd.func73, Tryd.ntmps73
          go_wp2
          go_ret3
          exact ⟨rfl, rfl⟩
        · have c4 : (s.size : Int) < at_ := by omega
          clear c0
          go_enter Tryd.func73, Tryd.ntmps73
          go_wp2
          go_ret3
          exact ⟨rfl, rfl⟩
  · by_cases c5 : (s.size : Int) - at_ < width
    · obtain ⟨e1, e2, e3⟩ := g_short c0 c5
      rw [e1, e2, e3]
      have c1 : ¬ width < 1 := by omega
      have c2 : ¬ 8 < width := by omega
      have c3 : ¬ at_ < 0 := by omega
      have c4 : ¬ (s.size : Int) < at_ := by omega
      clear e1 e2 e3 c0
      go_enter Tryd.func73, Tryd.ntmps73
      go_wp2
      go_ret3
      exact ⟨rfl, rfl⟩
    · obtain ⟨e1, e2, e3⟩ := g_ok c0 c5
      rw [e1, e2, e3]
      clear e1 e2 e3
      obtain ⟨A, rfl⟩ := Int.eq_ofNat_of_zero_le (show 0 ≤ at_ by omega)
      obtain ⟨K, rfl⟩ := Int.eq_ofNat_of_zero_le (show 0 ≤ width by omega)
      have c1 : ¬ (K : Int) < 1 := by omega
      have c2 : ¬ 8 < (K : Int) := by omega
      have c3 : ¬ (A : Int) < 0 := by omega
      have c4 : ¬ (s.size : Int) < (A : Int) := by omega
      clear c0
      have hg := get_bt s
      simp only [Int.toNat_natCast]
      go_enter Tryd.func73, Tryd.ntmps73
      go_wp2
      go_loop [9, 34] (fun nv iv => ∃ i : Nat, i ≤ K ∧ iv = .int .i64 (i : Int) ∧ nv = .int .u64 (num s A i)) (fun _ i => K - (intOf i).toNat)
      case atStart => exact ⟨0, Nat.zero_le _, rfl, rfl⟩
      case round =>
        obtain ⟨i, hi, rfl, rfl⟩ := hrel
        by_cases hlt : i < K
        · obtain ⟨n0, n1⟩ := num_7 s A (show i ≤ 7 by omega)
          obtain ⟨b0, b1⟩ := bt_range s (A + i)
          have ho := or_byte n0 n1 b0 b1
          go_wp2
          go_round
          case rel => exact ⟨i + 1, by omega, by go_num, rfl⟩
          case measure => simp [intOf] <;> omega
        · have hki : i = K := by omega
          subst hki
          go_wp2
          go_ret3
          exact ⟨rfl, rfl⟩

theorem getRef (s : ByteArray) (at_ width : Int) (w : World) (hs : s.size ≤ maxLen) (h0 : -9223372036854775808 ≤ at_) (h1 : at_ < 9223372036854775808) :
    Calls Tryd.prog 43 #[.string s, .int .i64 at_, .int .i64 width] w fun e w' => e = .returned (.tuple #[.int .u64 (gN s at_ width), .int .i64 (gX s at_ width), .int .i64 (gE s at_ width)]) ∧ w = w' := by
  unfold maxLen at hs
  by_cases c0 : width < 1 ∨ 8 < width ∨ at_ < 0 ∨ (s.size : Int) < at_
  · obtain ⟨e1, e2, e3⟩ := g_arg c0
    rw [e1, e2, e3]
    clear e1 e2 e3
    by_cases c1 : width < 1
    · go_enter Tryd.func43, Tryd.ntmps43
      go_wp2
      go_ret3
      exact ⟨rfl, rfl⟩
    · by_cases c2 : 8 < width
      · go_enter Tryd.func43, Tryd.ntmps43
        go_wp2
        go_ret3
        exact ⟨rfl, rfl⟩
      · by_cases c3 : at_ < 0
        · go_enter Tryd.func43, Tryd.ntmps43
          go_wp2
          go_ret3
          exact ⟨rfl, rfl⟩
        · have c4 : (s.size : Int) < at_ := by omega
          clear c0
          go_enter Tryd.func43, Tryd.ntmps43
          go_wp2
          go_ret3
          exact ⟨rfl, rfl⟩
  · by_cases c5 : (s.size : Int) - at_ < width
    · obtain ⟨e1, e2, e3⟩ := g_short c0 c5
      rw [e1, e2, e3]
      have c1 : ¬ width < 1 := by omega
      have c2 : ¬ 8 < width := by omega
      have c3 : ¬ at_ < 0 := by omega
      have c4 : ¬ (s.size : Int) < at_ := by omega
      clear e1 e2 e3 c0
      go_enter Tryd.func43, Tryd.ntmps43
      go_wp2
      go_ret3
      exact ⟨rfl, rfl⟩
    · obtain ⟨e1, e2, e3⟩ := g_ok c0 c5
      rw [e1, e2, e3]
      clear e1 e2 e3
      obtain ⟨A, rfl⟩ := Int.eq_ofNat_of_zero_le (show 0 ≤ at_ by omega)
      obtain ⟨K, rfl⟩ := Int.eq_ofNat_of_zero_le (show 0 ≤ width by omega)
      have c1 : ¬ (K : Int) < 1 := by omega
      have c2 : ¬ 8 < (K : Int) := by omega
      have c3 : ¬ (A : Int) < 0 := by omega
      have c4 : ¬ (s.size : Int) < (A : Int) := by omega
      clear c0
      have hg := get_bt s
      simp only [Int.toNat_natCast]
      go_enter Tryd.func43, Tryd.ntmps43
      go_wp2
      go_loop [9, 10] (fun nv iv => ∃ i : Nat, i ≤ K ∧ iv = .int .i64 (i : Int) ∧ nv = .int .u64 (num s A i)) (fun _ i => K - (intOf i).toNat)
      case atStart => exact ⟨0, Nat.zero_le _, rfl, rfl⟩
      case round =>
        obtain ⟨i, hi, rfl, rfl⟩ := hrel
        by_cases hlt : i < K
        · obtain ⟨n0, n1⟩ := num_7 s A (show i ≤ 7 by omega)
          obtain ⟨b0, b1⟩ := bt_range s (A + i)
          go_wp2
          go_round
          case rel => exact ⟨i + 1, by omega, by go_num, rfl⟩
          case measure => simp [intOf] <;> omega
        · have hki : i = K := by omega
          subst hki
          go_wp2
          go_ret3
          exact ⟨rfl, rfl⟩

end Go.Proofs.YtkelipedpjmmaaaDoor.Wg
