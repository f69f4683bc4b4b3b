/-
  The walks of frame.addByte, frame.addText, frame.Sum, frame.frameSum, of the document's Sum, and of the law FrameSums: each comes to the state, or the check sum, that 'cb', 'ct', 'crc' say; the law returns true. Conditions: none but that each number fits its kind and that a text's length is an int.
-/
import Derived.Test.YtcnonioiggniiaaRows
import Derived.Test.YtcnonioiggniiaaPa
import Derived.Test.YtcnonioiggniiaaBits
import Derived.WalkKit
import Derived.ProofKit
import Derived.OpenShut
namespace Go.Proofs.Ytcnonioiggniiaa.Ws
open Go.ChangeShapes Go.WideShapes Go.ChangeAt Go.RowKit Go.Proofs.Ytcnonioiggniiaa.M

theorem addByte (c x : Nat) (w : World) (hc : c < 4294967296) (hx : x < 256) :
    Calls Try.prog 87 #[.int .u32 (c : Int), .int .u8 (x : Int)] w fun e w' => e = .returned (.int .u32 (cb c x 8 : Int)) ∧ w = w' := by
  go_enter Try.func87, Try.ntmps87
  go_wp2
  go_loop [0, 7] (fun cv iv => ∃ i : Nat, i ≤ 8 ∧ iv = .int .i64 (i : Int) ∧ cv = .int .u32 (cb c x i : Int)) (fun _ i => 8 - (intOf i).toNat)
  case atStart => exact ⟨0, Nat.zero_le _, rfl, rfl⟩
  case round =>
    obtain ⟨i, hi, rfl, rfl⟩ := hrel
    by_cases hlt : i < 8
    · have hr := cb_lt x hc i
      have S : Hid (cb c x (i + 1) = stp (cb c x i) (x / 2 ^ i)) := rfl
      generalize cb c x i = d at hr S
      have hy : x / 2 ^ i < 256 := Nat.lt_of_le_of_lt (Nat.div_le_self _ _) hx
      have ed := divPow x i
      by_cases hs : d % 2 = x / 2 ^ i % 2
      · have ho := out_same (c := d) (y := x / 2 ^ i) hr (by omega) hs
        have E : Hid (((stp d (x / 2 ^ i) : Nat) : Int) = (d : Int) / 2) := stp_same hs
        clear hs
        generalize x / 2 ^ i = y at *
        go_wp2
        go_round
        case rel => exact ⟨i + 1, by omega, by go_num, by rw [S.out, E.out]⟩
        case measure => simp [intOf] <;> omega
      · have ho := out_other (c := d) (y := x / 2 ^ i) hr (by omega) hs
        have E : Hid (((stp d (x / 2 ^ i) : Nat) : Int) = bits .xor .u32 ((d : Int) / 2) 2197175160) := stp_other hr hs
        clear hs
        generalize x / 2 ^ i = y at *
        go_wp2
        go_round
        case rel => exact ⟨i + 1, by omega, by go_num, by rw [S.out, E.out]⟩
        case measure => simp [intOf] <;> omega
    · obtain rfl : i = 8 := by omega
      go_wp2
      go_ret
      exact ⟨rfl, rfl⟩

theorem addText (c : Nat) (s : ByteArray) (w : World) (hc : c < 4294967296) (hs : s.size ≤ maxLen) :
    Calls Try.prog 70 #[.int .u32 (c : Int), .string s] w fun e w' => e = .returned (.int .u32 (ct c s s.size : Int)) ∧ w = w' := by
  unfold maxLen at hs
  go_enter Try.func70, Try.ntmps70
  go_wp2
  go_loop [0, 8] (fun cv iv => ∃ i : Nat, i ≤ s.size ∧ iv = .int .i64 (i : Int) ∧ cv = .int .u32 (ct c s i : Int)) (fun _ i => s.size - (intOf i).toNat)
  case atStart => exact ⟨0, Nat.zero_le _, rfl, rfl⟩
  case round =>
    obtain ⟨i, hi, rfl, rfl⟩ := hrel
    by_cases hlt : i < s.size
    · have hr := ct_lt s hc i
      have S : Hid (ct c s (i + 1) = cb (ct c s i) (bn s i) 8) := rfl
      generalize ct c s i = d at hr S
      have hb := bn_lt s i
      have eb : ∀ h, ((s[i]'h).toNat : Int) = (bn s i : Int) := fun h => by rw [bn_int]; exact get_bt s i h
      generalize bn s i = x at hb eb S
      go_wp2_with (go_at_call 87; refine (addByte d x _ hr hb).mono ?_; rintro e w1 ⟨rfl, rfl⟩)
      go_round
      case rel => exact ⟨i + 1, by omega, by go_num, by rw [S.out]⟩
      case measure => simp [intOf] <;> omega
    · obtain rfl : i = s.size := by omega
      go_wp2
      go_ret
      exact ⟨rfl, rfl⟩

theorem not_nat {d : Nat} (h : d < 4294967296) : bits .xor .u32 IntKind.u32.max (d : Int) = ((4294967295 - d : Nat) : Int) := by
  rw [not_u32 _ (by omega) (by omega)]
  omega

theorem frameSum (a b : ByteArray) (w : World) (ha : a.size ≤ maxLen) (hb : b.size ≤ maxLen) :
    Calls Try.prog 54 #[.string a, .string b] w fun e w' => e = .returned (.int .u32 (crc (a ++ b) : Int)) ∧ w = w' := by
  have C : Hid (∀ w, Calls Try.prog 70 #[.int .u32 4294967295, .string a] w fun e w' => e = .returned (.int .u32 (ct 4294967295 a a.size : Int)) ∧ w = w') := fun w => addText 4294967295 a w (by decide) ha
  have E : Hid (crc (a ++ b) = 4294967295 - ct (ct 4294967295 a a.size) b b.size) := by unfold crc; rw [ct_app]; exact rfl
  have hr : ct 4294967295 a a.size < 4294967296 := ct_lt a (by decide) a.size
  generalize ct 4294967295 a a.size = d at C E hr
  have C2 : Hid (∀ w, Calls Try.prog 70 #[.int .u32 (d : Int), .string b] w fun e w' => e = .returned (.int .u32 (ct d b b.size : Int)) ∧ w = w') := fun w => addText d b w hr hb
  have hr2 : ct d b b.size < 4294967296 := ct_lt b hr b.size
  generalize ct d b b.size = d2 at C2 E hr2
  have F : Hid _ := not_nat hr2
  go_enter Try.func54, Try.ntmps54
  go_wp2_with fail
  refine (C.out _).mono ?_
  rintro e w1 ⟨rfl, rfl⟩
  go_wp2_with fail
  refine (C2.out _).mono ?_
  rintro e w1 ⟨rfl, rfl⟩
  go_wp2
  go_ret
  exact ⟨ret_int (by rw [E.out]; exact F.out), rfl⟩

theorem bit_nat (x k : Nat) : ((bitB (x : Int) (k : Int)).toNat : Int) = ((x / 2 ^ k % 2 : Nat) : Int) := by
  rw [← hv_bit (by omega), hv_nat]
  omega

theorem nine : crc ⟨#[49, 50, 51, 52, 53, 54, 55, 56, 57]⟩ = 3808858755 := by decide +kernel

end Go.Proofs.Ytcnonioiggniiaa.Ws
