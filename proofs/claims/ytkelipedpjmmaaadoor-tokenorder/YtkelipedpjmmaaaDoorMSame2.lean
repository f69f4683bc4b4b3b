/-
  The walk of mac.Same: whether two texts are the same. Nothing in memory has turned. Conditions: texts of at most 2^48 bytes.
-/
import Derived.Test.YtkelipedpjmmaaaDoorRows
import Derived.Test.YtkelipedpjmmaaaDoorMMask
import Derived.WalkKit
import Derived.ProofKit
import Derived.OpenShut
namespace Go.Proofs.YtkelipedpjmmaaaDoor.Wm
open Go.ChangeShapes Go.WideShapes Go.ChangeAt Go.RowKit Go.Proofs.YtkelipedpjmmaaaDoor.M

theorem same_list (a b : ByteArray) : (a.toList == b.toList) = decide (a = b) := by
  by_cases h : a = b
  · rw [decide_eq_true h, h]
    simp
  · rw [decide_eq_false h]
    have : ¬ a.toList = b.toList := fun e => h (by
      rw [ByteArray.toList_eq, ByteArray.toList_eq] at e
      exact ByteArray.ext (Array.toList_inj.1 e))
    simpa using this

theorem same (a b : ByteArray) (w : World) (ha : a.size ≤ 281474976710656) (hb : b.size ≤ 281474976710656) :
    Calls Tryd.prog 19 #[.string a, .string b] w fun e w' => e = .returned (.bool (decide (a = b))) ∧ w = w' := by
  have h0 := i64_xor_nat a.size b.size (by omega) (by omega)
  have HL : Hid (∀ i, dif a b i < 9223372036854775808) := dif_lt ha hb
  have hcs : (a.size < b.size ∧ ∃ n, n = b.size ∧ Hid (dif a b n = 0 ↔ a = b)) ∨ (¬ a.size < b.size ∧ ∃ n, n = a.size ∧ Hid (dif a b n = 0 ↔ a = b)) := by
    by_cases h : a.size < b.size
    · exact .inl ⟨h, _, rfl, dif_same (by omega)⟩
    · exact .inr ⟨h, _, rfl, dif_same (by omega)⟩
  rcases hcs with ⟨hc, n, hn, HD⟩ | ⟨hc, n, hn, HD⟩
  all_goals
    go_enter Tryd.func19, Tryd.ntmps19
    go_wp2
    go_loop [5, 17] (fun dv iv => ∃ i : Nat, i ≤ n ∧ iv = .int .i64 (i : Int) ∧ dv = .int .i64 (dif a b i : Int)) (fun _ i => n - (intOf i).toNat)
    case atStart => exact ⟨0, Nat.zero_le _, rfl, by first | rfl | (rw [h0]; rfl)⟩
    case round =>
      clear h0
      obtain ⟨i, hi, rfl, rfl⟩ := hrel
      by_cases hlt : i < n
      · have C1 : Hid (∀ w, Calls Tryd.prog 31 #[.string a, .int .i64 (i : Int)] w fun e w' => e = .returned (.int .u8 (bx a i : Int)) ∧ w = w') := fun w => byteAt a i w ha (by omega)
        have C2 : Hid (∀ w, Calls Tryd.prog 31 #[.string b, .int .i64 (i : Int)] w fun e w' => e = .returned (.int .u8 (bx b i : Int)) ∧ w = w') := fun w => byteAt b i w hb (by omega)
        have hx := u8_xor_nat (bx a i) (bx b i) (bx_lt a i) (bx_lt b i)
        have hxl := xor_byte (bx_lt a i) (bx_lt b i)
        have ho := i64_or_nat (dif a b i) (bx a i ^^^ bx b i) (HL.out i) (by omega)
        have S : Hid (dif a b (i + 1) = dif a b i ||| (bx a i ^^^ bx b i)) := rfl
        generalize dif a b i = d at ho S
        generalize bx a i = x at C1 hx hxl ho S
        generalize bx b i = y at C2 hx hxl ho S
        generalize x ^^^ y = z at hx hxl ho S
        generalize d ||| z = d' at ho S
        go_wp2_with fail
        refine (C1.out _).mono ?_
        rintro e w1 ⟨rfl, rfl⟩
        go_wp2_with fail
        refine (C2.out _).mono ?_
        rintro e w2 ⟨rfl, rfl⟩
        go_wp2
        go_round
        case rel => exact ⟨i + 1, by omega, by go_num, by rw [S.out]⟩
        case measure => simp [intOf] <;> omega
      · have hin : i = n := by omega
        have hd := HD.out
        rw [← hin] at hd
        by_cases hab : a = b
        · have h00 := hd.2 hab
          rw [h00]
          have HAB : Hid (a = b) := hab
          clear hd h00 hab
          go_wp2
          go_ret
          exact ⟨by rw [decide_eq_true HAB.out]; rfl, rfl⟩
        · have h00 : ¬ ((dif a b i : Nat) : Int) = 0 := fun h => hab (hd.1 (by omega))
          have HAB : Hid (¬ a = b) := hab
          clear hd hab
          generalize dif a b i = d at h00
          have h01 : ((d : Int) == 0) = false := by simpa using h00
          go_wp2
          go_ret
          exact ⟨by rw [decide_eq_false HAB.out]; rfl, rfl⟩

end Go.Proofs.YtkelipedpjmmaaaDoor.Wm
