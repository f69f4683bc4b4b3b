/-
  The walk of the law StreamCapacity: it returns true, and nothing that was in memory has turned. Condition: none but that the number fits its kind.
-/
import Derived.Test.YtcnonioiggniiaaSmA
namespace Go.Proofs.Ytcnonioiggniiaa.Wst
open Go.ChangeShapes Go.WideShapes Go.ChangeAt Go.RowKit Go.Proofs.Ytcnonioiggniiaa.M Go.Proofs.Ytcnonioiggniiaa.Wd

set_option maxRecDepth 100000 in
theorem capRef (n : Int) (w : World) (_ : -9223372036854775808 ≤ n) (_ : n < 9223372036854775808) :
    Calls Try.prog 11 #[.int .i64 n] w fun e w' => e = .returned (.int .i64 (if n < 3 then 0 else capN (min n 4096).toNat)) ∧ w = w' := by
  by_cases c : n < 3
  · rw [if_pos c]
    go_enter Try.func11, Try.ntmps11
    go_wp2
    go_ret
    exact ⟨rfl, rfl⟩
  · rw [if_neg c]
    by_cases c2 : 4096 < n
    · have hE : Hid (capN (min n 4096).toNat = 112584) := by
        rw [show (min n 4096).toNat = 4096 by omega]
        rfl
      go_enter Try.func11, Try.ntmps11
      go_wp2
      go_ret
      refine ⟨?_, rfl⟩
      rw [hE.out]
      rfl
    · obtain ⟨m, rfl⟩ : ∃ m : Nat, n = (m : Int) := ⟨n.toNat, by omega⟩
      have e1 : ((m : Int) - 1).tdiv 2 = (((m - 1) / 2 : Nat) : Int) := by
        rw [show (m : Int) - 1 = ((m - 1 : Nat) : Int) by omega]
        rfl
      have hE : Hid (capN (min (m : Int) 4096).toNat = (((m - 1) / 2 : Nat) : Int) * 55 - 1) := by
        rw [show (min (m : Int) 4096).toNat = m by omega]
        show (55 : Int) * _ - 1 = _
        omega
      have hb : (m - 1) / 2 ≤ 2047 := by omega
      generalize (m - 1) / 2 = h at *
      go_enter Try.func11, Try.ntmps11
      go_wp2
      go_ret
      refine ⟨?_, rfl⟩
      rw [hE.out]
      rfl

set_option maxRecDepth 100000 in
theorem lawCapacity (n : Int) (w : World) (h0 : -9223372036854775808 ≤ n) (h1 : n < 9223372036854775808) :
    Calls Try.prog 3 #[.int .i64 n] w fun e w' => e = .returned (.bool true) ∧ Below w.heap.size w w' := by
  have C0 : Hid (∀ w, Calls Try.prog 10 #[.int .i64 5] w fun e w' => e = .returned (.int .i64 109) ∧ w = w') := fun w => capacity 5 w
  have C1 := hid fun w => capacity n w
  have C2 := hid fun w => capRef n w h0 h1
  generalize (if n < 3 then 0 else capN (min n 4096).toNat) = X at *
  go_enter Try.func3, Try.ntmps3
  go_wp2_with fail
  refine (C0.out _).mono ?_
  rintro e w1 ⟨rfl, rfl⟩
  go_wp2_with fail
  refine (C1.out _).mono ?_
  rintro e w1 ⟨rfl, rfl⟩
  go_wp2_with fail
  refine (C2.out _).mono ?_
  rintro e w1 ⟨rfl, rfl⟩
  go_wp2
  go_ret
  refine ⟨?_, Below.refl _ _⟩
  first | rfl | (show Ending.returned (.bool (_ == _)) = _; simp)

end Go.Proofs.Ytcnonioiggniiaa.Wst
