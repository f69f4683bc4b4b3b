/-
  The walks of the laws RoleAllows, RoleMasks, RoleNames and RoleRises: each returns true, and nothing that was in memory has turned. Conditions: the numbers fit their kinds; the tables of masks and of names hold what they were laid with.
-/
import Derived.Test.YtiiaceknhaimeaaDoorRlC
import Derived.Lib.MinMax
namespace Go.Proofs.YtiiaceknhaimeaaDoor.Wrl
open Go.ChangeShapes Go.WideShapes Go.ChangeAt Go.RowKit Go.Proofs.YtiiaceknhaimeaaDoor.M

set_option maxRecDepth 100000 in
theorem lawAllows (r o : Int) (w : World) (r1 : -9223372036854775808 ≤ r) (r2 : r < 9223372036854775808) (_ : -9223372036854775808 ≤ o) (_ : o < 9223372036854775808) (hT : TabM w) :
    Calls Tryd.prog 3 #[.int .i64 r, .int .i64 o] w fun e w' => e = .returned (.bool true) ∧ Below w.heap.size w w' := by
  have C0 := hid (allows 2 1 w (by decide) (by decide) hT)
  rw [show al 2 1 = true by decide] at C0
  have C1 := hid (allows r o w r1 r2 hT)
  have C2 := hid (allowsRef r o w)
  generalize al r o = A at C1 C2
  clear hT
  go_enter Tryd.func3, Tryd.ntmps3
  go_wp2_with fail
  refine C0.out.mono ?_
  rintro e w1 ⟨rfl, rfl⟩
  go_wp2_with fail
  refine C1.out.mono ?_
  rintro e w1 ⟨rfl, rfl⟩
  go_wp2_with fail
  refine C2.out.mono ?_
  rintro e w1 ⟨rfl, rfl⟩
  go_wp2
  go_ret
  exact ⟨rfl, Below.refl _ _⟩

set_option maxRecDepth 100000 in
theorem lawMasks (r o : Int) (w : World) (r1 : -9223372036854775808 ≤ r) (r2 : r < 9223372036854775808) (_ : -9223372036854775808 ≤ o) (_ : o < 9223372036854775808) (hT : TabM w) :
    Calls Tryd.prog 4 #[.int .i64 r, .int .i64 o] w fun e w' => e = .returned (.bool true) ∧ Below w.heap.size w w' := by
  have C0 := hid (mask 2 w (by decide) (by decide) hT)
  rw [show mk 2 = 7 by decide] at C0
  have C1 := hid (least 4 w hT)
  rw [show le 4 = 3 by decide] at C1
  have C2 := hid (mask r w r1 r2 hT)
  have C3 := hid (maskRef r w)
  have C4 := hid (least o w hT)
  have C5 := hid (leastRef o w)
  have b1 := le_lo o
  have b2 := le_hi o
  generalize mk r = A at C2 C3
  generalize le o = B at C4 C5 b1 b2
  clear hT
  go_enter Tryd.func4, Tryd.ntmps4
  go_wp2_with fail
  refine C0.out.mono ?_
  rintro e w1 ⟨rfl, rfl⟩
  go_wp2_with fail
  refine C1.out.mono ?_
  rintro e w1 ⟨rfl, rfl⟩
  go_wp2_with fail
  refine C2.out.mono ?_
  rintro e w1 ⟨rfl, rfl⟩
  go_wp2_with fail
  refine C3.out.mono ?_
  rintro e w1 ⟨rfl, rfl⟩
  go_wp2_with fail
  refine C4.out.mono ?_
  rintro e w1 ⟨rfl, rfl⟩
  go_wp2_with fail
  refine C5.out.mono ?_
  rintro e w1 ⟨rfl, rfl⟩
  go_wp2
  go_ret
  exact ⟨rfl, Below.refl _ _⟩

set_option maxRecDepth 100000 in
theorem lawNames (o : Int) (s : ByteArray) (w : World) (_ : -9223372036854775808 ≤ o) (_ : o < 9223372036854775808) (_ : s.size ≤ 140737488351232) (hT : TabN w) :
    Calls Tryd.prog 5 #[.int .i64 o, .string s] w fun e w' => e = .returned (.bool true) ∧ Below w.heap.size w w' := by
  have C0 := hid (find s w hT)
  have C1 := hid (findRef s w)
  have C2 := hid (name 1 w hT)
  rw [show nmI 1 = ⟨#[112, 111, 108, 108]⟩ from rfl] at C2
  have C3 := hid (name o w hT)
  have C4 := hid (nameRef o w)
  obtain ⟨R1, R2⟩ := fnd s 0 10
  generalize nmI o = A at C3 C4
  clear hT
  go_enter Tryd.func5, Tryd.ntmps5
  go_wp2_with fail
  refine C0.out.mono ?_
  rintro e w1 ⟨rfl, rfl⟩
  go_wp2_with fail
  refine C1.out.mono ?_
  rintro e w1 ⟨rfl, rfl⟩
  go_wp2_with fail
  refine C2.out.mono ?_
  rintro e w1 ⟨rfl, rfl⟩
  go_wp2_with fail
  refine C3.out.mono ?_
  rintro e w1 ⟨rfl, rfl⟩
  go_wp2_with fail
  refine C4.out.mono ?_
  rintro e w1 ⟨rfl, rfl⟩
  go_wp2
  go_ret
  exact ⟨rfl, Below.refl _ _⟩

/-- A number, brought to a role. -/
theorem role_of (r : Int) : ∃ k : Nat, max 0 r % 5 = (k : Int) ∧ k < 5 := by
  have h1 := Int.emod_nonneg (max 0 r) (show (5 : Int) ≠ 0 by decide)
  have h2 := Int.emod_lt_of_pos (max 0 r) (show (0 : Int) < 5 by decide)
  exact ⟨(max 0 r % 5).toNat, by omega, by omega⟩
/-- What the lesser one of two roles may, the greater one may. -/
theorem mask_sub {a b : Nat} (hab : a ≤ b) (hb : b < 5) : bits .andNot .u32 (mk (a : Int)) (mk (b : Int)) = 0 := by
  have h : (a = 0 ∨ a = 1 ∨ a = 2 ∨ a = 3 ∨ a = 4) ∧ (b = 0 ∨ b = 1 ∨ b = 2 ∨ b = 3 ∨ b = 4) := by omega
  rcases h with ⟨rfl | rfl | rfl | rfl | rfl, rfl | rfl | rfl | rfl | rfl⟩ <;> first | (exfalso; omega) | decide

set_option maxRecDepth 100000 in
theorem lawRises (r q o : Int) (w : World) (_ : -9223372036854775808 ≤ r) (_ : r < 9223372036854775808) (_ : -9223372036854775808 ≤ q) (_ : q < 9223372036854775808) (_ : -9223372036854775808 ≤ o) (_ : o < 9223372036854775808) (hT : TabM w) :
    Calls Tryd.prog 6 #[.int .i64 r, .int .i64 q, .int .i64 o] w fun e w' => e = .returned (.bool true) ∧ Below w.heap.size w w' := by
  obtain ⟨a, ha, ha5⟩ := role_of r
  obtain ⟨b, hb, hb5⟩ := role_of q
  have C0 := hid (least o w hT)
  have CA := hid (fun (x : Nat) (hx : x < 5) => allows (x : Int) o w (by omega) (by omega) hT)
  have CM := hid (fun (x : Nat) (hx : x < 5) => mask (x : Int) w (by omega) (by omega) hT)
  have C4 := hid (mask 4 w (by decide) (by decide) hT)
  rw [show mk 4 = 1023 by decide] at C4
  have KA := hid (fun (x : Nat) (hx : x < 5) => show al (x : Int) o = decide (le o ≤ (x : Int)) from decide_eq_decide.2 (by omega))
  have b1 := le_lo o
  have b2 := le_hi o
  generalize le o = B at C0 KA b1 b2
  clear hT
  go_enter Tryd.func6, Tryd.ntmps6
  go_wp2_with fail
  refine C0.out.mono ?_
  rintro e w1 ⟨rfl, rfl⟩
  go_wp2_with fail
  go_loop [19] (fun iv => ∃ i : Nat, i ≤ 5 ∧ iv = .int .i64 (i : Int)) (fun i => 5 - (intOf i).toNat)
  case atStart => exact ⟨0, by omega, rfl⟩
  case round =>
    obtain ⟨i, hi, rfl⟩ := hrel
    by_cases hlt : i < 5
    · have C := hid (CA.out i hlt)
      rw [KA.out i hlt] at C
      by_cases c : B ≤ (i : Int)
      · rw [decide_eq_true c] at C
        go_wp2_with fail
        refine C.out.mono ?_
        rintro e w1 ⟨rfl, rfl⟩
        go_wp2
        go_round
        case rel => exact ⟨i + 1, by omega, by go_num⟩
        case measure => simp [intOf] <;> omega
      · rw [decide_eq_false c] at C
        go_wp2_with fail
        refine C.out.mono ?_
        rintro e w1 ⟨rfl, rfl⟩
        go_wp2
        go_round
        case rel => exact ⟨i + 1, by omega, by go_num⟩
        case measure => simp [intOf] <;> omega
    · obtain rfl : i = 5 := by omega
      have CA' := hid (CM.out a ha5)
      have CB' := hid (CM.out b hb5)
      by_cases hab : b < a
      · have MS := mask_sub (a := b) (b := a) (by omega) ha5
        have hab' : (b : Int) < (a : Int) := by omega
        generalize mk (a : Int) = MA at CA' MS
        generalize mk (b : Int) = MB at CB' MS
        go_wp2_with fail
        refine C4.out.mono ?_
        rintro e w1 ⟨rfl, rfl⟩
        go_wp2_with fail
        refine CB'.out.mono ?_
        rintro e w1 ⟨rfl, rfl⟩
        go_wp2_with fail
        refine CA'.out.mono ?_
        rintro e w1 ⟨rfl, rfl⟩
        go_wp2
        go_ret
        exact ⟨rfl, Below.refl _ _⟩
      · have MS := mask_sub (a := a) (b := b) (by omega) hb5
        have hab' : ¬ (b : Int) < (a : Int) := by omega
        generalize mk (a : Int) = MA at CA' MS
        generalize mk (b : Int) = MB at CB' MS
        go_wp2_with fail
        refine C4.out.mono ?_
        rintro e w1 ⟨rfl, rfl⟩
        go_wp2_with fail
        refine CA'.out.mono ?_
        rintro e w1 ⟨rfl, rfl⟩
        go_wp2_with fail
        refine CB'.out.mono ?_
        rintro e w1 ⟨rfl, rfl⟩
        go_wp2
        go_ret
        exact ⟨rfl, Below.refl _ _⟩

end Go.Proofs.YtiiaceknhaimeaaDoor.Wrl
