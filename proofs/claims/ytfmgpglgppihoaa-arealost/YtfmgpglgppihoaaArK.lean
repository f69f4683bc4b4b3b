/-
  The walk of the law AreaJoins: it returns true, and nothing that was in memory has turned. Conditions: none but that the texts lie in memory as such do.
-/
import Derived.Test.YtfmgpglgppihoaaArJ
namespace Go.Proofs.Ytfmgpglgppihoaa.War
open Go.ChangeShapes Go.WideShapes Go.ChangeAt Go.RowKit Go.Proofs.Ytfmgpglgppihoaa.M

set_option maxRecDepth 100000 in
set_option maxHeartbeats 2000000 in
theorem joins (p : Option Addr) (n cap : Nat) (y : Nat → ByteArray) (g : Int) (w : World) (hy : ∀ i, (y i).size ≤ maxLen) (hc : n ≤ cap) (_ : cap ≤ maxLen) (hL : Lies w p n y) (_ : -9223372036854775808 ≤ g) (_ : g < 9223372036854775808) :
    Calls Try.prog 6 #[.slice p n cap, .int .i64 g] w fun e w' => e = .returned (.bool true) ∧ Below w.heap.size w w' := by
  have hmin : min (n : Int) 200 = ((min n 200 : Nat) : Int) := by omega
  obtain ⟨N, hN⟩ : ∃ N, N = min n 200 := ⟨_, rfl⟩
  rw [← hN] at hmin
  have hNn : N ≤ n := by omega
  have hN2 : N ≤ 200 := by omega
  have HL := hid (hL.take hNn)
  have HY : Hid (∀ i, i < N → (y i).size ≤ maxLen) := fun i _ => hy i
  clear hL hN hy
  have hnw := nw_range y N
  have C1 := hid fun w h => newest p N cap y w HY.out (by omega) h
  have C2 := hid fun w h => newestRef p N cap y w HY.out (by omega) h
  have C3 := hid fun g w h => join p N cap y g w HY.out (by omega) h
  have C4 := hid fun g w h => joinRef p N cap y g w HY.out (by omega) h
  generalize nw y N = W at *
  go_enter Try.func6, Try.ntmps6
  go_wp2_with fail
  refine (C1.out _ HL.out).mono ?_
  rintro e w1 ⟨rfl, b1⟩
  have L1 := hid (HL.out.below b1)
  have B1 := hid b1
  clear b1 HL
  go_wp2_with fail
  refine (wakes _).mono ?_
  rintro e w2 ⟨rfl, b2⟩
  have L2 := hid (L1.out.below b2)
  have B2 := hid (B1.out.trans (b2.mono B1.out.size))
  clear b2 L1 B1
  go_wp2_with fail
  refine (C3.out _ _ L2.out).mono ?_
  rintro e w3 ⟨rfl, b3⟩
  have L3 := hid (L2.out.below b3)
  have B3 := hid (B2.out.trans (b3.mono B2.out.size))
  clear b3 L2 B2
  go_wp2_with fail
  refine (C4.out _ _ L3.out).mono ?_
  rintro e w4 ⟨rfl, b4⟩
  have L4 := hid (L3.out.below b4)
  have B4 := hid (B3.out.trans (b4.mono B3.out.size))
  clear b4 L3 B3
  generalize jn y g 0 N = J
  go_wp2_with fail
  refine (C2.out _ L4.out).mono ?_
  rintro e w5 ⟨rfl, b5⟩
  have L5 := hid (L4.out.below b5)
  have B5 := hid (B4.out.trans (b5.mono B4.out.size))
  clear b5 L4 B4
  go_wp2_with fail
  refine (C3.out _ _ L5.out).mono ?_
  rintro e w6 ⟨rfl, b6⟩
  have L6 := hid (L5.out.below b6)
  have B6 := hid (B5.out.trans (b6.mono B5.out.size))
  clear b6 L5 B5
  go_wp2_with fail
  refine (C4.out _ _ L6.out).mono ?_
  rintro e w7 ⟨rfl, b7⟩
  have B7 := hid (B6.out.trans (b7.mono B6.out.size))
  clear b7 L6 B6
  generalize jn y W 0 N = K
  go_wp2
  go_ret
  exact ⟨rfl, B7.out⟩

end Go.Proofs.Ytfmgpglgppihoaa.War
