/-
  The walk of the law ReadyOrders: it returns true, and nothing that was in memory has turned. Conditions: the masks and numbers are such as fit their kinds.
-/
import Derived.Test.YtcojpajmeacpiaaDoorRyP
namespace Go.Proofs.YtcojpajmeacpiaaDoor.Wry
open Go.ChangeShapes Go.WideShapes Go.ChangeAt Go.RowKit Go.Shelf Go.Proofs.YtcojpajmeacpiaaDoor.M

set_option maxRecDepth 100000 in
set_option maxHeartbeats 12800000 in
theorem orders (a : Option Addr) (cap : Nat) (M : List Nat) (w : World) (hM : MOk M) (_ : M.length ≤ cap) (_ : cap ≤ maxLen) (h : Ms w a M) (hT : Tab w) :
    Calls Tryd.prog 3 #[.slice a M.length cap] w fun e w' => e = .returned (.bool true) ∧ Below w.heap.size w w' := by
  have hT0 := hT.lt
  have HM := hid h
  have HT := hid hT
  have HW := hid (wakes hT)
  have hol := od_len M
  have hdl := dps_len M
  have hnl := nn_le M
  clear h hT
  go_enter Tryd.func3, Tryd.ntmps3
  go_wp2_with fail
  refine HW.out.mono ?_
  rintro e w1 ⟨rfl, b1⟩
  have B1 := hid b1
  clear b1 HW
  go_wp2_with fail
  refine (order (HM.out.below B1.out) hM (HT.out.below hT0 B1.out)).mono ?_
  rintro e w2 ⟨v, rfl, own, b2⟩
  obtain ⟨a2, c2, rfl, I2⟩ := own_nI own
  have HI2 := hid I2
  have B2 := hid (B1.out.trans (b2.mono B1.out.size))
  clear own I2 b2 B1
  go_wp2_with fail
  refine (orderR (HM.out.below B2.out) hM).mono ?_
  rintro e w3 ⟨v, rfl, own, b3⟩
  obtain ⟨a3, c3, rfl, I3⟩ := own_nI own
  have HI3 := hid I3
  have HI2' := hid (HI2.out.below b3)
  have B3 := hid (B2.out.trans (b3.mono B2.out.size))
  clear own I3 b3 B2 HI2
  go_wp2_with fail
  refine (equalN HI2'.out HI3.out (List.length_map _) (List.length_map _) (by omega) (by omega)).mono ?_
  rintro e w4 ⟨rfl, b4⟩
  rw [dec_true]
  have B4 := hid (B3.out.trans (b4.mono B3.out.size))
  clear b4 B3 HI2' HI3
  go_wp2_with fail
  refine (depths (HM.out.below B4.out) hM (HT.out.below hT0 B4.out)).mono ?_
  rintro e w5 ⟨⟨H, rfl, I5⟩, b5⟩
  have HI5 := hid I5
  have B5 := hid (B4.out.trans (b5.mono B4.out.size))
  clear I5 b5 B4
  go_wp2_with fail
  refine (depthsR (HM.out.below B5.out) hM).mono ?_
  rintro e w6 ⟨⟨H', rfl, I6⟩, b6⟩
  have HI6 := hid I6
  have HI5' := hid (HI5.out.below b6)
  have B6 := hid (B5.out.trans (b6.mono B5.out.size))
  clear I6 b6 B5 HI5
  go_wp2_with fail
  have C := hid (equalN (c := nn M) (d := nn M) HI5'.out HI6.out hdl hdl (by omega) (by omega))
  refine C.out.mono ?_
  rintro e w7 ⟨rfl, b7⟩
  rw [dec_true]
  have B7 := hid (B6.out.trans (b7.mono B6.out.size))
  clear b7 B6 HI5' HI6 C
  go_wp2_with fail
  go_ret
  exact ⟨rfl, B7.out⟩

end Go.Proofs.YtcojpajmeacpiaaDoor.Wry
