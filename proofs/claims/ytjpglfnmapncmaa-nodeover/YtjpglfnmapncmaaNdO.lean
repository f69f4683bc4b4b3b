/-
  The walk of the law NodeOver: it returns true, and nothing that was in memory has turned. Conditions: the numbers fit their kinds.
-/
import Derived.Test.YtjpglfnmapncmaaNdK
namespace Go.Proofs.Ytjpglfnmapncmaa.Wnd
open Go.ChangeShapes Go.WideShapes Go.ChangeAt Go.RowKit Go.Proofs.Ytjpglfnmapncmaa.M Go.Proofs.Ytjpglfnmapncmaa.Wnv

set_option maxRecDepth 100000 in
set_option maxHeartbeats 1600000 in
theorem overs (s : NS) (x : As) (w : World) (hs : s.Ok) (hx : x.Ok) : Calls Try.prog 7 #[.agg #[.int .i64 s.p, .int .i64 s.t, .int .i64 s.u, .int .i64 s.a], .agg #[.int .i64 x.n, .int .i64 x.l, .int .i64 x.y, .int .i64 x.z, .bool x.ok]] w fun e w' => e = .returned (.bool true) ∧ Below w.heap.size w w' := by
  have K0 := Kq.start w s x 23 25
  obtain ⟨p, t, u, a⟩ := s
  obtain ⟨n, l, y, z, ok⟩ := x
  obtain ⟨hp, ht, hu, ha⟩ := hs
  obtain ⟨hn, hl, hy, hz⟩ := hx
  have CO := fun w => over p t u a w
  by_cases co : 4 ≤ p ∧ p ≤ 6
  · rw [decide_eq_true co] at CO
    have CW := fun w => wake p t u a n l ok w hn hl
    have CS := fun w => skip p t u a n w
    have CL := fun w => lease p t u a n l w hn hl ht
    have CF := fun w => finish p t u a n t z ok w
    have CA := fun w => answer p t u a n ok w
    have CE := fun w => expire p t u a n z w
    rw [show wkE ⟨p, t, u, a⟩ = 36 from if_neg (by show ¬ p = 0; omega)] at CW CS
    rw [show lsE ⟨p, t, u, a⟩ = 36 from if_neg (by show ¬ p = 1; omega)] at CL
    rw [show fiE ⟨p, t, u, a⟩ n t = 36 from if_neg fun h => by have : p = 2 := h.1; omega] at CF
    rw [show anE ⟨p, t, u, a⟩ n = 36 from if_neg fun h => by have : p = 3 := h.1; omega] at CA
    rw [show exB ⟨p, t, u, a⟩ n = false from decide_eq_false fun h => by rcases h.2 with (h : p = 2) | (h : p = 3) <;> omega] at CE
    have EX : ex ⟨p, t, u, a⟩ n z = ⟨p, t, u, a⟩ := by
      unfold ex
      rw [if_neg (show ¬ p = 2 by omega), if_neg (show ¬ p = 3 by omega), ite_self]
    rw [EX] at CE
    clear EX hn hl hy hz hp ht hu ha co
    go_enter Try.func7, Try.ntmps7
    go_wp2_with fail
    refine (made p t u a _).mono ?_
    rintro e w1 ⟨rfl, b1⟩
    have K1 := K0.call b1
    have A1 := Cel.new w1 p t u a 28
    clear b1
    go_wp2_with fail
    refine (wakes _).mono ?_
    rintro e w2 ⟨rfl, b2⟩
    have K2 := (K1.al _).call b2
    have A2 := A1.call b2
    obtain ⟨s0, s1, s2, s3, sf, sl⟩ := K2.s.cells
    obtain ⟨x0, x1, x2, x3, x4, xl⟩ := K2.x.cells
    obtain ⟨v0, v1, v2, v3, vf, vl⟩ := A2.cells
    clear b2 K1 A1
    go_wp2_with fail
    refine (CO _).mono ?_
    rintro e w3 ⟨rfl, b3⟩
    clear s0 s1 s2 s3 sf sl x0 x1 x2 x3 x4 xl v0 v1 v2 v3 vf vl
    have K3 := (K2).call b3
    have A3 := (A2).call b3
    obtain ⟨s0, s1, s2, s3, sf, sl⟩ := K3.s.cells
    obtain ⟨x0, x1, x2, x3, x4, xl⟩ := K3.x.cells
    obtain ⟨v0, v1, v2, v3, vf, vl⟩ := A3.cells
    clear b3 K2 A2
    go_wp2_with fail
    refine (CW _).mono ?_
    rintro e w4 ⟨rfl, b4⟩
    clear s0 s1 s2 s3 sf sl x0 x1 x2 x3 x4 xl v0 v1 v2 v3 vf vl
    have K4 := (K3).call b4
    have A4 := (A3).call b4
    obtain ⟨s0, s1, s2, s3, sf, sl⟩ := K4.s.cells
    obtain ⟨x0, x1, x2, x3, x4, xl⟩ := K4.x.cells
    obtain ⟨v0, v1, v2, v3, vf, vl⟩ := A4.cells
    clear b4 K3 A3
    go_wp2_with fail
    refine (CS _).mono ?_
    rintro e w5 ⟨rfl, b5⟩
    clear s0 s1 s2 s3 sf sl x0 x1 x2 x3 x4 xl v0 v1 v2 v3 vf vl
    have K5 := (K4.al _).call b5
    have A5 := (A4.al _).call b5
    obtain ⟨s0, s1, s2, s3, sf, sl⟩ := K5.s.cells
    obtain ⟨x0, x1, x2, x3, x4, xl⟩ := K5.x.cells
    obtain ⟨v0, v1, v2, v3, vf, vl⟩ := A5.cells
    clear b5 K4 A4
    go_wp2_with fail
    refine (CL _).mono ?_
    rintro e w6 ⟨rfl, b6⟩
    clear s0 s1 s2 s3 sf sl x0 x1 x2 x3 x4 xl v0 v1 v2 v3 vf vl
    have K6 := (K5.al _).call b6
    have A6 := (A5.al _).call b6
    obtain ⟨s0, s1, s2, s3, sf, sl⟩ := K6.s.cells
    obtain ⟨x0, x1, x2, x3, x4, xl⟩ := K6.x.cells
    obtain ⟨v0, v1, v2, v3, vf, vl⟩ := A6.cells
    clear b6 K5 A5
    go_wp2_with fail
    refine (CF _).mono ?_
    rintro e w7 ⟨rfl, b7⟩
    clear s0 s1 s2 s3 sf sl x0 x1 x2 x3 x4 xl v0 v1 v2 v3 vf vl
    have K7 := (K6.al _).call b7
    have A7 := (A6.al _).call b7
    obtain ⟨s0, s1, s2, s3, sf, sl⟩ := K7.s.cells
    obtain ⟨x0, x1, x2, x3, x4, xl⟩ := K7.x.cells
    obtain ⟨v0, v1, v2, v3, vf, vl⟩ := A7.cells
    clear b7 K6 A6
    go_wp2_with fail
    refine (CA _).mono ?_
    rintro e w8 ⟨rfl, b8⟩
    clear s0 s1 s2 s3 sf sl x0 x1 x2 x3 x4 xl v0 v1 v2 v3 vf vl
    have K8 := (K7.al _).call b8
    have A8 := (A7.al _).call b8
    obtain ⟨s0, s1, s2, s3, sf, sl⟩ := K8.s.cells
    obtain ⟨x0, x1, x2, x3, x4, xl⟩ := K8.x.cells
    obtain ⟨v0, v1, v2, v3, vf, vl⟩ := A8.cells
    clear b8 K7 A7
    go_wp2_with fail
    refine (CE _).mono ?_
    rintro e w9 ⟨rfl, b9⟩
    clear s0 s1 s2 s3 sf sl x0 x1 x2 x3 x4 xl v0 v1 v2 v3 vf vl
    have K9 := (K8.al _).call b9
    have A9 := (A8.al _).call b9
    obtain ⟨s0, s1, s2, s3, sf, sl⟩ := K9.s.cells
    obtain ⟨x0, x1, x2, x3, x4, xl⟩ := K9.x.cells
    obtain ⟨v0, v1, v2, v3, vf, vl⟩ := A9.cells
    clear b9 K8 A8
    go_wp2
    go_ret
    exact ⟨by simp, (K9.al _).b⟩
  · rw [decide_eq_false co] at CO
    clear co
    go_enter Try.func7, Try.ntmps7
    go_wp2_with fail
    refine (made p t u a _).mono ?_
    rintro e w1 ⟨rfl, b1⟩
    have K1 := K0.call b1
    have A1 := Cel.new w1 p t u a 28
    clear b1
    go_wp2_with fail
    refine (wakes _).mono ?_
    rintro e w2 ⟨rfl, b2⟩
    have K2 := (K1.al _).call b2
    have A2 := A1.call b2
    obtain ⟨s0, s1, s2, s3, sf, sl⟩ := K2.s.cells
    obtain ⟨x0, x1, x2, x3, x4, xl⟩ := K2.x.cells
    obtain ⟨v0, v1, v2, v3, vf, vl⟩ := A2.cells
    clear b2 K1 A1
    go_wp2_with fail
    refine (CO _).mono ?_
    rintro e w3 ⟨rfl, b3⟩
    clear s0 s1 s2 s3 sf sl x0 x1 x2 x3 x4 xl v0 v1 v2 v3 vf vl
    have K3 := (K2).call b3
    have A3 := (A2).call b3
    obtain ⟨s0, s1, s2, s3, sf, sl⟩ := K3.s.cells
    obtain ⟨x0, x1, x2, x3, x4, xl⟩ := K3.x.cells
    obtain ⟨v0, v1, v2, v3, vf, vl⟩ := A3.cells
    clear b3 K2 A2
    go_wp2_with fail
    refine (wakes _).mono ?_
    rintro e w4 ⟨rfl, b4⟩
    have K4 := K3.call b4
    go_wp2
    go_ret
    exact ⟨rfl, K4.b⟩
end Go.Proofs.Ytjpglfnmapncmaa.Wnd
