/-
  The walk of the law NodeExpires: it returns true, and nothing that was in memory has turned. Conditions: the numbers fit their kinds.
-/
import Derived.Test.YtjpglfnmapncmaaNdR
namespace Go.Proofs.Ytjpglfnmapncmaa.Wnd
open Go.ChangeShapes Go.WideShapes Go.ChangeAt Go.RowKit Go.Proofs.Ytjpglfnmapncmaa.M Go.Proofs.Ytjpglfnmapncmaa.Wnv

set_option maxRecDepth 100000 in
set_option maxHeartbeats 3200000 in
theorem expires (s : NS) (x : As) (w : World) (_ : s.Ok) (_ : x.Ok) : Calls Try.prog 5 #[.agg #[.int .i64 s.p, .int .i64 s.t, .int .i64 s.u, .int .i64 s.a], .agg #[.int .i64 x.n, .int .i64 x.l, .int .i64 x.y, .int .i64 x.z, .bool x.ok]] w fun e w' => e = .returned (.bool true) ∧ Below w.heap.size w w' := by
  have K0 := Kq.start w s x 23 25
  obtain ⟨p, t, u, a⟩ := s
  obtain ⟨n, l, y, z, ok⟩ := x
  go_enter Try.func5, Try.ntmps5
  go_wp2_with fail
  have T0 := Two.new ((w.alloc (.cells #[.int .i64 p, .int .i64 t, .int .i64 u, .int .i64 a] 23)).alloc (.cells #[.int .i64 n, .int .i64 l, .int .i64 y, .int .i64 z, .bool ok] 25)) n u 2
  have K1 := Kq.al K0 (.cells #[.int .i64 n, .int .i64 u] 2)
  rw [World.size_alloc, World.size_alloc] at T0
  clear K0
  generalize w.heap.size + 1 + 1 = G at *
  go_loopw [17] (fun iv wr => ∃ k : Nat, k ≤ 2 ∧ iv = .int .i64 (k : Int) ∧ Kq w wr w.heap.size (w.heap.size + 1) ⟨p, t, u, a⟩ ⟨n, l, y, z, ok⟩ ∧ Two wr G n u) (fun iv _ => 2 - (intOf iv).toNat)
  case atStart => exact ⟨0, by omega, rfl, K1, T0⟩
  case round =>
    clear K1 T0
    obtain ⟨k, hk, rfl, K, T⟩ := hrel
    by_cases hlt : k < 2
    · obtain ⟨tr, _, hc⟩ := T.at hlt
      go_wp2_with fail
      refine r4E (nw := tr) (W0 := wr) ⟨K.s, K.x, Below.refl _ _⟩ ?_
      intro A wF KF CA hlA
      dsimp only
      replace K := K.call KF.b
      replace T := T.call KF.b
      clear KF hc hlA
      obtain ⟨s0, s1, s2, s3, sf, sl⟩ := Cel.cells K.s
      obtain ⟨x0, x1, x2, x3, x4, xl⟩ := Cex.cells K.x
      go_wp2_with fail
      refine (expireR p t u a tr z _).mono ?_
      rintro e w5 ⟨rfl, b5⟩
      clear s0 s1 s2 s3 sf sl x0 x1 x2 x3 x4 xl
      replace K := K.call b5
      replace T := T.call b5
      replace CA := CA.call b5
      clear b5
      obtain ⟨v0, v1, v2, v3, vf, vl⟩ := Cel.cells CA
      clear CA
      generalize ex ⟨p, t, u, a⟩ tr z = R at *
      generalize exB ⟨p, t, u, a⟩ tr = E at *
      obtain ⟨r0, r1, r2, r3⟩ := R
      go_wp2_with fail
      refine (is_ r0 r1 r2 r3 _).mono ?_
      rintro e w6 ⟨rfl, b6⟩
      clear v0 v1 v2 v3 vf vl
      replace K := (K.al _).call b6
      replace T := (T.call ((Below.refl _ _).alloc (Nat.le_refl _) _)).call b6
      clear b6
      go_wp2_with fail
      go_roundw
      case rel => exact ⟨k + 1, by omega, by go_num, K, T⟩
      case measure => simp [intOf] <;> omega
    · obtain rfl : k = 2 := by omega
      clear hlt hk T
      go_wp2_with fail
      refine (wakes _).mono ?_
      rintro e w5 ⟨rfl, b5⟩
      replace K := K.call b5
      go_wp2
      go_ret
      exact ⟨rfl, K.b⟩
end Go.Proofs.Ytjpglfnmapncmaa.Wnd
