/-
  The walk of the law NodeSteps: it returns true, and nothing that was in memory has turned. Conditions: the numbers fit their kinds.
-/
import Derived.Test.YtjpglfnmapncmaaNdRs
namespace Go.Proofs.Ytjpglfnmapncmaa.Wnd
open Go.ChangeShapes Go.WideShapes Go.ChangeAt Go.RowKit Go.Proofs.Ytjpglfnmapncmaa.M Go.Proofs.Ytjpglfnmapncmaa.Wnv

/-- All that the law has in memory: its arguments, the program's state and the document's, what a step made of each. -/
structure Kw (W w : World) (SB XB A B C D : Nat) (s : NS) (x : As) (c d : NS) : Prop where
  k : Kq W w SB XB s x
  a : Cel w A s.p s.t s.u s.a
  b : Cel w B s.p s.t s.u s.a
  c : Cel w C c.p c.t c.u c.a
  d : Cel w D d.p d.t d.u d.a
  n : (C ≠ SB ∧ C ≠ XB ∧ C ≠ A ∧ C ≠ B ∧ C ≠ D) ∧ D ≠ SB ∧ D ≠ XB ∧ D ≠ A ∧ D ≠ B ∧ D ≠ C
  l : W.heap.size ≤ C ∧ W.heap.size ≤ D
theorem Kw.call {W w w' : World} {SB XB A B C D : Nat} {s : NS} {x : As} {c d : NS} (h : Kw W w SB XB A B C D s x c d) (b : Below w.heap.size w w') : Kw W w' SB XB A B C D s x c d := ⟨h.k.call b, h.a.call b, h.b.call b, h.c.call b, h.d.call b, h.n, h.l⟩
theorem Kw.putC {W w : World} {SB XB A B C D : Nat} {s : NS} {x : As} {c d : NS} (h : Kw W w SB XB A B C D s x c d) (e : NS) : Kw W ((((w.setCell ⟨C, 0, none⟩ (.int .i64 e.p)).setCell ⟨C, 1, none⟩ (.int .i64 e.t)).setCell ⟨C, 2, none⟩ (.int .i64 e.u)).setCell ⟨C, 3, none⟩ (.int .i64 e.a)) SB XB A B C D s x e d :=
  ⟨h.k.put h.n.1.1 h.n.1.2.1 h.l.1 _ _ _ _, h.a.away h.n.1.2.2.1 _ _ _ _, h.b.away h.n.1.2.2.2.1 _ _ _ _, h.c.put _ _ _ _, h.d.away h.n.1.2.2.2.2 _ _ _ _, h.n, h.l⟩
theorem Kw.putD {W w : World} {SB XB A B C D : Nat} {s : NS} {x : As} {c d : NS} (h : Kw W w SB XB A B C D s x c d) (e : NS) : Kw W ((((w.setCell ⟨D, 0, none⟩ (.int .i64 e.p)).setCell ⟨D, 1, none⟩ (.int .i64 e.t)).setCell ⟨D, 2, none⟩ (.int .i64 e.u)).setCell ⟨D, 3, none⟩ (.int .i64 e.a)) SB XB A B C D s x c e :=
  ⟨h.k.put h.n.2.1 h.n.2.2.1 h.l.2 _ _ _ _, h.a.away h.n.2.2.2.1 _ _ _ _, h.b.away h.n.2.2.2.2.1 _ _ _ _, h.c.away h.n.2.2.2.2.2 _ _ _ _, h.d.put _ _ _ _, h.n, h.l⟩

set_option maxRecDepth 100000 in
set_option maxHeartbeats 6400000 in
theorem steps (s : NS) (x : As) (w : World) (hs : s.Ok) (hx : x.Ok) : Calls Try.prog 3 #[.agg #[.int .i64 s.p, .int .i64 s.t, .int .i64 s.u, .int .i64 s.a], .agg #[.int .i64 x.n, .int .i64 x.l, .int .i64 x.y, .int .i64 x.z, .bool x.ok]] w fun e w' => e = .returned (.bool true) ∧ Below w.heap.size w w' := by
  have K := Kq.start w s x 23 25
  obtain ⟨p, t, u, a⟩ := s
  obtain ⟨n, l, y, z, ok⟩ := x
  obtain ⟨hp, ht, hu, ha⟩ := hs
  obtain ⟨hn, hl, hy, hz⟩ := hx
  obtain ⟨R1, E1, P1, Q1⟩ : ∃ (R : NS) (E : Int), (∀ w, Calls Try.prog 9 #[.agg #[.int .i64 p, .int .i64 t, .int .i64 u, .int .i64 a], .int .i64 n, .int .i64 l, .bool ok] w fun e w' => e = .returned (.tuple #[.agg #[.int .i64 R.p, .int .i64 R.t, .int .i64 R.u, .int .i64 R.a], .int .i64 E]) ∧ Below w.heap.size w w') ∧ (∀ w, Calls Try.prog 10 #[.agg #[.int .i64 p, .int .i64 t, .int .i64 u, .int .i64 a], .int .i64 n, .int .i64 l, .bool ok] w fun e w' => e = .returned (.tuple #[.agg #[.int .i64 R.p, .int .i64 R.t, .int .i64 R.u, .int .i64 R.a], .int .i64 E]) ∧ Below w.heap.size w w') :=
    ⟨wk ⟨p, t, u, a⟩ n l ok, wkE ⟨p, t, u, a⟩, fun w => wake p t u a n l ok w hn hl, fun w => wakeR p t u a n l ok w hn hl⟩
  obtain ⟨R2, E2, P2, Q2⟩ : ∃ (R : NS) (E : Int), (∀ w, Calls Try.prog 15 #[.agg #[.int .i64 p, .int .i64 t, .int .i64 u, .int .i64 a], .int .i64 n] w fun e w' => e = .returned (.tuple #[.agg #[.int .i64 R.p, .int .i64 R.t, .int .i64 R.u, .int .i64 R.a], .int .i64 E]) ∧ Below w.heap.size w w') ∧ (∀ w, Calls Try.prog 16 #[.agg #[.int .i64 p, .int .i64 t, .int .i64 u, .int .i64 a], .int .i64 n] w fun e w' => e = .returned (.tuple #[.agg #[.int .i64 R.p, .int .i64 R.t, .int .i64 R.u, .int .i64 R.a], .int .i64 E]) ∧ Below w.heap.size w w') :=
    ⟨sk ⟨p, t, u, a⟩ n, wkE ⟨p, t, u, a⟩, fun w => skip p t u a n w , fun w => skipR p t u a n w ⟩
  obtain ⟨R3, E3, P3, Q3⟩ : ∃ (R : NS) (E : Int), (∀ w, Calls Try.prog 17 #[.agg #[.int .i64 p, .int .i64 t, .int .i64 u, .int .i64 a], .int .i64 n, .int .i64 l] w fun e w' => e = .returned (.tuple #[.agg #[.int .i64 R.p, .int .i64 R.t, .int .i64 R.u, .int .i64 R.a], .int .i64 E]) ∧ Below w.heap.size w w') ∧ (∀ w, Calls Try.prog 18 #[.agg #[.int .i64 p, .int .i64 t, .int .i64 u, .int .i64 a], .int .i64 n, .int .i64 l] w fun e w' => e = .returned (.tuple #[.agg #[.int .i64 R.p, .int .i64 R.t, .int .i64 R.u, .int .i64 R.a], .int .i64 E]) ∧ Below w.heap.size w w') :=
    ⟨ls ⟨p, t, u, a⟩ n l, lsE ⟨p, t, u, a⟩, fun w => lease p t u a n l w hn hl ht, fun w => leaseR p t u a n l w hn hl ht⟩
  obtain ⟨R4, E4, P4, Q4⟩ : ∃ (R : NS) (E : Int), (∀ w, Calls Try.prog 19 #[.agg #[.int .i64 p, .int .i64 t, .int .i64 u, .int .i64 a], .int .i64 n, .bool ok] w fun e w' => e = .returned (.tuple #[.agg #[.int .i64 R.p, .int .i64 R.t, .int .i64 R.u, .int .i64 R.a], .int .i64 E]) ∧ Below w.heap.size w w') ∧ (∀ w, Calls Try.prog 20 #[.agg #[.int .i64 p, .int .i64 t, .int .i64 u, .int .i64 a], .int .i64 n, .bool ok] w fun e w' => e = .returned (.tuple #[.agg #[.int .i64 R.p, .int .i64 R.t, .int .i64 R.u, .int .i64 R.a], .int .i64 E]) ∧ Below w.heap.size w w') :=
    ⟨an ⟨p, t, u, a⟩ n ok, anE ⟨p, t, u, a⟩ n, fun w => answer p t u a n ok w , fun w => answerR p t u a n ok w ⟩
  obtain ⟨p1, t1, u1, a1⟩ := R1
  obtain ⟨p2, t2, u2, a2⟩ := R2
  obtain ⟨p3, t3, u3, a3⟩ := R3
  obtain ⟨p4, t4, u4, a4⟩ := R4
  clear hp ht hu ha hn hl hy hz
  go_enter Try.func3, Try.ntmps3
  go_wp2_with fail
  refine r1S (W0 := w) K ?_
  intro A B w0 K0 CA CB
  dsimp only
  clear K
  obtain ⟨x0, x1, x2, x3, x4, xl⟩ := Cex.cells K0.x
  obtain ⟨k0, k1, k2, k3, kf, kl⟩ := Cel.cells CA
  go_wp2_with fail
  refine (P1 _).mono ?_
  rintro e w1 ⟨rfl, h1⟩
  clear x0 x1 x2 x3 x4 xl k0 k1 k2 k3 kf kl
  replace K0 := K0.call h1
  replace CA := CA.call h1
  replace CB := CB.call h1
  clear h1
  have CC := Cel.new w1 p1 t1 u1 a1 28
  have N1 := Nat.ne_of_gt K0.s.lt
  have N2 := Nat.ne_of_gt K0.x.lt
  have N3 := Nat.ne_of_gt CA.lt
  have N4 := Nat.ne_of_gt CB.lt
  have L1 := K0.b.size
  obtain ⟨x0, x1, x2, x3, x4, xl⟩ := Cex.cells K0.x
  obtain ⟨b0, b1, b2, b3, bf, bl⟩ := Cel.cells CB
  go_wp2_with fail
  refine (Q1 _).mono ?_
  rintro e w2 ⟨rfl, h2⟩
  clear x0 x1 x2 x3 x4 xl b0 b1 b2 b3 bf bl
  replace K0 := (K0.al _).call h2
  replace CA := (CA.al _).call h2
  replace CB := (CB.al _).call h2
  replace CC := CC.call h2
  clear h2
  generalize w1.heap.size = C at *
  have CD := Cel.new w2 p1 t1 u1 a1 30
  have K : Kw w (w2.alloc (.cells #[.int .i64 p1, .int .i64 t1, .int .i64 u1, .int .i64 a1] 30)) w.heap.size (w.heap.size + 1) A B C w2.heap.size ⟨p, t, u, a⟩ ⟨n, l, y, z, ok⟩ ⟨p1, t1, u1, a1⟩ ⟨p1, t1, u1, a1⟩ :=
    ⟨K0.al _, CA.al _, CB.al _, CC.al _, CD, ⟨⟨N1, N2, N3, N4, Nat.ne_of_lt CC.lt⟩, Nat.ne_of_gt K0.s.lt, Nat.ne_of_gt K0.x.lt, Nat.ne_of_gt CA.lt, Nat.ne_of_gt CB.lt, Nat.ne_of_gt CC.lt⟩, L1, K0.b.size⟩
  clear K0 CA CB CC CD N1 N2 N3 N4 L1
  go_wp2_with fail
  generalize w2.alloc (.cells #[.int .i64 p1, .int .i64 t1, .int .i64 u1, .int .i64 a1] 30) = wd at *
  generalize w2.heap.size = D at *
  refine r4S (W0 := wd) (q := p1) (r := t1) (v := u1) (b := a1) ⟨K.a, K.b, K.c, K.d, Below.refl _ _⟩ ?_
  intro wf hf
  dsimp only
  replace K := K.call hf
  clear hf
  obtain ⟨⟨N1, N2, N3, N4, N5⟩, N6, N7, N8, N9, N10⟩ := K.n
  obtain ⟨x0, x1, x2, x3, x4, xl⟩ := Cex.cells K.k.x
  obtain ⟨k0, k1, k2, k3, kf, kl⟩ := Cel.cells K.a
  obtain ⟨b0, b1, b2, b3, bf, bl⟩ := Cel.cells K.b
  obtain ⟨c0, c1, c2, c3, cf, cl⟩ := Cel.cells K.c
  obtain ⟨d0, d1, d2, d3, df, dl⟩ := Cel.cells K.d
  go_wp2_with fail
  refine (P2 _).mono ?_
  rintro e w1 ⟨rfl, h1⟩
  clear x0 x1 x2 x3 x4 xl k0 k1 k2 k3 kf kl b0 b1 b2 b3 bf bl c0 c1 c2 c3 cf cl d0 d1 d2 d3 df dl
  replace K := K.call h1
  clear h1
  obtain ⟨x0, x1, x2, x3, x4, xl⟩ := Cex.cells K.k.x
  obtain ⟨k0, k1, k2, k3, kf, kl⟩ := Cel.cells K.a
  obtain ⟨b0, b1, b2, b3, bf, bl⟩ := Cel.cells K.b
  obtain ⟨c0, c1, c2, c3, cf, cl⟩ := Cel.cells K.c
  obtain ⟨d0, d1, d2, d3, df, dl⟩ := Cel.cells K.d
  go_wp2_with fail
  refine (Q2 _).mono ?_
  rintro e w2 ⟨rfl, h2⟩
  clear x0 x1 x2 x3 x4 xl k0 k1 k2 k3 kf kl b0 b1 b2 b3 bf bl c0 c1 c2 c3 cf cl d0 d1 d2 d3 df dl
  replace K := (K.putC ⟨p2, t2, u2, a2⟩).call h2
  clear h2
  obtain ⟨x0, x1, x2, x3, x4, xl⟩ := Cex.cells K.k.x
  obtain ⟨k0, k1, k2, k3, kf, kl⟩ := Cel.cells K.a
  obtain ⟨b0, b1, b2, b3, bf, bl⟩ := Cel.cells K.b
  obtain ⟨c0, c1, c2, c3, cf, cl⟩ := Cel.cells K.c
  obtain ⟨d0, d1, d2, d3, df, dl⟩ := Cel.cells K.d
  go_wp2_with fail
  refine (is_ p2 t2 u2 a2 _).mono ?_
  rintro e w3 ⟨rfl, h3⟩
  clear x0 x1 x2 x3 x4 xl k0 k1 k2 k3 kf kl b0 b1 b2 b3 bf bl c0 c1 c2 c3 cf cl d0 d1 d2 d3 df dl
  replace K := (K.putD ⟨p2, t2, u2, a2⟩).call h3
  clear h3
  obtain ⟨x0, x1, x2, x3, x4, xl⟩ := Cex.cells K.k.x
  obtain ⟨k0, k1, k2, k3, kf, kl⟩ := Cel.cells K.a
  obtain ⟨b0, b1, b2, b3, bf, bl⟩ := Cel.cells K.b
  obtain ⟨c0, c1, c2, c3, cf, cl⟩ := Cel.cells K.c
  obtain ⟨d0, d1, d2, d3, df, dl⟩ := Cel.cells K.d
  go_wp2_with fail
  refine (P3 _).mono ?_
  rintro e w1 ⟨rfl, h1⟩
  clear x0 x1 x2 x3 x4 xl k0 k1 k2 k3 kf kl b0 b1 b2 b3 bf bl c0 c1 c2 c3 cf cl d0 d1 d2 d3 df dl
  replace K := K.call h1
  clear h1
  obtain ⟨x0, x1, x2, x3, x4, xl⟩ := Cex.cells K.k.x
  obtain ⟨k0, k1, k2, k3, kf, kl⟩ := Cel.cells K.a
  obtain ⟨b0, b1, b2, b3, bf, bl⟩ := Cel.cells K.b
  obtain ⟨c0, c1, c2, c3, cf, cl⟩ := Cel.cells K.c
  obtain ⟨d0, d1, d2, d3, df, dl⟩ := Cel.cells K.d
  go_wp2_with fail
  refine (Q3 _).mono ?_
  rintro e w2 ⟨rfl, h2⟩
  clear x0 x1 x2 x3 x4 xl k0 k1 k2 k3 kf kl b0 b1 b2 b3 bf bl c0 c1 c2 c3 cf cl d0 d1 d2 d3 df dl
  replace K := (K.putC ⟨p3, t3, u3, a3⟩).call h2
  clear h2
  obtain ⟨x0, x1, x2, x3, x4, xl⟩ := Cex.cells K.k.x
  obtain ⟨k0, k1, k2, k3, kf, kl⟩ := Cel.cells K.a
  obtain ⟨b0, b1, b2, b3, bf, bl⟩ := Cel.cells K.b
  obtain ⟨c0, c1, c2, c3, cf, cl⟩ := Cel.cells K.c
  obtain ⟨d0, d1, d2, d3, df, dl⟩ := Cel.cells K.d
  go_wp2_with fail
  refine (is_ p3 t3 u3 a3 _).mono ?_
  rintro e w3 ⟨rfl, h3⟩
  clear x0 x1 x2 x3 x4 xl k0 k1 k2 k3 kf kl b0 b1 b2 b3 bf bl c0 c1 c2 c3 cf cl d0 d1 d2 d3 df dl
  replace K := (K.putD ⟨p3, t3, u3, a3⟩).call h3
  clear h3
  obtain ⟨x0, x1, x2, x3, x4, xl⟩ := Cex.cells K.k.x
  obtain ⟨k0, k1, k2, k3, kf, kl⟩ := Cel.cells K.a
  obtain ⟨b0, b1, b2, b3, bf, bl⟩ := Cel.cells K.b
  obtain ⟨c0, c1, c2, c3, cf, cl⟩ := Cel.cells K.c
  obtain ⟨d0, d1, d2, d3, df, dl⟩ := Cel.cells K.d
  go_wp2_with fail
  refine (P4 _).mono ?_
  rintro e w1 ⟨rfl, h1⟩
  clear x0 x1 x2 x3 x4 xl k0 k1 k2 k3 kf kl b0 b1 b2 b3 bf bl c0 c1 c2 c3 cf cl d0 d1 d2 d3 df dl
  replace K := K.call h1
  clear h1
  obtain ⟨x0, x1, x2, x3, x4, xl⟩ := Cex.cells K.k.x
  obtain ⟨k0, k1, k2, k3, kf, kl⟩ := Cel.cells K.a
  obtain ⟨b0, b1, b2, b3, bf, bl⟩ := Cel.cells K.b
  obtain ⟨c0, c1, c2, c3, cf, cl⟩ := Cel.cells K.c
  obtain ⟨d0, d1, d2, d3, df, dl⟩ := Cel.cells K.d
  go_wp2_with fail
  refine (Q4 _).mono ?_
  rintro e w2 ⟨rfl, h2⟩
  clear x0 x1 x2 x3 x4 xl k0 k1 k2 k3 kf kl b0 b1 b2 b3 bf bl c0 c1 c2 c3 cf cl d0 d1 d2 d3 df dl
  replace K := (K.putC ⟨p4, t4, u4, a4⟩).call h2
  clear h2
  obtain ⟨x0, x1, x2, x3, x4, xl⟩ := Cex.cells K.k.x
  obtain ⟨k0, k1, k2, k3, kf, kl⟩ := Cel.cells K.a
  obtain ⟨b0, b1, b2, b3, bf, bl⟩ := Cel.cells K.b
  obtain ⟨c0, c1, c2, c3, cf, cl⟩ := Cel.cells K.c
  obtain ⟨d0, d1, d2, d3, df, dl⟩ := Cel.cells K.d
  go_wp2_with fail
  refine (is_ p4 t4 u4 a4 _).mono ?_
  rintro e w3 ⟨rfl, h3⟩
  clear x0 x1 x2 x3 x4 xl k0 k1 k2 k3 kf kl b0 b1 b2 b3 bf bl c0 c1 c2 c3 cf cl d0 d1 d2 d3 df dl
  replace K := (K.putD ⟨p4, t4, u4, a4⟩).call h3
  clear h3
  go_wp2
  go_ret
  exact ⟨rfl, K.k.b⟩
end Go.Proofs.Ytjpglfnmapncmaa.Wnd
