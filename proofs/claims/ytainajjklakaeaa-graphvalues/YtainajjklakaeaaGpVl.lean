/-
  The walk of the law GraphValues: it returns true, and nothing that was in memory has turned. Conditions: none but that the law's workflow and items lie in memory as such do.
-/
import Derived.Test.YtainajjklakaeaaGpRr
import Derived.Test.YtainajjklakaeaaGpUv
import Derived.Test.YtainajjklakaeaaGpRc
import Derived.Test.YtainajjklakaeaaGpW
import Derived.Test.YtainajjklakaeaaGpF
import Derived.Test.YtainajjklakaeaaBuild
import Derived.Test.YtainajjklakaeaaEqualR
import Derived.Deep.RegionHeld3
namespace Go.Proofs.Ytainajjklakaeaa.Wgb
open Go.ChangeShapes Go.WideShapes Go.ChangeAt Go.RowKit Go.Proofs.Ytainajjklakaeaa.M Go.Proofs.Ytainajjklakaeaa.Wgp Go.Proofs.Ytainajjklakaeaa.Wgv Go.Proofs.Ytainajjklakaeaa.Wgf Go.Proofs.Ytainajjklakaeaa.Wn

theorem hid {p : Prop} (h : p) : Hid p := h
def Its (w : World) (p : Option Addr) (n : Nat) : Prop := n = 0 ∨ ∃ gl ol, p = some ⟨gl, ol, none⟩ ∧ Items w gl ol n
theorem Its.below {w w' : World} {p : Option Addr} {n : Nat} (h : Its w p n) (hb : Below w.heap.size w w') : Its w' p n := by
  rcases h with h | ⟨gl, ol, h1, h2⟩
  · exact .inl h
  · exact .inr ⟨gl, ol, h1, h2.grown (grown_some (grown_below hb) (some (gl + 1))) (by omega)⟩
theorem read_ok {k : Int} {f : F} {nm : ByteArray} {L : List Nd} (h : rdF k f = some (nm, L)) (ho : f.ok) (hn : f.nodes ≤ 400) : k = 2 ∧ nm.size ≤ 140737488355328 ∧ L.length ≤ 400 ∧ ∀ x ∈ L, NdOk x := by
  obtain ⟨hk, n0, g0, n1, s1, l1, hf, hr⟩ := rdF_form h
  have a0 : f.at 0 = some (1, n0, nm, g0) := by rw [hf]; rfl
  have a1 : f.at 1 = some (2, n1, s1, l1) := by rw [hf]; rfl
  have hnn := F.at_nodes a1
  obtain ⟨h1, h2⟩ := rdL_ok hr (F.at_ok a1 ho).2.2.2 (by omega)
  have := F.len_nodes l1
  exact ⟨hk, (F.at_ok a0 ho).2.2.1, by omega, h1⟩
theorem vs_below {w w' : World} {a : Option Addr} {L : List Nd} (h : Vs w a L) (b : Below w.heap.size w w') : Vs w' a L := by
  refine ⟨h.1, ?_⟩
  rcases h.2 with h2 | ⟨g, off, h1, h2, h3⟩
  · exact .inl h2
  · refine .inr ⟨g, off, h1, Nat.lt_of_lt_of_le h2 b.size, fun i x hx => ?_⟩
    obtain ⟨da, dc, k1, k2⟩ := h3 i x hx
    exact ⟨da, dc, k1.below h2 b, k2.below b⟩
theorem alloc2 (w : World) (a b : Obj) : ∀ X, X = (w.alloc a).alloc b → X.heap[w.heap.size]? = some a ∧ X.heap[w.heap.size + 1]? = some b ∧ X.heap.size = w.heap.size + 2 ∧ Below w.heap.size w X := by
  intro X hX
  have y1 := heap_alloc_new w a
  have y2 := heap_alloc_new (w.alloc a) b
  rw [World.size_alloc] at y2
  subst hX
  exact ⟨by rw [Below.heap_alloc _ _ _ (by simp), y1], y2, by simp, ((Below.refl _ _).alloc (Nat.le_refl _) _).alloc (by simp) _⟩
theorem four {w : World} {b : Nat} {x0 x1 x2 x3 : Value} {T : TypeId} (h : w.heap[b]? = some (.cells #[x0, x1, x2, x3] T (0, 0))) : w.cell? ⟨b, 0, none⟩ = some x0 ∧ w.cell? ⟨b, 1, none⟩ = some x1 ∧ w.cell? ⟨b, 2, none⟩ = some x2 ∧ w.cell? ⟨b, 3, none⟩ = some x3 := by
  simp [World.cell?, h]
/-- A workflow in its variable. -/
def Bx1 (W : World) (b : Nat) (nm : ByteArray) (p : Option Addr) (n c : Nat) (T : TypeId) : Prop := W.heap[b]? = some (.cells #[.string nm, .slice p n c] T (0, 0))
theorem Bx1.cells {W W' : World} {b : Nat} {nm : ByteArray} {p : Option Addr} {n c : Nat} {T : TypeId} (h : Bx1 W b nm p n c T) (bl : Below W.heap.size W W') : W'.cell? ⟨b, 0, none⟩ = some (.string nm) ∧ W'.cell? ⟨b, 1, none⟩ = some (.slice p n c) := by
  have h2 := (bl.block b (lt_of_heap h)).trans h
  simp [World.cell?, h2]
theorem Bx1.below {W W' : World} {b : Nat} {nm : ByteArray} {p : Option Addr} {n c : Nat} {T : TypeId} (h : Bx1 W b nm p n c T) (bl : Below W.heap.size W W') : Bx1 W' b nm p n c T := (bl.block b (lt_of_heap h)).trans h

/-- What both Reads come to: a name, nodes, an error. -/
def rs (k : Int) (l : F) : ByteArray × List Nd × Int := match rdF k l with
  | some (nm, L) => (nm, L, 0)
  | none => (⟨#[]⟩, [], 4)
theorem rs_code {w' : World} {k : Int} {l : F} {e : Ending} (h : Wgr.RdP w' k l e) : ∃ p c, e = .returned (.tuple #[.agg #[.string (rs k l).1, .slice p (rs k l).2.1.length c], .int .i64 (rs k l).2.2]) ∧ Ns w' p (rs k l).2.1 := by
  rcases h with ⟨nm, L, a, h1, h2, h3⟩ | ⟨h1, h2⟩
  · unfold rs; rw [h1]; exact ⟨_, _, h2, h3⟩
  · unfold rs; rw [h1]; exact ⟨none, 0, h2, .inl rfl⟩
theorem rs_ref {w' : World} {k : Int} {l : F} {e : Ending} (h : Wgx.RrP w' k l e) : ∃ p c, e = .returned (.tuple #[.agg #[.string (rs k l).1, .slice p (rs k l).2.1.length c], .int .i64 (rs k l).2.2]) ∧ Ns w' p (rs k l).2.1 := by
  rcases h with ⟨nm, L, a, c, h1, h2, _, _, h3⟩ | ⟨h1, h2⟩
  · unfold rs; rw [h1]; exact ⟨_, _, h2, h3⟩
  · unfold rs; rw [h1]; exact ⟨none, 0, h2, .inl rfl⟩
theorem rs_ok {k : Int} {l : F} (ho : l.ok) (hn : l.nodes ≤ 400) : (rs k l).1.size ≤ 140737488355328 ∧ (rs k l).2.1.length ≤ 400 ∧ ∀ x ∈ (rs k l).2.1, NdOk x := by
  rcases e : rdF k l with _ | ⟨nm, L⟩
  · unfold rs; rw [e]
    exact ⟨by decide, by decide, fun x h => by cases h⟩
  · unfold rs; rw [e]
    exact (read_ok e ho hn).2

/-- The cells of the four variables. -/
def C8 (W : World) (b5 b6 b9 b11 : Nat) (nm : ByteArray) (v5 v6 : Value) (nm2 : ByteArray) (v9 v11 : Value) : Prop :=
  W.cell? ⟨b5, 0, none⟩ = some (.string nm) ∧ W.cell? ⟨b5, 1, none⟩ = some v5 ∧ W.cell? ⟨b6, 0, none⟩ = some (.string nm) ∧ W.cell? ⟨b6, 1, none⟩ = some v6 ∧ W.cell? ⟨b9, 0, none⟩ = some (.string nm2) ∧ W.cell? ⟨b9, 1, none⟩ = some v9 ∧ W.cell? ⟨b11, 0, none⟩ = some (.string nm2) ∧ W.cell? ⟨b11, 1, none⟩ = some v11
set_option maxRecDepth 100000 in
set_option maxHeartbeats 12800000 in
theorem valuesL (nm : ByteArray) (a : Option Addr) (L : List Nd) (c : Nat) (pl : Option Addr) (ln cl : Nat) (w : World) (hn : nm.size ≤ 140737488355328) (hc : L.length ≤ c) (hcm : c ≤ maxLen) (hV : Vs w a L) (hI : Its w pl ln) :
    Calls Try.prog 3 #[.agg #[.string nm, .slice a L.length c], .slice pl ln cl] w fun e w' => e = .returned (.bool true) ∧ Below w.heap.size w w' := by
  have A0 := hid (al w (.cells #[.string nm, .slice a L.length c] 24))
  have CF := hid (flows (c := c) nm (vs_below hV A0.out) hc hcm)
  have HO := hid (cut_ok hV.1)
  have HL := hid (cut_len L)
  have WK := hid wakes
  have HI := hid hI
  clear hV hI
  go_enter Try.func3, Try.ntmps3
  go_wp2_with fail
  refine CF.out.mono ?_
  intro e w1 h1
  unfold FlP at h1
  generalize cutL L = M at h1 HO HL
  obtain ⟨q1, q2, d1, d2, rfl, n1, n2, m1, m2, b1⟩ := h1
  have A1 := hid (A0.out.trans (b1.mono (by simp)))
  clear CF b1 A0
  go_wp2_with fail
  obtain ⟨X, hX⟩ : ∃ X, X = (w1.alloc (.cells #[.string nm, .slice q1 M.length d1] 28)).alloc (.cells #[.string nm, .slice q2 M.length d2] 31) := ⟨_, rfl⟩
  rw [← hX]
  obtain ⟨x1, x2, zX, bX⟩ := alloc2 _ _ _ X hX
  have AX := hid (A1.out.trans (bX.mono A1.out.size))
  have hl := HL.out
  have N1 := hid (n1.below bX)
  have N2 := hid (n2.below bX)
  have B5 := hid (show Bx1 X w1.heap.size nm q1 M.length d1 28 from x1)
  have B6 := hid (show Bx1 X (w1.heap.size + 1) nm q2 M.length d2 31 from x2)
  have CB := hid (build pl ln cl X (Its.below HI.out AX.out))
  clear n1 n2 hX bX x1 x2 A1 m1 m2 HI
  go_wp2_with fail
  refine CB.out.mono ?_
  rintro e w2 ⟨k, n, s, f, p1, p2, c1, c2, rfl, r1, r2, ho, hnod, b2⟩
  have A2 := hid (AX.out.trans (b2.mono AX.out.size))
  have HF := hid ho.2.2.2.1
  have N1' := hid (N1.out.below b2)
  have N2' := hid (N2.out.below b2)
  have B5' := hid (B5.out.below b2)
  have B6' := hid (B6.out.below b2)
  have R1 := hid r1
  have R2 := hid r2
  clear CB r1 r2 ho b2 N1 N2 B5 B6 AX
  go_wp2_with fail
  obtain ⟨Z, hZ⟩ : ∃ Z, Z = (w2.alloc (.cells #[.int .i64 k, .int .i64 n, .string s, .slice p1 f.len c1] 37)).alloc (.cells #[.int .i64 k, .int .i64 n, .string s, .slice p2 f.len c2] 40) := ⟨_, rfl⟩
  rw [← hZ]
  obtain ⟨z1, z2, zZ, bZ⟩ := alloc2 _ _ _ Z hZ
  have A3 := hid (A2.out.trans (bZ.mono A2.out.size))
  have N1 := hid (N1'.out.below bZ)
  have N2 := hid (N2'.out.below bZ)
  have B5 := hid (B5'.out.below bZ)
  have B6 := hid (B6'.out.below bZ)
  have RZ := hid (rd_below R1.out bZ)
  have RY := hid (rd_below R2.out bZ)
  have B8 := hid z2
  have CR := hid (Wgr.read k n s f (.slice p1 f.len c1) Z _ RZ.out HF.out (by omega))
  obtain ⟨u0, u1, u2, u3⟩ := four z1
  clear hZ z1 z2 bZ R1 R2 RZ A2 N1' N2' B5' B6'
  go_wp2_with fail
  refine CR.out.mono ?_
  rintro e w3 ⟨hT, b3⟩
  obtain ⟨p9, c9, rfl, hN9⟩ := rs_code hT
  have N9 := hid hN9
  have A4 := hid (A3.out.trans (b3.mono A3.out.size))
  have N1' := hid (N1.out.below b3)
  have N2' := hid (N2.out.below b3)
  have B5' := hid (B5.out.below b3)
  have B6' := hid (B6.out.below b3)
  have RY' := hid (rd_below RY.out b3)
  have B8' := hid ((b3.block (w2.heap.size + 1) (by omega)).trans B8.out)
  have OK := hid (rs_ok (k := k) HF.out hnod)
  clear CR b3 u0 u1 u2 u3 A3 hT hN9 N1 N2 B5 B6 RY B8
  obtain ⟨u0, u1, u2, u3⟩ := four B8'.out
  have lz : w2.heap.size + 1 < w3.heap.size := lt_of_heap B8'.out
  go_wp2_with fail
  obtain ⟨U, hU⟩ : ∃ U, U = w3.alloc (.cells #[.string (rs k f).1, .slice p9 (rs k f).2.1.length c9] 28) := ⟨_, rfl⟩
  rw [← hU]
  have bU : Below w3.heap.size w3 U := by rw [hU]; exact al w3 _
  have zU : U.heap.size = w3.heap.size + 1 := by rw [hU]; simp
  have A5 := hid (A4.out.trans (bU.mono A4.out.size))
  have N1 := hid (N1'.out.below bU)
  have N2 := hid (N2'.out.below bU)
  have B5 := hid (B5'.out.below bU)
  have B6 := hid (B6'.out.below bU)
  have N9' := hid (N9.out.below bU)
  have B9 := hid (show Bx1 U w3.heap.size (rs k f).1 p9 (rs k f).2.1.length c9 28 by rw [hU]; exact heap_alloc_new w3 _)
  have RU := hid (rd_below RY'.out bU)
  have CX := hid (Wgx.readRef k n s f (.slice p2 f.len c2) U _ RU.out HF.out (by omega))
  clear hU bU A4 N1' N2' B5' B6' N9 RU RY' B8'
  refine CX.out.mono ?_
  rintro e w4 ⟨hT, b4⟩
  obtain ⟨p11, c11, rfl, hN11⟩ := rs_ref hT
  have A6 := hid (A5.out.trans (b4.mono A5.out.size))
  have N1' := hid (N1.out.below b4)
  have N2' := hid (N2.out.below b4)
  have B5' := hid (B5.out.below b4)
  have B6' := hid (B6.out.below b4)
  have N9 := hid (N9'.out.below b4)
  have B9' := hid (B9.out.below b4)
  have N11 := hid hN11
  clear CX b4 u0 u1 u2 u3 A5 hT hN11 N1 N2 B5 B6 N9' B9
  generalize rs k f = T at *
  obtain ⟨nm2, L2, E⟩ := T
  simp only at *
  go_wp2_with fail
  obtain ⟨V, hV⟩ : ∃ V, V = w4.alloc (.cells #[.string nm2, .slice p11 L2.length c11] 31) := ⟨_, rfl⟩
  rw [← hV]
  have bV : Below w4.heap.size w4 V := by rw [hV]; exact al w4 _
  have A7 := hid (A6.out.trans (bV.mono A6.out.size))
  have N1 := hid (N1'.out.below bV)
  have N2 := hid (N2'.out.below bV)
  have B5 := hid (B5'.out.below bV)
  have B6 := hid (B6'.out.below bV)
  have N9' := hid (N9.out.below bV)
  have B9 := hid (B9'.out.below bV)
  have N11' := hid (N11.out.below bV)
  have B11 := hid (show Bx1 V w4.heap.size nm2 p11 L2.length c11 31 by rw [hV]; exact heap_alloc_new w4 _)
  clear hV bV A6 N1' N2' B5' B6' N9 B9' N11
  have KS := hid fun (W : World) (b : Below V.heap.size V W) => (show C8 W w1.heap.size (w1.heap.size + 1) w3.heap.size w4.heap.size nm (.slice q1 M.length d1) (.slice q2 M.length d2) nm2 (.slice p9 L2.length c9) (.slice p11 L2.length c11) from
    ⟨(B5.out.cells b).1, (B5.out.cells b).2, (B6.out.cells b).1, (B6.out.cells b).2, (B9.out.cells b).1, (B9.out.cells b).2, (B11.out.cells b).1, (B11.out.cells b).2⟩)
  have K1 := hid fun (W : World) (b : Below V.heap.size V W) => (WK.out W).mono fun e w' h => (⟨h.1, hid (b.trans (h.2.mono b.size)), KS.out w' (b.trans (h.2.mono b.size))⟩ : e = .returned (.bool true) ∧ Hid (Below V.heap.size V w') ∧ C8 w' w1.heap.size (w1.heap.size + 1) w3.heap.size w4.heap.size nm (.slice q1 M.length d1) (.slice q2 M.length d2) nm2 (.slice p9 L2.length c9) (.slice p11 L2.length c11))
  have K2 := hid fun (W : World) (b : Below V.heap.size V W) => (Wgu.value (cap := d1) nm hn (N1.out.below b) (by omega) HO.out).mono fun e w' h => (by
    obtain ⟨p, c, h1, h2, h3⟩ := h
    exact ⟨p, c, h1, hid h2, hid h3, hid (b.trans (h3.mono b.size)), KS.out w' (b.trans (h3.mono b.size))⟩ : ∃ p c, e = .returned (.agg #[.int .i64 2, .int .i64 0, .string ⟨#[]⟩, .slice p 2 c]) ∧ Hid (Rd w' (fun g => W.heap.size ≤ g) (.slice p 2 c) (flowF nm M)) ∧ Hid (Below W.heap.size W w') ∧ Hid (Below V.heap.size V w') ∧ C8 w' w1.heap.size (w1.heap.size + 1) w3.heap.size w4.heap.size nm (.slice q1 M.length d1) (.slice q2 M.length d2) nm2 (.slice p9 L2.length c9) (.slice p11 L2.length c11))
  have K3 := hid fun (W : World) (b : Below V.heap.size V W) => (Wgx.value (cap := d2) nm (N2.out.below b) (by omega) HO.out).mono fun e w' h => (by
    obtain ⟨p, c, h1, h2, h3⟩ := h
    exact ⟨p, c, h1, hid h2, hid h3, hid (b.trans (h3.mono b.size)), KS.out w' (b.trans (h3.mono b.size))⟩ : ∃ p c, e = .returned (.agg #[.int .i64 2, .int .i64 0, .string ⟨#[]⟩, .slice p 2 c]) ∧ Hid (Rd w' (fun g => W.heap.size ≤ g) (.slice p 2 c) (flowF nm M)) ∧ Hid (Below W.heap.size W w') ∧ Hid (Below V.heap.size V w') ∧ C8 w' w1.heap.size (w1.heap.size + 1) w3.heap.size w4.heap.size nm (.slice q1 M.length d1) (.slice q2 M.length d2) nm2 (.slice p9 L2.length c9) (.slice p11 L2.length c11))
  have K4 := hid fun (nmx : ByteArray) (Lx : List Nd) (W : World) (b : Below V.heap.size V W) (p p' : Option Addr) (c c' : Nat) (A A' : Nat → Prop) (h1 : Rd W A (.slice p 2 c) (flowF nmx Lx)) (h2 : Rd W A' (.slice p' 2 c') (flowF nmx Lx)) => (We.same ((flowF nmx Lx).nodes + 1) 2 0 ⟨#[]⟩ (flowF nmx Lx) (.slice p 2 c) (.slice p' 2 c') W A A' (Nat.lt_succ_self _) h1 h2).mono fun e w' h => (⟨h.1, hid (b.trans (h.2.mono b.size)), KS.out w' (b.trans (h.2.mono b.size))⟩ : e = .returned (.bool true) ∧ Hid (Below V.heap.size V w') ∧ C8 w' w1.heap.size (w1.heap.size + 1) w3.heap.size w4.heap.size nm (.slice q1 M.length d1) (.slice q2 M.length d2) nm2 (.slice p9 L2.length c9) (.slice p11 L2.length c11))
  have K5 := hid fun (W : World) (b : Below V.heap.size V W) => (Wgu.value (cap := c9) nm2 OK.out.1 (N9'.out.below b) OK.out.2.1 OK.out.2.2).mono fun e w' h => (by
    obtain ⟨p, c, h1, h2, h3⟩ := h
    exact ⟨p, c, h1, hid h2, hid h3, hid (b.trans (h3.mono b.size)), KS.out w' (b.trans (h3.mono b.size))⟩ : ∃ p c, e = .returned (.agg #[.int .i64 2, .int .i64 0, .string ⟨#[]⟩, .slice p 2 c]) ∧ Hid (Rd w' (fun g => W.heap.size ≤ g) (.slice p 2 c) (flowF nm2 L2)) ∧ Hid (Below W.heap.size W w') ∧ Hid (Below V.heap.size V w') ∧ C8 w' w1.heap.size (w1.heap.size + 1) w3.heap.size w4.heap.size nm (.slice q1 M.length d1) (.slice q2 M.length d2) nm2 (.slice p9 L2.length c9) (.slice p11 L2.length c11))
  have K6 := hid fun (W : World) (b : Below V.heap.size V W) => (Wgx.value (cap := c11) nm2 (N11'.out.below b) OK.out.2.1 OK.out.2.2).mono fun e w' h => (by
    obtain ⟨p, c, h1, h2, h3⟩ := h
    exact ⟨p, c, h1, hid h2, hid h3, hid (b.trans (h3.mono b.size)), KS.out w' (b.trans (h3.mono b.size))⟩ : ∃ p c, e = .returned (.agg #[.int .i64 2, .int .i64 0, .string ⟨#[]⟩, .slice p 2 c]) ∧ Hid (Rd w' (fun g => W.heap.size ≤ g) (.slice p 2 c) (flowF nm2 L2)) ∧ Hid (Below W.heap.size W w') ∧ Hid (Below V.heap.size V w') ∧ C8 w' w1.heap.size (w1.heap.size + 1) w3.heap.size w4.heap.size nm (.slice q1 M.length d1) (.slice q2 M.length d2) nm2 (.slice p9 L2.length c9) (.slice p11 L2.length c11))
  have hS0 := KS.out V (Below.refl _ _)
  unfold C8 at hS0 K1 K2 K3 K4 K5 K6
  obtain ⟨s1_, s2_, s3_, s4_, s5_, s6_, s7_, s8_⟩ := hS0
  clear KS N1 N2 B5 B6 N9' B9 N11' B11 WK HO HL OK HF
  go_region_held3 (fun W => W.cell? ⟨w1.heap.size, 0, none⟩ = some (.string nm) ∧ W.cell? ⟨w1.heap.size, 1, none⟩ = some (.slice q1 M.length d1) ∧ W.cell? ⟨w1.heap.size + 1, 0, none⟩ = some (.string nm) ∧ W.cell? ⟨w1.heap.size + 1, 1, none⟩ = some (.slice q2 M.length d2) ∧ W.cell? ⟨w3.heap.size, 0, none⟩ = some (.string nm2) ∧ W.cell? ⟨w3.heap.size, 1, none⟩ = some (.slice p9 L2.length c9) ∧ W.cell? ⟨w4.heap.size, 0, none⟩ = some (.string nm2) ∧ W.cell? ⟨w4.heap.size, 1, none⟩ = some (.slice p11 L2.length c11))
    (first | with_reducible exact hS | go_keep)
    (first
      | (go_at_call 8; refine (K1.out _ (Below.refl _ _).drew).mono ?_; rintro e wa ⟨rfl, ba, hS⟩; clear K1)
      | (go_at_call 10; refine (K2.out _ ba.out).mono ?_; rintro e wb ⟨pb, cb, rfl, rb, _, bb, hS⟩; clear K2)
      | (go_at_call 11; refine (K3.out _ bb.out).mono ?_; rintro e wc ⟨pc, cc, rfl, rc, bc0, bc, hS⟩; have rb2 := hid (rd_below rb.out bc0.out); clear K3)
      | (go_at_call 9; refine (K4.out _ _ _ bc.out _ _ _ _ _ _ rb2.out rc.out).mono ?_; rintro e wd ⟨rfl, bd, hS⟩; clear rb2)
      | (go_at_call 10; refine (K5.out _ bd.out).mono ?_; rintro e we ⟨pe, ce, rfl, re, _, be, hS⟩; clear K5)
      | (go_at_call 11; refine (K6.out _ be.out).mono ?_; rintro e wf ⟨pf, cf, rfl, rf, bf0, bf, hS⟩; have re2 := hid (rd_below re.out bf0.out); clear K6)
      | (go_at_call 9; refine (K4.out _ _ _ bf.out _ _ _ _ _ _ re2.out rf.out).mono ?_; rintro e wg ⟨rfl, bg, hS⟩; clear re2))
  go_wp2_with fail
  go_ret
  exact ⟨rfl, A7.out.trans (bg.out.mono A7.out.size)⟩

end Go.Proofs.Ytainajjklakaeaa.Wgb
