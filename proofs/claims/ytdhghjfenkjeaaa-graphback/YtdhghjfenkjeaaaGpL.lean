/-
  The walks of the laws GraphChecks and GraphMasks: each returns true, and nothing that was in memory has turned. Conditions: none but that the law's workflow lies in memory as such do.
-/
import Derived.Test.YtdhghjfenkjeaaaGpF
import Derived.Test.YtdhghjfenkjeaaaGpW
import Derived.Test.YtdhghjfenkjeaaaGpS
namespace Go.Proofs.Ytdhghjfenkjeaaa.Wgl
open Go.ChangeShapes Go.WideShapes Go.ChangeAt Go.RowKit Go.Proofs.Ytdhghjfenkjeaaa.M Go.Proofs.Ytdhghjfenkjeaaa.Wgp Go.Proofs.Ytdhghjfenkjeaaa.Wgv Go.Proofs.Ytdhghjfenkjeaaa.Wgf

theorem vs_below {w w' : World} {a : Option Addr} {L : List Nd} (h : Vs w a L) (b : Below w.heap.size w w') : Vs w' a L := by
  refine ⟨h.1, ?_⟩
  rcases h.2 with h2 | ⟨g, off, h1, h2, h3⟩
  · exact .inl h2
  · refine .inr ⟨g, off, h1, Nat.lt_of_lt_of_le h2 b.size, fun i x hx => ?_⟩
    obtain ⟨da, dc, k1, k2⟩ := h3 i x hx
    exact ⟨da, dc, k1.below h2 b, k2.below b⟩
/-- The two workflows in their variables. -/
theorem two_boxes {w : World} (T1 T2 : TypeId) (nm : ByteArray) (q1 q2 : Option Addr) (n d1 d2 : Nat) : ∀ X, X = (w.alloc (.cells #[.string nm, .slice q1 n d1] T1)).alloc (.cells #[.string nm, .slice q2 n d2] T2) → F2 X w.heap.size nm (.slice q1 n d1) ∧ F2 X (w.heap.size + 1) nm (.slice q2 n d2) ∧ X.heap.size = w.heap.size + 2 ∧ Below w.heap.size w X := by
  intro X hX
  have h1 := (box2 w T1 nm q1 n d1).below (by simp) (al _ (.cells #[.string nm, .slice q2 n d2] T2))
  have h2 := box2 (w.alloc (.cells #[.string nm, .slice q1 n d1] T1)) T2 nm q2 n d2
  rw [World.size_alloc] at h2
  subst hX
  exact ⟨h1, h2, by simp, al2 w _ _⟩

set_option maxRecDepth 100000 in
set_option maxHeartbeats 6400000 in
theorem checks (nm : ByteArray) (a : Option Addr) (L : List Nd) (c : Nat) (w : World) (hn : nm.size ≤ 140737488355328) (hc : L.length ≤ c) (hcm : c ≤ maxLen) (hV : Vs w a L) :
    Calls Try.prog 3 #[.agg #[.string nm, .slice a L.length c]] w fun e w' => e = .returned (.bool true) ∧ Below w.heap.size w w' := by
  have A0 := hid (al w (.cells #[.string nm, .slice a L.length c] 24))
  have CF := hid (flows (c := c) nm (vs_below hV A0.out) hc hcm)
  have HO := hid (cut_ok hV.1)
  have HL := hid (cut_len L)
  have WK := hid wakes
  clear hV
  go_enter Try.func3, Try.ntmps3
  go_wp2_with fail
  refine CF.out.mono ?_
  intro e w1 h1
  unfold FlP at h1
  generalize cutL L = M at h1 HO HL
  obtain ⟨q1, q2, d1, d2, rfl, n1, n2, m1, m2, b1⟩ := h1
  have A1 := hid (A0.out.trans (b1.mono (by simp)))
  clear CF b1 A0
  go_wp2_with fail
  obtain ⟨X, hX⟩ : ∃ X, X = (w1.alloc (.cells #[.string nm, .slice q1 M.length d1] 27)).alloc (.cells #[.string nm, .slice q2 M.length d2] 30) := ⟨_, rfl⟩
  rw [← hX]
  obtain ⟨f1, f2, zX, bX⟩ := two_boxes _ _ nm q1 q2 M.length d1 d2 X hX
  have AX := hid (A1.out.trans (bX.mono A1.out.size))
  have hl := HL.out
  have C1 := hid (check (cap := d1) nm hn (n1.below bX) (by omega) m1 HO.out)
  have C2 := hid fun (W : World) (b : Below X.heap.size X W) => checkRef (cap := d2) nm hn ((n2.below bX).below b) (by omega) HO.out
  have F2' := hid f2
  clear n1 n2 hX bX f1 f2 A1 HO
  refine C1.out.mono ?_
  rintro e w2 ⟨rfl, b2⟩
  have K2 := hid (C2.out w2 b2)
  have A2 := hid (AX.out.trans (b2.mono AX.out.size))
  obtain ⟨y0, y1⟩ := F2'.out.below (by omega) b2
  unfold ckE at K2
  clear C1 C2 b2 AX F2'
  unfold ckE
  generalize chk nm M = R at K2 ⊢
  obtain ⟨r1, r2⟩ := R
  simp only at K2 ⊢
  go_wp2_with fail
  refine K2.out.mono ?_
  rintro e w3 ⟨rfl, b3⟩
  have A3 := hid (A2.out.trans (b3.mono A2.out.size))
  clear K2 A2 b3 y0 y1
  go_wp2_with fail
  refine (WK.out _).mono ?_
  rintro e w4 ⟨rfl, b4⟩
  have A4 := hid (A3.out.trans (b4.mono A3.out.size))
  clear WK A3 b4
  go_wp2_with fail
  go_ret
  exact ⟨rfl, A4.out⟩

/-- A row of numbers that is owned, as a walk reads it. -/
theorem own_nums {w : World} {base e n : Nat} {v : Value} {xs : List Value} (h : w.ownsRow base e 1 v n xs) (hn : 0 < n) : ∃ g cap, v = .slice (some ⟨g, 0, none⟩) n cap ∧ g < w.heap.size ∧ ∀ i u, xs[i]? = some u → i < n → w.cell? ⟨g, i, none⟩ = some u := by
  rcases h.2 with ⟨rfl, h0⟩ | ⟨g, cap, cur, rfl, hb, hg, hc, hm, hs, ht⟩
  · omega
  · refine ⟨g, cap, rfl, lt_of_heap hg, fun i u hu hi => ?_⟩
    rw [h.cellAt i (by omega)]
    exact hu
theorem mrow_pass {nm : ByteArray} {L : List Nd} (h : (chk nm L).2 = 0) {i : Nat} (hi : i < L.length) : mrow L i = bsm (wts L i) L.length := by
  obtain ⟨_, _, h3⟩ := chk_pass h
  have hx := List.getElem?_eq_getElem hi
  rw [mrow_of hx]
  exact bsm_congr fun k _ => mbt_wts hx h3 k
/-- What the two workflows' variables hold. -/
def Bx (W : World) (P P' : Nat) (nm : ByteArray) (v v' : Value) : Prop := W.cell? ⟨P, 0, none⟩ = some (.string nm) ∧ W.cell? ⟨P, 1, none⟩ = some v ∧ W.cell? ⟨P', 0, none⟩ = some (.string nm) ∧ W.cell? ⟨P', 1, none⟩ = some v'
theorem bx_below {w w' : World} {P P' : Nat} {nm : ByteArray} {v v' : Value} (h : Bx w P P' nm v v') (h1 : P < w.heap.size) (h2 : P' < w.heap.size) (b : Below w.heap.size w w') : Bx w' P P' nm v v' :=
  ⟨(b.cell (p := ⟨P, 0, none⟩) h1).trans h.1, (b.cell (p := ⟨P, 1, none⟩) h1).trans h.2.1, (b.cell (p := ⟨P', 0, none⟩) h2).trans h.2.2.1, (b.cell (p := ⟨P', 1, none⟩) h2).trans h.2.2.2⟩

set_option maxRecDepth 100000 in
set_option maxHeartbeats 6400000 in
theorem masksL (nm : ByteArray) (a : Option Addr) (L : List Nd) (c : Nat) (w : World) (hn : nm.size ≤ 140737488355328) (hc : L.length ≤ c) (hcm : c ≤ maxLen) (hV : Vs w a L) :
    Calls Try.prog 4 #[.agg #[.string nm, .slice a L.length c]] w fun e w' => e = .returned (.bool true) ∧ Below w.heap.size w w' := by
  have A0 := hid (al w (.cells #[.string nm, .slice a L.length c] 24))
  have CF := hid (flows (c := c) nm (vs_below hV A0.out) hc hcm)
  have HO := hid (cut_ok hV.1)
  have HL := hid (cut_len L)
  have WK := hid wakes
  clear hV
  go_enter Try.func4, Try.ntmps4
  go_wp2_with fail
  refine CF.out.mono ?_
  intro e w1 h1
  unfold FlP at h1
  generalize cutL L = M at h1 HO HL
  obtain ⟨q1, q2, d1, d2, rfl, n1, n2, m1, m2, b1⟩ := h1
  have A1 := hid (A0.out.trans (b1.mono (by simp)))
  clear CF b1 A0
  go_wp2_with fail
  obtain ⟨X, hX⟩ : ∃ X, X = (w1.alloc (.cells #[.string nm, .slice q1 M.length d1] 27)).alloc (.cells #[.string nm, .slice q2 M.length d2] 30) := ⟨_, rfl⟩
  rw [← hX]
  obtain ⟨f1, f2, zX, bX⟩ := two_boxes _ _ nm q1 q2 M.length d1 d2 X hX
  have AX := hid (A1.out.trans (bX.mono A1.out.size))
  have hl := HL.out
  have C2 := hid (checkRef (cap := d2) nm hn (n2.below bX) (by omega) HO.out)
  have C3 := hid fun (W : World) (b : Below X.heap.size X W) => masks (cap := d1) nm ((n1.below bX).below b) hl HO.out
  have C4 := hid fun (W : World) (b : Below X.heap.size X W) => masksRef (cap := d2) nm ((n2.below bX).below b) hl HO.out
  have BX := hid (show Bx X w1.heap.size (w1.heap.size + 1) nm (.slice q1 M.length d1) (.slice q2 M.length d2) from ⟨f1.1, f1.2, f2.1, f2.2⟩)
  clear n1 n2 hX bX f1 f2 A1 HO
  refine C2.out.mono ?_
  rintro e w2 ⟨rfl, b2⟩
  have A2 := hid (AX.out.trans (b2.mono AX.out.size))
  have B2 := hid b2
  have MP := hid fun (h : (chk nm M).2 = 0) (i : Nat) (hi : i < M.length) => mrow_pass h hi
  have ML := hid fun (h : (chk nm M).2 = 0) => (chk_pass h).1
  clear C2 b2 AX
  unfold ckE
  generalize chk nm M = R at MP ML
  obtain ⟨r1, r2⟩ := R
  simp only at MP ML ⊢
  go_wp2_with fail
  refine (WK.out _).mono ?_
  rintro e w3 ⟨rfl, b3⟩
  have A3 := hid (A2.out.trans (b3.mono A2.out.size))
  have B3 := hid (B2.out.trans (b3.mono B2.out.size))
  clear A2 B2 b3
  by_cases h0 : r2 = 0
  · have MP' := hid (MP.out h0)
    have ML' := ML.out h0
    have e0 : (r2 != 0) = false := by simp [h0]
    have z3 : X.heap.size ≤ w3.heap.size := B3.out.size
    obtain ⟨y0, y1, y2, y3⟩ := bx_below BX.out (by omega) (by omega) B3.out
    have CA := hid fun (W : World) (b : Below w3.heap.size w3 W) => (C3.out W (B3.out.trans (b.mono z3))).mono fun e w' h =>
      (⟨h.1, hid h.2.1, h.2.2.1, h.2.2.2, hid (b.trans (h.2.2.2.mono b.size)), bx_below BX.out (by omega) (by omega) (B3.out.trans ((b.trans (h.2.2.2.mono b.size)).mono z3))⟩ : e = .returned (.slice (some ⟨W.heap.size + 1, 0, none⟩) M.length M.length) ∧ Hid (w'.rowIs (W.heap.size + 1) 43 M.length (fun i => .int .u32 (mrow M i : Int))) ∧ W.heap.size + 1 < w'.heap.size ∧ Below W.heap.size W w' ∧ Hid (Below w3.heap.size w3 w') ∧ (w'.cell? ⟨w1.heap.size, 0, none⟩ = some (.string nm) ∧ w'.cell? ⟨w1.heap.size, 1, none⟩ = some (.slice q1 M.length d1) ∧ w'.cell? ⟨w1.heap.size + 1, 0, none⟩ = some (.string nm) ∧ w'.cell? ⟨w1.heap.size + 1, 1, none⟩ = some (.slice q2 M.length d2)))
    have CB := hid fun (W : World) (b : Below w3.heap.size w3 W) => (C4.out W (B3.out.trans (b.mono z3))).mono fun e w' h => by
      obtain ⟨v, h1, h2, h3⟩ := h
      obtain ⟨g, cap, rfl, hg, hc⟩ := own_nums h2 ML'
      exact (⟨g, cap, h1, hid hg, hid hc, hid h3, hid (b.trans (h3.mono b.size)), bx_below BX.out (by omega) (by omega) (B3.out.trans ((b.trans (h3.mono b.size)).mono z3))⟩ : ∃ g cap, e = .returned (.slice (some ⟨g, 0, none⟩) M.length cap) ∧ Hid (g < w'.heap.size) ∧ Hid (∀ i u, (mkl M M.length)[i]? = some u → i < M.length → w'.cell? ⟨g, i, none⟩ = some u) ∧ Hid (Below W.heap.size W w') ∧ Hid (Below w3.heap.size w3 w') ∧ (w'.cell? ⟨w1.heap.size, 0, none⟩ = some (.string nm) ∧ w'.cell? ⟨w1.heap.size, 1, none⟩ = some (.slice q1 M.length d1) ∧ w'.cell? ⟨w1.heap.size + 1, 0, none⟩ = some (.string nm) ∧ w'.cell? ⟨w1.heap.size + 1, 1, none⟩ = some (.slice q2 M.length d2)))
    clear C3 C4 MP ML h0
    go_wp2_with fail
    go_region_held3 (fun W => W.cell? ⟨w1.heap.size, 0, none⟩ = some (.string nm) ∧ W.cell? ⟨w1.heap.size, 1, none⟩ = some (.slice q1 M.length d1) ∧ W.cell? ⟨w1.heap.size + 1, 0, none⟩ = some (.string nm) ∧ W.cell? ⟨w1.heap.size + 1, 1, none⟩ = some (.slice q2 M.length d2))
      (first | exact hSA | exact hSB | go_keep)
      (first
        | (go_at_call 12; refine (CA.out _ (by first | exact (Below.refl _ _).drew | exact bB.out)).mono ?_; rintro e wA ⟨rfl, hrow, hzA, bA', bA, hSA⟩)
        | (go_at_call 13; refine (CB.out _ (by first | exact (Below.refl _ _).drew | exact bA.out)).mono ?_; rintro e wB ⟨g, cap, rfl, hg, hcl, bB', bB, hSB⟩))
    have RB := hid (hrow.out.of_block (bB'.out.block _ hzA))
    have AB := hid (A3.out.trans (bB.out.mono A3.out.size))
    have hgl := hg.out
    have hzB : w3.heap.size + 1 < wB.heap.size := Nat.lt_of_lt_of_le hzA bB'.out.size
    have HC : Hid (∀ i, i < M.length → wB.cell? ⟨g, i, none⟩ = some (.int .u32 (mrow M i : Int))) := hid (fun i hi => by rw [MP'.out i hi]; exact hcl.out i _ (mkl_at M hi) hi)
    clear hrow hcl bA bA' bB bB' CA CB hSA hSB y0 y1 y2 y3 hg
    go_wp2_with fail
    go_loopw [38] (fun iv wr => ∃ i : Nat, i ≤ M.length ∧ iv = .int .i64 (i : Int) ∧ ∃ q, wr = wB.drewN q) (fun iv _ => M.length - (intOf iv).toNat)
    case atStart => exact ⟨0, Nat.zero_le _, rfl, 0, rfl⟩
    case round =>
      obtain ⟨i, hi, rfl, q, rfl⟩ := hrel
      by_cases ci : i < M.length
      · have x0 : wB.cell? ⟨w3.heap.size + 1, i, none⟩ = some (.int .u32 (mrow M i : Int)) := RB.out.cell ci
        have x1 := HC.out i ci
        generalize mrow M i = m at x0 x1
        go_wp2_with fail
        go_quiet (fail)
        go_wp2_with fail
        go_roundw
        case rel => exact ⟨i + 1, ci, by go_num, _, rfl⟩
        case measure => simp [intOf]; omega
      · go_wp2_with fail
        go_ret
        exact ⟨rfl, by first | exact AB.out | exact drewB AB.out | exact drewB (drewB AB.out)⟩
  · have e0 : (r2 != 0) = true := by simpa using h0
    have e1 : (r2 == 0) = false := by simpa using h0
    clear h0 MP ML C3 C4
    go_wp2_with fail
    refine (WK.out _).mono ?_
    rintro e w4 ⟨rfl, b4⟩
    have A4 := hid (A3.out.trans (b4.mono A3.out.size))
    clear b4
    go_wp2_with fail
    go_ret
    exact ⟨rfl, A4.out⟩

end Go.Proofs.Ytdhghjfenkjeaaa.Wgl
