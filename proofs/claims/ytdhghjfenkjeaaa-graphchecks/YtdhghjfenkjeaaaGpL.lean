/-
  The walks of the laws GraphChecks and GraphMasks: each returns true, and nothing that was in memory has turned. Conditions: none but that the law's workflow lies in memory as such do.
-/
import Derived.Test.YtdhghjfenkjeaaaGpF
import Derived.Test.YtdhghjfenkjeaaaGpW
import Derived.Test.YtdhghjfenkjeaaaGpS
namespace Go.Proofs.Ytdhghjfenkjeaaa.Wgl
open Go.ChangeShapes Go.WideShapes Go.ChangeAt Go.RowKit Go.Proofs.Ytdhghjfenkjeaaa.M Go.Proofs.Ytdhghjfenkjeaaa.Wgp Go.Proofs.Ytdhghjfenkjeaaa.Wgv Go.Proofs.Ytdhghjfenkjeaaa.Wgf

theorem vs_below {w w' : World} {a : Option Addr} {L : List Nd} (h : Vs w a L) (b : Below w.heap.size w w') : Vs w' a L := by
  refine ⟨h.1, ?_⟩
  rcases h.2 with h2 | ⟨g, off, h1, h2, h3⟩
  · exact .inl h2
  · refine .inr ⟨g, off, h1, Nat.lt_of_lt_of_le h2 b.size, fun i x hx => ?_⟩
    obtain ⟨da, dc, k1, k2⟩ := h3 i x hx
    exact ⟨da, dc, k1.below h2 b, k2.below b⟩
/-- The two workflows in their variables. -/
theorem two_boxes {w : World} (T1 T2 : TypeId) (nm : ByteArray) (q1 q2 : Option Addr) (n d1 d2 : Nat) : ∀ X, X = (w.alloc (.cells #[.string nm, .slice q1 n d1] T1)).alloc (.cells #[.string nm, .slice q2 n d2] T2) → F2 X w.heap.size nm (.slice q1 n d1) ∧ F2 X (w.heap.size + 1) nm (.slice q2 n d2) ∧ X.heap.size = w.heap.size + 2 ∧ Below w.heap.size w X := by
  intro X hX
  have h1 := (box2 w T1 nm q1 n d1).below (by simp) (al _ (.cells #[.string nm, .slice q2 n d2] T2))
  have h2 := box2 (w.alloc (.cells #[.string nm, .slice q1 n d1] T1)) T2 nm q2 n d2
  rw [World.size_alloc] at h2
  subst hX
  exact ⟨h1, h2, by simp, al2 w _ _⟩

set_option maxRecDepth 100000 in
set_option maxHeartbeats 6400000 in
theorem checks (nm : ByteArray) (a : Option Addr) (L : List Nd) (c : Nat) (w : World) (hn : nm.size ≤ 140737488355328) (hc : L.length ≤ c) (hcm : c ≤ maxLen) (hV : Vs w a L) :
    Calls Try.prog 3 #[.agg #[.string nm, .slice a L.length c]] w fun e w' => e = .returned (.bool true) ∧ Below w.heap.size w w' := by
  have A0 := hid (al w (.cells #[.string nm, .slice a L.length c] 24))
  have CF := hid (flows (c := c) nm (vs_below hV A0.out) hc hcm)
  have HO := hid (cut_ok hV.1)
  have HL := hid (cut_len L)
  have WK := hid wakes
  clear hV
  go_enter Try.func3, Try.ntmps3
  go_wp2_with fail
  refine CF.out.mono ?_
  intro e w1 h1
  unfold FlP at h1
  generalize cutL L = M at h1 HO HL
  obtain ⟨q1, q2, d1, d2, rfl, n1, n2, m1, m2, b1⟩ := h1
  have A1 := hid (A0.out.trans (b1.mono (by simp)))
  clear CF b1 A0
  go_wp2_with fail
  obtain ⟨X, hX⟩ : ∃ X, X = (w1.alloc (.cells #[.string nm, .slice q1 M.length d1] 27)).alloc (.cells #[.string nm, .slice q2 M.length d2] 30) := ⟨_, rfl⟩
  rw [← hX]
  obtain ⟨f1, f2, zX, bX⟩ := two_boxes _ _ nm q1 q2 M.length d1 d2 X hX
  have AX := hid (A1.out.trans (bX.mono A1.out.size))
  have hl := HL.out
  have C1 := hid (check (cap := d1) nm hn (n1.below bX) (by omega) m1 HO.out)
  have C2 := hid fun (W : World) (b : Below X.heap.size X W) => checkRef (cap := d2) nm hn ((n2.below bX).below b) (by omega) HO.out
  have F2' := hid f2
  clear n1 n2 hX bX f1 f2 A1 HO
  refine C1.out.mono ?_
  rintro e w2 ⟨rfl, b2⟩
  have K2 := hid (C2.out w2 b2)
  have A2 := hid (AX.out.trans (b2.mono AX.out.size))
  obtain ⟨y0, y1⟩ := F2'.out.below (by omega) b2
  unfold ckE at K2
  clear C1 C2 b2 AX F2'
  unfold ckE
  generalize chk nm M = R at K2 ⊢
  obtain ⟨r1, r2⟩ := R
  simp only at K2 ⊢
  go_wp2_with fail
  refine K2.out.mono ?_
  rintro e w3 ⟨rfl, b3⟩
  have A3 := hid (A2.out.trans (b3.mono A2.out.size))
  clear K2 A2 b3 y0 y1
  go_wp2_with fail
  refine (WK.out _).mono ?_
  rintro e w4 ⟨rfl, b4⟩
  have A4 := hid (A3.out.trans (b4.mono A3.out.size))
  clear WK A3 b4
  go_wp2_with fail
  go_ret
  exact ⟨rfl, A4.out⟩

end Go.Proofs.Ytdhghjfenkjeaaa.Wgl
