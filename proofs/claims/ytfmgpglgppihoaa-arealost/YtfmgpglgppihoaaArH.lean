/-
  The walk of the law AreaSplits: it returns true, and nothing that was in memory has turned. Conditions: none but that each number fits its kind and that the text's length is an int.
-/
import Derived.Test.YtfmgpglgppihoaaArG
import Derived.Deep.QuietTactic
import Derived.BigQuiet
import Derived.WalkSmall
namespace Go.Proofs.Ytfmgpglgppihoaa.War
open Go.ChangeShapes Go.WideShapes Go.ChangeAt Go.RowKit Go.Proofs.Ytfmgpglgppihoaa.M

/-- The first bytes of a text. -/
theorem cutL (s D : ByteArray) (j : Int) (b : Nat) (hj : j = (b : Int)) (h2 : b ≤ s.size) (hD : s.extract 0 b = D) (u : World) :
    (Instr.slice 9 (.string s) none (some (.int .i64 j)) none).run Try.prog u = .ok (.string D) u := by
  subst hj hD
  simp [Instr.slice, Instr.sliceBounds, Instr.sliceBound, asIntOf, run_underlying Try.underlying9, h2]

set_option maxRecDepth 100000 in
set_option maxHeartbeats 2000000 in
theorem splits (g f : Int) (a : ByteArray) (w : World) (_ : -9223372036854775808 ≤ g) (_ : g < 9223372036854775808) (_ : -9223372036854775808 ≤ f) (_ : f < 9223372036854775808) (ha : a.size ≤ 140737488355328) :
    Calls Try.prog 5 #[.int .i64 g, .int .i64 f, .string a] w fun e w' => e = .returned (.bool true) ∧ Below w.heap.size w w' := by
  have hmin : min (a.size : Int) 20000 = ((min a.size 20000 : Nat) : Int) := by omega
  have hsl := cutL a (a.extract 0 (min a.size 20000)) _ _ rfl (Nat.min_le_left _ _) rfl
  have hD : (a.extract 0 (min a.size 20000)).size ≤ 20000 := by rw [ByteArray.size_extract]; omega
  generalize a.extract 0 (min a.size 20000) = D at hsl hD
  generalize min a.size 20000 = N at hmin hsl
  have C1 := hid fun w => split g f D w (by omega)
  have C2 := hid fun w => splitRef g f D w (by omega)
  have G := hid fun n j (h : j < n) => spv_get g f D (n := n) (j := j) h
  generalize sE g f D = E at C1 C2
  generalize sN g f D = n at C1 C2
  go_enter Try.func5, Try.ntmps5
  go_wp2_with fail
  refine (C1.out _).mono ?_
  rintro e w1 ⟨v, rfl, own1, b1⟩
  obtain ⟨p1, cap1, rfl, hc1, hm1, L1⟩ := own_lies own1 (fun j hj => G.out n j hj)
  clear own1
  go_wp2_with fail
  refine (C2.out _).mono ?_
  rintro e w2 ⟨v, rfl, own2, b2⟩
  obtain ⟨p2, cap2, rfl, hc2, hm2, L2⟩ := own_lies own2 (fun j hj => G.out n j hj)
  have L1' := L1.below b2
  clear own2 L1
  go_wp2_with fail
  refine (wakes _).mono ?_
  rintro e w3 ⟨rfl, b3⟩
  have H1 := hid (L1'.below b3)
  have H2 := hid (L2.below b3)
  have B := hid (b1.trans ((b2.mono b1.size).trans (b3.mono (Nat.le_trans b1.size b2.size))))
  clear L1' L2 b1 b2 b3 C1 C2
  unfold maxLen at hm1 hm2
  go_wp2
  go_loopw [47] (fun iv wr => ∃ i : Nat, i ≤ n ∧ iv = .int .i64 (i : Int) ∧ Below w3.heap.size w3 wr) (fun i _ => n - (intOf i).toNat)
  case atStart => exact ⟨0, Nat.zero_le _, rfl, Below.refl _ _⟩
  case round =>
    obtain ⟨i, hi, rfl, hbel⟩ := hrel
    by_cases hlt : i < n
    · rcases H1.out with h | ⟨b1, off, ha, hb, hcell⟩
      · exfalso; omega
      · rcases H2.out with h | ⟨b2, off', ha', hb', hcell'⟩
        · exfalso; omega
        · have hci : wr.cell? ⟨b1, off + i, none⟩ = some (.string (sp g f D i)) := by rw [← hcell i hlt]; exact hbel.cell (by exact hb)
          have hci' : wr.cell? ⟨b2, off' + i, none⟩ = some (.string (sp g f D i)) := by rw [← hcell' i hlt]; exact hbel.cell (by exact hb')
          generalize sp g f D i = x at hci hci'
          clear hcell hcell' hsl hmin
          subst ha ha'
          go_wp2
          go_quiet (fail)
          go_wp2
          go_roundw
          case rel => exact ⟨i + 1, by omega, by go_num, below_drewN hbel _⟩
          case measure => simp [intOf] <;> omega
    · obtain rfl : i = n := by omega
      go_wp2
      go_ret
      exact ⟨rfl, B.out.trans (hbel.mono B.out.size)⟩

end Go.Proofs.Ytfmgpglgppihoaa.War
