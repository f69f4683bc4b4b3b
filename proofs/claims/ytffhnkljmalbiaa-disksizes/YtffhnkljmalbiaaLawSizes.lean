/-
  The walk of the law DiskSizes: every sizes make the document's regions; the law returns true, and nothing that was in memory has turned. Condition: none but that the sizes lie in memory as such do.
-/
import Derived.Test.YtffhnkljmalbiaaRkO
import Derived.Lib.MinMax
namespace Go.Proofs.Ytffhnkljmalbiaa.Wr
open Go.ChangeShapes Go.WideShapes Go.ChangeAt Go.RowKit Go.Proofs.Ytffhnkljmalbiaa.M Go.Proofs.Ytffhnkljmalbiaa.Wd Go.Proofs.Ytffhnkljmalbiaa.Wv

theorem image_size (d : Dk) (a : Int) : (d.image a).size = 64 * d.secs a := by
  unfold Dk.image Dk.secs
  split
  · exact img_size _ _
  · rfl
theorem secs_le {d : Dk} (h : d.ok) (a : Int) : d.secs a ≤ 4096 := by
  unfold Dk.secs
  split
  · rename_i c
    obtain ⟨i, rfl, hi⟩ := has_nat c
    exact (h.r i hi).n
  · omega

set_option maxRecDepth 100000 in
set_option maxHeartbeats 1000000 in
theorem lawSizes (ao : Option Addr) (len cap : Nat) (z : Nat → Int) (w : World) (hcap : len ≤ cap) (hlen : len ≤ 140737488355328) (hz : ∀ i, I64 (z i)) (hc : ∀ j, j < len → ∃ b o, ao = some ⟨b, o, none⟩ ∧ b < w.heap.size ∧ w.cell? ⟨b, o + j, none⟩ = some (.int .i64 (z j))) :
    Calls Try.prog 4 #[.slice ao len cap] w fun e w' => e = .returned (.bool true) ∧ Below w.heap.size w w' := by
  have k2 : min (len : Int) 20 = ((min len 20 : Nat) : Int) := by omega
  obtain ⟨k, hk⟩ : ∃ k, k = min len 20 := ⟨_, rfl⟩
  have hk20 : k ≤ 20 := by omega
  have hkl : k ≤ len := by omega
  rw [← hk] at k2
  have HK := hid hk
  clear hk
  have CN := hid (Wd.new ao k cap z w (by omega) (by omega) (fun j hj => hc j (by omega)))
  have CR : Hid (∀ W, Below w.heap.size w W → Calls Try.prog 11 #[.slice ao k cap] W fun e w' => e = .returned (.pointer (some ⟨W.heap.size, 0, none⟩)) ∧ (∃ L, RkL w' W.heap.size (newD z (min k 8)) (Gr no W w') L) ∧ Below W.heap.size W w') := fun W hW => Wr.new ao k cap z W (by omega) hz (fun j hj => by
    obtain ⟨b, o, h1, h2, h3⟩ := hc j (by omega)
    exact ⟨b, o, h1, Nat.lt_of_lt_of_le h2 hW.size, (hW.cell (by exact h2)).trans h3⟩)
  clear hc
  go_enter Try.func4, Try.ntmps4
  go_wp2_with fail
  refine CN.out.mono ?_
  rintro e w1 ⟨rfl, ⟨L1, d1⟩, b1⟩
  have D1 := hid d1
  have B1 := hid b1
  clear d1 b1 CN
  go_wp2_with fail
  refine (CR.out _ B1.out).mono ?_
  rintro e w2 ⟨rfl, ⟨L2, d2⟩, b2⟩
  have S := hid (fun a => sectorsD (D1.out.below b2) a)
  have I := hid (fun a => imageD (D1.out.below b2) a)
  have R := hid (fun a => sectorsR d2 a)
  have B2 := hid (B1.out.trans (b2.mono B1.out.size))
  have hO := hid d2.ok
  unfold dp at S I
  clear d2 b2 D1 CR B1
  generalize newD z (min k 8) = dd at *
  go_wp2
  go_loop [5] (fun iv => ∃ i : Nat, i ≤ k + 3 ∧ iv = .int .i64 ((i : Int) - 1)) (fun iv => k + 3 - (intOf iv + 1).toNat)
  case atStart => exact ⟨0, Nat.zero_le _, rfl⟩
  case round =>
    obtain ⟨i, hi, rfl⟩ := hrel
    by_cases hlt : i ≤ k + 2
    · have C1 := hid (S.out ((i : Int) - 1))
      have C2 := hid (I.out ((i : Int) - 1))
      have C3 := hid (R.out ((i : Int) - 1))
      have hs := image_size dd ((i : Int) - 1)
      have hl := secs_le hO.out ((i : Int) - 1)
      generalize dd.secs ((i : Int) - 1) = sc at *
      generalize dd.image ((i : Int) - 1) = im at *
      have e1 : ((im.size : Int) != 64 * (sc : Int)) = false := by simp; omega
      go_wp2_with fail
      refine C1.out.mono ?_
      rintro e w3 ⟨rfl, rfl⟩
      go_wp2_with fail
      refine C3.out.mono ?_
      rintro e w3 ⟨rfl, rfl⟩
      go_wp2_with fail
      refine C2.out.mono ?_
      rintro e w3 ⟨rfl, rfl⟩
      go_wp2_with fail
      refine C1.out.mono ?_
      rintro e w3 ⟨rfl, rfl⟩
      go_wp2
      go_round
      case rel => exact ⟨i + 1, by omega, by go_num⟩
      case measure => simp [intOf] <;> omega
    · have hi3 : i = k + 3 := by omega
      subst hi3
      go_wp2_with fail
      refine (wakes _).mono ?_
      rintro e w3 ⟨rfl, b3⟩
      have B3 := hid (B2.out.trans (b3.mono B2.out.size))
      clear b3
      go_wp2
      go_ret
      exact ⟨rfl, B3.out⟩

end Go.Proofs.Ytffhnkljmalbiaa.Wr
