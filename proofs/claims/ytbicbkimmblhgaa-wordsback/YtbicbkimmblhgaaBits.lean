/-
  The walks of words.Bits, of the document's Bit and Bits, and of the law WordsBits: each returns the bits that 'bitsN' says; the law returns true. Conditions: none but that each number fits its kind.
-/
import Derived.Test.YtbicbkimmblhgaaRows
import Derived.Test.YtbicbkimmblhgaaMathC
import Derived.WalkKit
import Derived.ProofKit
import Derived.OpenShut
namespace Go.Proofs.Ytbicbkimmblhgaa.Wb
open Go.ChangeShapes Go.WideShapes Go.ChangeAt Go.RowKit Go.Proofs.Ytbicbkimmblhgaa.M

theorem bit (n a : Int) (w : World) (h0 : 0 ≤ n) (h1 : n < 18446744073709551616) :
    Calls Try.prog 32 #[.int .u64 n, .int .i64 a] w fun e w' => e = .returned (.int .u64 ((bitB n a).toNat : Int)) ∧ w = w' := by
  by_cases c1 : a < 0
  · rw [bitB_neg c1]
    go_enter Try.func32, Try.ntmps32
    go_wp2
    go_ret
    exact ⟨rfl, rfl⟩
  · by_cases c2 : 63 < a
    · rw [bitB_big h0 h1 c2]
      go_enter Try.func32, Try.ntmps32
      go_wp2
      go_ret
      exact ⟨rfl, rfl⟩
    · obtain ⟨A, rfl⟩ := Int.eq_ofNat_of_zero_le (show 0 ≤ a by omega)
      have c3 : A ≤ 63 := by omega
      go_enter Try.func32, Try.ntmps32
      go_wp2
      go_loop [0, 5] (fun nv iv => ∃ i : Nat, i ≤ A ∧ iv = .int .i64 i ∧ nv = .int .u64 (hv n i)) (fun _ i => A - (intOf i).toNat)
      case atStart => exact ⟨0, Nat.zero_le _, rfl, rfl⟩
      case round =>
        obtain ⟨i, hi, rfl, rfl⟩ := hrel
        have hr := hv_range h0 h1 i
        by_cases hlt : i < A
        · go_wp2
          go_round
          case rel => exact ⟨i + 1, by omega, by go_num, rfl⟩
          case measure => simp [intOf]; omega
        · have hki : i = A := by omega
          subst hki
          have e := hv_bit h0 i
          go_wp2
          go_ret
          exact ⟨ret_int (by first | rfl | exact e), rfl⟩

theorem bits (n from_ count : Int) (w : World) (h0 : 0 ≤ n) (h1 : n < 18446744073709551616) (h2 : -9223372036854775808 ≤ from_) (h3 : from_ < 9223372036854775808) :
    Calls Try.prog 21 #[.int .u64 n, .int .i64 from_, .int .i64 count] w fun e w' => e = .returned (.int .u64 (bitsN n from_ count : Int)) ∧ w = w' := by
  by_cases c0 : count < 1
  · rw [bitsN_none c0]
    go_enter Try.func21, Try.ntmps21
    go_wp2
    go_ret
    exact ⟨rfl, rfl⟩
  · by_cases c1 : from_ ≤ -64
    · rw [bitsN_out h0 h1 (.inl c1)]
      go_enter Try.func21, Try.ntmps21
      go_wp2
      go_ret
      exact ⟨rfl, rfl⟩
    · by_cases c2 : 64 ≤ from_
      · rw [bitsN_out h0 h1 (.inr c2)]
        go_enter Try.func21, Try.ntmps21
        go_wp2
        go_ret
        exact ⟨rfl, rfl⟩
      · by_cases c3 : 64 < count
        · have hu : (0 : Nat) + cOf count = 64 := by unfold cOf; omega
          by_cases c4 : from_ < 0
          · have E : Hid (IntKind.u64.wrap (IntKind.u64.wrap (n * 2 ^ (-from_).toNat)) = (bitsN n from_ count : Int)) := by
              have e := bits_up h0 c4 0 hu
              simp only [Int.pow_zero, Int.mul_one, Int.ediv_one] at e
              exact e
            clear hu
            go_enter Try.func21, Try.ntmps21
            go_wp2
            go_ret
            exact ⟨ret_int E.out, rfl⟩
          · have E : Hid (IntKind.u64.wrap (n / 2 ^ from_.toNat) = (bitsN n from_ count : Int)) := by
              have e := bits_down h0 (show 0 ≤ from_ by omega) 0 hu
              simp only [Int.pow_zero, Int.mul_one, Int.ediv_one] at e
              exact e
            clear hu
            go_enter Try.func21, Try.ntmps21
            go_wp2
            go_ret
            exact ⟨ret_int E.out, rfl⟩
        · have hu : (64 - count).toNat + cOf count = 64 := by unfold cOf; omega
          by_cases c4 : from_ < 0
          · have E : Hid (IntKind.u64.wrap (IntKind.u64.wrap (n * 2 ^ (-from_).toNat) * 2 ^ (64 - count).toNat) / 2 ^ (64 - count).toNat = (bitsN n from_ count : Int)) := bits_up h0 c4 _ hu
            clear hu
            go_enter Try.func21, Try.ntmps21
            go_wp2
            go_ret
            exact ⟨ret_int E.out, rfl⟩
          · have E : Hid (IntKind.u64.wrap (n / 2 ^ from_.toNat * 2 ^ (64 - count).toNat) / 2 ^ (64 - count).toNat = (bitsN n from_ count : Int)) := bits_down h0 (show 0 ≤ from_ by omega) _ hu
            clear hu
            go_enter Try.func21, Try.ntmps21
            go_wp2
            go_ret
            exact ⟨ret_int E.out, rfl⟩

theorem bitsRef (n from_ count : Int) (w : World) (h0 : 0 ≤ n) (h1 : n < 18446744073709551616) :
    Calls Try.prog 22 #[.int .u64 n, .int .i64 from_, .int .i64 count] w fun e w' => e = .returned (.int .u64 (bitsN n from_ count : Int)) ∧ w = w' := by
  by_cases c0 : count < 1
  · rw [bitsN_none c0]
    go_enter Try.func22, Try.ntmps22
    go_wp2
    go_ret
    exact ⟨rfl, rfl⟩
  · obtain ⟨F, hF, hF1, hF2, hFc⟩ : ∃ F : Int, Hid (∀ j : Nat, j < 64 → bitB n (F + (j : Int)) = gB n from_ j) ∧ -64 ≤ F ∧ F ≤ 64 ∧ ((F = 64 ∧ 64 < from_) ∨ (F = -64 ∧ from_ < -64) ∨ (from_ = F ∧ ¬ 64 < from_ ∧ ¬ from_ < -64)) := by
      by_cases c1 : 64 < from_
      · exact ⟨64, fun j hj => by unfold gB; rw [bitB_big h0 h1 (by omega), bitB_big h0 h1 (by omega)], by omega, by omega, .inl ⟨rfl, c1⟩⟩
      · by_cases c2 : from_ < -64
        · exact ⟨-64, fun j hj => by unfold gB; rw [bitB_neg (by omega), bitB_neg (by omega)], by omega, by omega, .inr (.inl ⟨rfl, c2⟩)⟩
        · exact ⟨from_, fun j _ => rfl, by omega, by omega, .inr (.inr ⟨rfl, c1, c2⟩)⟩
    obtain ⟨C, hC, hC1, hC2, hCc⟩ : ∃ C : Nat, Hid (cOf count = C) ∧ 1 ≤ C ∧ C ≤ 64 ∧ ((Hid (C = 64) ∧ 64 < count) ∨ ((C : Int) = count ∧ ¬ 64 < count)) := by
      by_cases c : 64 < count
      · exact ⟨cOf count, rfl, by unfold cOf; omega, by unfold cOf; omega, .inl ⟨by show cOf count = 64; unfold cOf; omega, c⟩⟩
      · exact ⟨cOf count, rfl, by unfold cOf; omega, by unfold cOf; omega, .inr ⟨by unfold cOf; omega, c⟩⟩
    have hB : Hid (bitsN n from_ count = valN (C - 0) fun j => gB n from_ (0 + j)) := by
      have e := bitsN_eq n from_ count
      rw [hC.out] at e
      exact e
    rcases hFc with ⟨rfl, g1⟩ | ⟨rfl, g1⟩ | ⟨rfl, g1, g2⟩ <;> rcases hCc with ⟨g4, g3⟩ | ⟨rfl, g3⟩
    all_goals
      go_enter Try.func22, Try.ntmps22
      go_wp2
      go_loop [7, 8] (fun out iv => ∃ c : Nat, c ≤ C ∧ iv = .int .i64 ((c : Int) - 1) ∧ out = .int .u64 ((valN (C - c) fun j => gB n from_ (c + j) : Nat) : Int)) (fun _ i => (intOf i + 1).toNat)
      case atStart => exact ⟨C, Nat.le_refl _, by first | rfl | (rw [g4.out]; rfl), by rw [Nat.sub_self]; rfl⟩
      case round =>
        obtain ⟨c, hc, rfl, rfl⟩ := hrel
        by_cases hlt : 0 < c
        · obtain ⟨d, rfl⟩ : ∃ d, c = d + 1 := ⟨c - 1, by omega⟩
          have e1 : ((d + 1 : Nat) : Int) - 1 = (d : Int) := by omega
          have hb := bool_le (gB n from_ d)
          obtain ⟨V, hV⟩ : ∃ V, valN (C - (d + 1)) (fun j => gB n from_ (d + 1 + j)) = V := ⟨_, rfl⟩
          have hVb : V < 9223372036854775808 := by
            rw [← hV]
            exact Nat.lt_of_lt_of_le (valN_lt _ _) (by have := Nat.pow_le_pow_right (n := 2) (by decide) (show C - (d + 1) ≤ 63 by omega); simpa using this)
          have HS : Hid (((valN (C - d) fun j => gB n from_ (d + j) : Nat) : Int) = 2 * (V : Int) + ((gB n from_ d).toNat : Int)) := by
            have hs := valN_step (C - (d + 1)) d (gB n from_)
            rw [hV, show C - (d + 1) + 1 = C - d by omega] at hs
            show ((valN (C - d) fun j => gB n from_ (d + j) : Nat) : Int) = _
            omega
          rw [hV, e1]
          clear hV e1
          go_wp2_with (go_at_call 32; refine (bit _ _ _ h0 h1).mono ?_; rintro e w' ⟨rfl, rfl⟩; rw [hF.out d (by omega)])
          go_round
          case rel => exact ⟨d, by omega, rfl, by rw [HS.out]⟩
          case measure => simp [intOf] <;> omega
        · have hc0 : c = 0 := by omega
          subst hc0
          rw [← hB.out]
          go_wp2
          go_ret
          exact ⟨rfl, rfl⟩

theorem law (a0 a1 a2 : Int) (w0 : (Lit.int .u64 a0).wf = true) (w1 : (Lit.int .i64 a1).wf = true) (_w2 : (Lit.int .i64 a2).wf = true) (w : World) :
    Calls Try.prog 7 #[.int .u64 a0, .int .i64 a1, .int .i64 a2] w fun e w' => e = .returned (.bool true) ∧ Below w.heap.size w w' := by
  obtain ⟨h0, h1⟩ := wf_u64 w0
  obtain ⟨h2, h3⟩ := wf_i64 w1
  clear w0 w1 _w2
  have e1 : bitsN 180 2 3 = 5 := by decide
  go_enter Try.func7, Try.ntmps7
  go_wp2_with fail
  refine (bits _ _ _ _ (by omega) (by omega) (by omega) (by omega)).mono ?_
  rintro e w' ⟨rfl, rfl⟩
  rw [e1]
  go_wp2_with fail
  refine (bits _ _ _ _ h0 h1 h2 h3).mono ?_
  rintro e w' ⟨rfl, rfl⟩
  go_wp2_with fail
  refine (bitsRef _ _ _ _ h0 h1).mono ?_
  rintro e w' ⟨rfl, rfl⟩
  go_wp2
  go_ret
  exact ⟨rfl, Below.refl _ _⟩
end Go.Proofs.Ytbicbkimmblhgaa.Wb
