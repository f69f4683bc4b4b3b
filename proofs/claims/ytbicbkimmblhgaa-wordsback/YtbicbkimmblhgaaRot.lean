/-
  The walks of words.Rotate, of math/bits.RotateLeft32, of the document's Rotate, and of the law WordsRotates: each returns the word whose bits are moved around, as 'rotN' says; the law returns true. Conditions: none but that each number fits its kind.
-/
import Derived.Test.YtbicbkimmblhgaaRows
import Derived.Test.YtbicbkimmblhgaaMathD
import Derived.Test.YtbicbkimmblhgaaBits
import Derived.WalkKit
import Derived.ProofKit
import Derived.OpenShut
namespace Go.Proofs.Ytbicbkimmblhgaa.Wr
open Go.ChangeShapes Go.WideShapes Go.ChangeAt Go.RowKit Go.Proofs.Ytbicbkimmblhgaa.M

theorem rotlAt (x k r : Int) (b : Nat) (w : World) (hb : b < 32) (e : bits .and .u64 (IntKind.u64.wrap k) 31 = (b : Int))
    (hr : Hid (bits .or .u32 (IntKind.u32.wrap (x * 2 ^ b)) (x / 2 ^ (32 - b)) = r)) :
    Calls Try.prog 31 #[.int .u32 x, .int .i64 k] w fun e w' => e = .returned (.int .u32 r) ∧ w = w' := by
  have e2 : (32 - (b : Int)).toNat = 32 - b := by omega
  go_enter Try.func31, Try.ntmps31
  go_wp2
  go_ret
  exact ⟨ret_int hr.out, rfl⟩

theorem rotl (x k : Int) (w : World) (h0 : 0 ≤ x) (h1 : x < 4294967296) :
    Calls Try.prog 31 #[.int .u32 x, .int .i64 k] w fun e w' => e = .returned (.int .u32 (rotN x (bOf k) : Int)) ∧ w = w' :=
  rotlAt x k _ (bOf k) w (bOf_lt k) (and31 k) (rot_code h0 h1 (bOf k) (bOf_lt k))

theorem rotate (x k : Int) (w : World) (h0 : 0 ≤ x) (h1 : x < 4294967296) :
    Calls Try.prog 19 #[.int .u32 x, .int .i64 k] w fun e w' => e = .returned (.int .u32 (rotN x (bOf k) : Int)) ∧ w = w' := by
  go_enter Try.func19, Try.ntmps19
  go_wp2_with (go_at_call 31; refine (rotl _ _ _ h0 h1).mono ?_; rintro e w' ⟨rfl, rfl⟩)
  go_ret
  exact ⟨rfl, rfl⟩

set_option maxHeartbeats 400000 in
theorem rotateRefAt (x k : Int) (b C R : Nat) (w : World) (h0 : 0 ≤ x) (h1 : x < 4294967296) (hb : b < 32) (hC : Hid (C = 32)) (hC1 : C ≤ 32) (hl : R < 4294967296)
    (hR : Hid (R = valN (C - 0) fun j => rB x b (0 + j))) (hk : (k.tmod 32 < 0 ∧ k.tmod 32 + 32 = (b : Int)) ∨ k.tmod 32 = (b : Int)) :
    Calls Try.prog 20 #[.int .u32 x, .int .i64 k] w fun e w' => e = .returned (.int .u32 (R : Int)) ∧ w = w' := by
  rcases hk with ⟨c, e⟩ | e
  · go_enter Try.func20, Try.ntmps20
    go_wp2
    go_loop [5, 6] (fun out iv => ∃ c : Nat, c ≤ C ∧ iv = .int .i64 ((c : Int) - 1) ∧ out = .int .u64 ((valN (C - c) fun j => rB x b (c + j) : Nat) : Int)) (fun _ i => (intOf i + 1).toNat)
    case atStart => exact ⟨C, Nat.le_refl _, by rw [hC.out]; rfl, by rw [Nat.sub_self]; rfl⟩
    case round =>
      obtain ⟨c, hc, rfl, rfl⟩ := hrel
      by_cases hlt : 0 < c
      · obtain ⟨d, rfl⟩ : ∃ d, c = d + 1 := ⟨c - 1, by omega⟩
        have e1 : ((d + 1 : Nat) : Int) - 1 = (d : Int) := by omega
        have hbl := bool_le (rB x b d)
        obtain ⟨V, hV⟩ : ∃ V, valN (C - (d + 1)) (fun j => rB x b (d + 1 + j)) = V := ⟨_, rfl⟩
        have hVb : V < 2147483648 := by
          rw [← hV]
          exact Nat.lt_of_lt_of_le (valN_lt _ _) (by have := Nat.pow_le_pow_right (n := 2) (by decide) (show C - (d + 1) ≤ 31 by omega); simpa using this)
        have HS : Hid (((valN (C - d) fun j => rB x b (d + j) : Nat) : Int) = 2 * (V : Int) + ((rB x b d).toNat : Int)) := by
          have hs := valN_step (C - (d + 1)) d (rB x b)
          rw [hV, show C - (d + 1) + 1 = C - d by omega] at hs
          show ((valN (C - d) fun j => rB x b (d + j) : Nat) : Int) = _
          omega
        rw [hV, e1]
        clear hV e1 e
        by_cases c5 : (d : Int) - (b : Int) < 0
        · go_wp2_with (go_at_call 32; refine (Wb.bit _ _ _ h0 (by omega)).mono ?_; rintro e w' ⟨rfl, rfl⟩; rw [rB_bit b d hb (by omega) _ (by rw [if_pos c5])])
          go_round
          case rel => exact ⟨d, by omega, rfl, by rw [HS.out]⟩
          case measure => simp [intOf] <;> omega
        · go_wp2_with (go_at_call 32; refine (Wb.bit _ _ _ h0 (by omega)).mono ?_; rintro e w' ⟨rfl, rfl⟩; rw [rB_bit b d hb (by omega) _ (by rw [if_neg c5])])
          go_round
          case rel => exact ⟨d, by omega, rfl, by rw [HS.out]⟩
          case measure => simp [intOf] <;> omega
      · have hc0 : c = 0 := by omega
        subst hc0
        rw [← hR.out]
        go_wp2
        go_ret
        exact ⟨rfl, rfl⟩
  · have c' : ¬ ((b : Int) < 0) := by omega
    go_enter Try.func20, Try.ntmps20
    go_wp2
    go_loop [5, 6] (fun out iv => ∃ c : Nat, c ≤ C ∧ iv = .int .i64 ((c : Int) - 1) ∧ out = .int .u64 ((valN (C - c) fun j => rB x b (c + j) : Nat) : Int)) (fun _ i => (intOf i + 1).toNat)
    case atStart => exact ⟨C, Nat.le_refl _, by rw [hC.out]; rfl, by rw [Nat.sub_self]; rfl⟩
    case round =>
      obtain ⟨c, hc, rfl, rfl⟩ := hrel
      by_cases hlt : 0 < c
      · obtain ⟨d, rfl⟩ : ∃ d, c = d + 1 := ⟨c - 1, by omega⟩
        have e1 : ((d + 1 : Nat) : Int) - 1 = (d : Int) := by omega
        have hbl := bool_le (rB x b d)
        obtain ⟨V, hV⟩ : ∃ V, valN (C - (d + 1)) (fun j => rB x b (d + 1 + j)) = V := ⟨_, rfl⟩
        have hVb : V < 2147483648 := by
          rw [← hV]
          exact Nat.lt_of_lt_of_le (valN_lt _ _) (by have := Nat.pow_le_pow_right (n := 2) (by decide) (show C - (d + 1) ≤ 31 by omega); simpa using this)
        have HS : Hid (((valN (C - d) fun j => rB x b (d + j) : Nat) : Int) = 2 * (V : Int) + ((rB x b d).toNat : Int)) := by
          have hs := valN_step (C - (d + 1)) d (rB x b)
          rw [hV, show C - (d + 1) + 1 = C - d by omega] at hs
          show ((valN (C - d) fun j => rB x b (d + j) : Nat) : Int) = _
          omega
        rw [hV, e1]
        clear hV e1 e
        by_cases c5 : (d : Int) - (b : Int) < 0
        · go_wp2_with (go_at_call 32; refine (Wb.bit _ _ _ h0 (by omega)).mono ?_; rintro e w' ⟨rfl, rfl⟩; rw [rB_bit b d hb (by omega) _ (by rw [if_pos c5])])
          go_round
          case rel => exact ⟨d, by omega, rfl, by rw [HS.out]⟩
          case measure => simp [intOf] <;> omega
        · go_wp2_with (go_at_call 32; refine (Wb.bit _ _ _ h0 (by omega)).mono ?_; rintro e w' ⟨rfl, rfl⟩; rw [rB_bit b d hb (by omega) _ (by rw [if_neg c5])])
          go_round
          case rel => exact ⟨d, by omega, rfl, by rw [HS.out]⟩
          case measure => simp [intOf] <;> omega
      · have hc0 : c = 0 := by omega
        subst hc0
        rw [← hR.out]
        go_wp2
        go_ret
        exact ⟨rfl, rfl⟩

theorem rotateRef (x k : Int) (w : World) (h0 : 0 ≤ x) (h1 : x < 4294967296) :
    Calls Try.prog 20 #[.int .u32 x, .int .i64 k] w fun e w' => e = .returned (.int .u32 (rotN x (bOf k) : Int)) ∧ w = w' :=
  rotateRefAt x k (bOf k) 32 (rotN x (bOf k)) w h0 h1 (bOf_lt k) rfl (Nat.le_refl _) (rotN_lt _ _) (rotN_eq _ _)
    (by by_cases c : k.tmod 32 < 0
        · exact .inl ⟨c, tmod_neg c⟩
        · exact .inr (tmod_pos c))

/-- The law, out of what its calls come to. -/
theorem lawAt (a0 a1 : Int) (R : Nat) (w : World) (ht : -32 < a1.tmod 32 ∧ a1.tmod 32 < 32)
    (C0 : ∀ w, Calls Try.prog 19 #[.int .u32 1, .int .i64 (-1)] w fun e w' => e = .returned (.int .u32 2147483648) ∧ w = w')
    (C1 : ∀ w, Calls Try.prog 19 #[.int .u32 a0, .int .i64 a1] w fun e w' => e = .returned (.int .u32 (R : Int)) ∧ w = w')
    (C2 : ∀ w, Calls Try.prog 20 #[.int .u32 a0, .int .i64 a1] w fun e w' => e = .returned (.int .u32 (R : Int)) ∧ w = w')
    (C3 : ∀ w, Calls Try.prog 19 #[.int .u32 (R : Int), .int .i64 (-(a1.tmod 32))] w fun e w' => e = .returned (.int .u32 a0) ∧ w = w') :
    Calls Try.prog 6 #[.int .u32 a0, .int .i64 a1] w fun e w' => e = .returned (.bool true) ∧ Below w.heap.size w w' := by
  have H0 : Hid _ := C0
  have H1 : Hid _ := C1
  have H2 : Hid _ := C2
  have H3 : Hid _ := C3
  clear C0 C1 C2 C3
  go_enter Try.func6, Try.ntmps6
  go_wp2_with fail
  refine (H1.out _).mono ?_
  rintro e w' ⟨rfl, rfl⟩
  go_wp2_with fail
  refine (H0.out _).mono ?_
  rintro e w' ⟨rfl, rfl⟩
  go_wp2_with fail
  refine (H2.out _).mono ?_
  rintro e w' ⟨rfl, rfl⟩
  go_wp2_with fail
  refine (H3.out _).mono ?_
  rintro e w' ⟨rfl, rfl⟩
  go_wp2
  go_ret
  exact ⟨rfl, Below.refl _ _⟩

theorem law (a0 a1 : Int) (w0 : (Lit.int .u32 a0).wf = true) (_w1 : (Lit.int .i64 a1).wf = true) (w : World) :
    Calls Try.prog 6 #[.int .u32 a0, .int .i64 a1] w fun e w' => e = .returned (.bool true) ∧ Below w.heap.size w w' := by
  obtain ⟨h0, h1⟩ := wf_u32 w0
  have hl := rotN_lt a0 (bOf a1)
  refine lawAt a0 a1 (rotN a0 (bOf a1)) w (tmod_range a1) (fun w => ?_) (fun w => rotate a0 a1 w h0 h1) (fun w => rotateRef a0 a1 w h0 h1) (fun w => ?_)
  · have e1 : (rotN 1 (bOf (-1)) : Int) = 2147483648 := by decide
    have C := rotate 1 (-1) w (by decide) (by decide)
    rw [e1] at C
    exact C
  · have C := rotate (rotN a0 (bOf a1) : Int) (-(a1.tmod 32)) w (by omega) (by omega)
    rw [rot_back h0 h1 (bOf a1) (bOf (-(a1.tmod 32))) (bOf_lt _) (bOf_lt _) (bOf_back a1)] at C
    exact C

end Go.Proofs.Ytbicbkimmblhgaa.Wr
