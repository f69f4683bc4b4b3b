/-
  The walks of words.Narrow, of the document's Narrow, and of the law WordsNarrows: each returns the number with a sign that the lowest bits are, as 'narI' says; the law returns true. Conditions: none but that each number fits its kind.
-/
import Derived.Test.YtbicbkimmblhgaaRows
import Derived.Test.YtbicbkimmblhgaaMathE
import Derived.Test.YtbicbkimmblhgaaPut
import Derived.Test.YtbicbkimmblhgaaBits
import Derived.WalkKit
import Derived.ProofKit
import Derived.OpenShut
namespace Go.Proofs.Ytbicbkimmblhgaa.Wn
open Go.ChangeShapes Go.WideShapes Go.ChangeAt Go.RowKit Go.Proofs.Ytbicbkimmblhgaa.M

theorem narrowAt (n b r : Int) (c : Nat) (w : World) (h1 : 1 ≤ c) (h2 : c ≤ 64) (hm : max 1 (min b 64) = (c : Int)) (hr : Hid (wrap64 (n * 2 ^ (64 - c)) / 2 ^ (64 - c) = r)) :
    Calls Try.prog 23 #[.int .i64 n, .int .i64 b] w fun e w' => e = .returned (.int .i64 r) ∧ w = w' := by
  have e2 : (64 - (c : Int)).toNat = 64 - c := by omega
  go_enter Try.func23, Try.ntmps23
  go_wp2_with (first
    | (go_at_call 30; refine (Wp.clamp _ _ _ _).mono ?_; rintro e w' ⟨rfl, rfl⟩; rw [hm]))
  go_ret
  exact ⟨ret_int hr.out, rfl⟩

theorem narrow (n b : Int) (w : World) :
    Calls Try.prog 23 #[.int .i64 n, .int .i64 b] w fun e w' => e = .returned (.int .i64 (narI n (wOf b))) ∧ w = w' :=
  narrowAt n b _ (wOf b) w (wOf_range b).1 (wOf_range b).2 (wOf_eq b) (nar_code n (wOf_range b).1 (wOf_range b).2)

theorem bit_at {m : Int} {M : Nat} (hM : m.toNat = M) (i : Nat) : bitB m (i : Int) = M.testBit i := by
  unfold bitB
  rw [hM, Int.toNat_natCast, decide_eq_true (show (0 : Int) ≤ (i : Int) by omega), Bool.true_and]

/-- The document's, out of the bits of the number without a sign. -/
theorem narrowRefAt (n b r m : Int) (c M : Nat) (w : World) (h1 : 1 ≤ c) (h2 : c ≤ 63) (em : IntKind.u64.wrap n = m) (hm0 : 0 ≤ m) (hm1 : m < 18446744073709551616) (hM : Hid (m.toNat = M))
    (hb : (b < 1 ∧ Hid (c = 1) ∧ c ≤ 1) ∨ (b = (c : Int) ∧ 1 ≤ b))
    (hr : Hid (((M % 2 ^ (c - 1) : Nat) : Int) - ((M.testBit (c - 1)).toNat : Int) * 2 ^ (c - 1) = r)) :
    Calls Try.prog 24 #[.int .i64 n, .int .i64 b] w fun e w' => e = .returned (.int .i64 r) ∧ w = w' := by
  rcases hb with ⟨g1, g2, g3⟩ | ⟨rfl, g1⟩
  all_goals
    go_enter Try.func24, Try.ntmps24
    go_wp2
    go_loop [6, 7, 8] (fun vv pv iv => ∃ i : Nat, i ≤ c - 1 ∧ iv = .int .i64 (i : Int) ∧ vv = .int .i64 ((M % 2 ^ i : Nat) : Int) ∧ pv = .int .i64 ((2 ^ i : Nat) : Int)) (fun _ _ i => c - (intOf i).toNat)
    case atStart => exact ⟨0, Nat.zero_le _, rfl, by rw [Nat.pow_zero, Nat.mod_one]; rfl, rfl⟩
    case round =>
      obtain ⟨i, hi, rfl, rfl, rfl⟩ := hrel
      have hV : M % 2 ^ i < 2 ^ i := Nat.mod_lt _ (Nat.pow_pos (by decide))
      have hB := bit_at hM.out i
      have hs : Hid (M % 2 ^ (i + 1) = M % 2 ^ i + (M.testBit i).toNat * 2 ^ i) := mod_step M i
      have hp : Hid (2 ^ (i + 1) = 2 * 2 ^ i) := by show 2 ^ (i + 1) = 2 * 2 ^ i; rw [Nat.pow_succ, Nat.mul_comm]
      have hP : 2 ^ i ≤ 4611686018427387904 := by have := Nat.pow_le_pow_right (n := 2) (by decide) (show i ≤ 62 by omega); simpa using this
      obtain ⟨V, eV⟩ : ∃ V, M % 2 ^ i = V := ⟨_, rfl⟩
      obtain ⟨P, eP⟩ : ∃ P, 2 ^ i = P := ⟨_, rfl⟩
      rw [eV] at hV hs ⊢
      rw [eP] at hV hs hp hP ⊢
      by_cases hlt : i < c - 1
      · have hP2 : P ≤ 2305843009213693952 := by rw [← eP]; have := Nat.pow_le_pow_right (n := 2) (by decide) (show i ≤ 61 by omega); simpa using this
        clear eV eP
        first
          | (exfalso; omega)
          | (by_cases hbit : M.testBit i = true
             · rw [hbit] at hB hs
               go_wp2_with (go_at_call 32; refine (Wb.bit _ _ _ hm0 hm1).mono ?_; rintro e w' ⟨rfl, rfl⟩; rw [hB])
               go_round
               case rel => exact ⟨i + 1, by omega, by go_num, by rw [hs.out]; simp, by rw [hp.out]; simp⟩
               case measure => simp [intOf] <;> omega
             · have hbit' : M.testBit i = false := by simpa using hbit
               rw [hbit'] at hB hs
               go_wp2_with (go_at_call 32; refine (Wb.bit _ _ _ hm0 hm1).mono ?_; rintro e w' ⟨rfl, rfl⟩; rw [hB])
               go_round
               case rel => exact ⟨i + 1, by omega, by go_num, by rw [hs.out]; simp, by rw [hp.out]; simp⟩
               case measure => simp [intOf] <;> omega)
      · have hki : i = c - 1 := by omega
        have e3 : (c : Int) - 1 = (i : Int) := by omega
        have HR : Hid ((V : Int) - ((M.testBit i).toNat : Int) * (P : Int) = r) := by
          have h := hr.out
          rw [← hki, eV] at h
          have e4 : ((2 : Int) ^ i) = (P : Int) := by rw [← eP]; simp
          rw [e4] at h
          exact h
        have hB0 : Hid (i = 0 → bitB m 0 = M.testBit i) := fun h => by subst h; simpa using bit_at hM.out 0
        clear hki eV eP hs hp hr
        by_cases hbit : M.testBit i = true
        · have HR2 : Hid ((V : Int) - (P : Int) = r) := by have h := HR.out; rw [hbit] at h; show (V : Int) - (P : Int) = r; simpa using h
          rw [hbit] at hB hB0
          go_wp2_with (go_at_call 32; refine (Wb.bit _ _ _ hm0 hm1).mono ?_; rintro e w' ⟨rfl, rfl⟩; first | rw [hB] | rw [hB0.out (by omega)])
          go_ret
          exact ⟨ret_int HR2.out, rfl⟩
        · have hbit' : M.testBit i = false := by simpa using hbit
          have HR2 : Hid ((V : Int) = r) := by have h := HR.out; rw [hbit'] at h; show (V : Int) = r; simpa using h
          rw [hbit'] at hB hB0
          go_wp2_with (go_at_call 32; refine (Wb.bit _ _ _ hm0 hm1).mono ?_; rintro e w' ⟨rfl, rfl⟩; first | rw [hB] | rw [hB0.out (by omega)])
          go_ret
          exact ⟨ret_int HR2.out, rfl⟩

theorem narrowRef (n b : Int) (w : World) (h0 : -9223372036854775808 ≤ n) (h1 : n < 9223372036854775808) :
    Calls Try.prog 24 #[.int .i64 n, .int .i64 b] w fun e w' => e = .returned (.int .i64 (narI n (wOf b))) ∧ w = w' := by
  by_cases c : 64 ≤ b
  · have e : narI n (wOf b) = n := by
      have hw : wOf b = 64 := by unfold wOf; omega
      rw [hw]
      exact nar_same (by decide) (by simpa using h0) (by simpa using h1)
    rw [e]
    go_enter Try.func24, Try.ntmps24
    go_wp2
    go_ret
    exact ⟨rfl, rfl⟩
  · have hw := wOf_range b
    have hw2 : wOf b ≤ 63 := by unfold wOf; omega
    refine narrowRefAt n b _ (n % 18446744073709551616) (wOf b) _ w hw.1 hw2 (IntKind.wrap_u64 n) (by omega) (by omega) rfl ?_ (nar_ref n hw.1 hw2)
    by_cases c2 : b < 1
    · exact .inl ⟨c2, by show wOf b = 1; unfold wOf; omega, by unfold wOf; omega⟩
    · exact .inr ⟨by unfold wOf; omega, by omega⟩

/-- The law, out of what its calls come to. -/
theorem lawAt (a0 a1 R : Int) (w : World)
    (C0 : ∀ w, Calls Try.prog 23 #[.int .i64 200, .int .i64 8] w fun e w' => e = .returned (.int .i64 (-56)) ∧ w = w')
    (C1 : ∀ w, Calls Try.prog 23 #[.int .i64 a0, .int .i64 a1] w fun e w' => e = .returned (.int .i64 R) ∧ w = w')
    (C2 : ∀ w, Calls Try.prog 24 #[.int .i64 a0, .int .i64 a1] w fun e w' => e = .returned (.int .i64 R) ∧ w = w')
    (C3 : ∀ w, Calls Try.prog 23 #[.int .i64 R, .int .i64 a1] w fun e w' => e = .returned (.int .i64 R) ∧ w = w') :
    Calls Try.prog 8 #[.int .i64 a0, .int .i64 a1] w fun e w' => e = .returned (.bool true) ∧ Below w.heap.size w w' := by
  have H0 : Hid _ := C0
  have H1 : Hid _ := C1
  have H2 : Hid _ := C2
  have H3 : Hid _ := C3
  clear C0 C1 C2 C3
  go_enter Try.func8, Try.ntmps8
  go_wp2_with fail
  refine (H1.out _).mono ?_
  rintro e w' ⟨rfl, rfl⟩
  go_wp2_with fail
  refine (H0.out _).mono ?_
  rintro e w' ⟨rfl, rfl⟩
  go_wp2_with fail
  refine (H2.out _).mono ?_
  rintro e w' ⟨rfl, rfl⟩
  go_wp2_with fail
  refine (H3.out _).mono ?_
  rintro e w' ⟨rfl, rfl⟩
  go_wp2
  go_ret
  exact ⟨rfl, Below.refl _ _⟩

theorem law (a0 a1 : Int) (w0 : (Lit.int .i64 a0).wf = true) (_w1 : (Lit.int .i64 a1).wf = true) (w : World) :
    Calls Try.prog 8 #[.int .i64 a0, .int .i64 a1] w fun e w' => e = .returned (.bool true) ∧ Below w.heap.size w w' := by
  obtain ⟨h0, h1⟩ := wf_i64 w0
  refine lawAt a0 a1 (narI a0 (wOf a1)) w (fun w => ?_) (fun w => narrow a0 a1 w) (fun w => narrowRef a0 a1 w h0 h1) (fun w => ?_)
  · have e1 : narI 200 (wOf 8) = -56 := by decide
    have C := narrow 200 8 w
    rw [e1] at C
    exact C
  · have C := narrow (narI a0 (wOf a1)) a1 w
    rw [nar_again a0 (wOf_range a1).1] at C
    exact C

end Go.Proofs.Ytbicbkimmblhgaa.Wn
