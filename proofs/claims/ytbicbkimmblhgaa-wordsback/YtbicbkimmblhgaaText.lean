/-
  The walks of words.Text, words.GetText, of the document's two, and of the law WordsTexts: each returns the bytes, the text, the place and the error that 'tB', 'tE', 'xB', 'xX', 'xE' say, and nothing that was in memory has turned; the law returns true. Conditions: none but that each number fits its kind and that each text's length is an int.
-/
import Derived.Test.YtbicbkimmblhgaaRows
import Derived.Test.YtbicbkimmblhgaaMathT
import Derived.Test.YtbicbkimmblhgaaPut
import Derived.Test.YtbicbkimmblhgaaGet
import Derived.Test.YtbicbkimmblhgaaClone
import Derived.WalkKit
import Derived.ProofKit
import Derived.OpenShut
import Derived.WalkSpells
namespace Go.Proofs.Ytbicbkimmblhgaa.Wt
open Go.ChangeShapes Go.WideShapes Go.ChangeAt Go.RowKit Go.Proofs.Ytbicbkimmblhgaa.M

theorem k2 : Wp.kOf 2 = 2 := by decide

theorem text (s : ByteArray) (w : World) (hs : s.size ≤ maxLen) :
    Calls Try.prog 25 #[.string s] w fun e w' => e = .returned (.tuple #[.string (tB s), .int .i64 (tE s)]) ∧ Below w.heap.size w w' := by
  unfold maxLen at hs
  by_cases c : 65535 < s.size
  · obtain ⟨e1, e2⟩ := t_long c
    rw [e1, e2]
    clear e1 e2
    go_enter Try.func25, Try.ntmps25
    go_wp2
    go_ret2
    exact ⟨rfl, Below.refl _ _⟩
  · obtain ⟨e1, e2⟩ := t_ok c
    rw [e1, e2]
    clear e1 e2
    have hz := beB_size 2 (s.size : Int)
    go_enter Try.func25, Try.ntmps25
    go_wp2_with fail
    refine (Wp.putAny _ _ _ (by omega) (by omega)).mono ?_
    rintro e w1 ⟨rfl, b1⟩
    rw [k2]
    go_wp2
    go_ret2
    exact ⟨rfl, b1⟩

theorem textRef (s : ByteArray) (w : World) (hs : s.size ≤ maxLen) :
    Calls Try.prog 26 #[.string s] w fun e w' => e = .returned (.tuple #[.string (tB s), .int .i64 (tE s)]) ∧ Below w.heap.size w w' := by
  unfold maxLen at hs
  by_cases c : 65535 < s.size
  · obtain ⟨e1, e2⟩ := t_long c
    rw [e1, e2]
    clear e1 e2
    go_enter Try.func26, Try.ntmps26
    go_wp2
    go_ret2
    exact ⟨rfl, Below.refl _ _⟩
  · obtain ⟨e1, e2⟩ := t_ok c
    rw [e1, e2]
    clear e1 e2
    have hz := beB_size 2 (s.size : Int)
    go_enter Try.func26, Try.ntmps26
    go_wp2_with fail
    refine (Wp.putRefAny _ _ _ (by omega) (by omega)).mono ?_
    rintro e w1 ⟨rfl, b1⟩
    rw [k2]
    go_wp2
    go_ret2
    exact ⟨rfl, b1⟩

/-- GetText, out of what its Get comes to. -/
theorem getTextErr (s : ByteArray) (at_ N X E : Int) (w : World) (C : ∀ w, Calls Try.prog 13 #[.string s, .int .i64 at_, .int .i64 2] w fun e w' => e = .returned (.tuple #[.int .u64 N, .int .i64 X, .int .i64 E]) ∧ w = w')
    (hE : E ≠ 0) : Calls Try.prog 27 #[.string s, .int .i64 at_] w fun e w' => e = .returned (.tuple #[.string ⟨#[]⟩, .int .i64 0, .int .i64 E]) ∧ Below w.heap.size w w' := by
  have H : Hid _ := C
  have hE' : (E == 0) = false := by simpa using hE
  clear C hE
  go_enter Try.func27, Try.ntmps27
  go_wp2_with fail
  refine (H.out _).mono ?_
  rintro e w1 ⟨rfl, rfl⟩
  go_wp2
  go_ret3
  exact ⟨rfl, Below.refl _ _⟩

theorem getTextShort (s : ByteArray) (at_ : Int) (N X : Nat) (w : World) (C : ∀ w, Calls Try.prog 13 #[.string s, .int .i64 at_, .int .i64 2] w fun e w' => e = .returned (.tuple #[.int .u64 (N : Int), .int .i64 (X : Int), .int .i64 0]) ∧ w = w')
    (hN : N < 65536) (hX : X ≤ s.size) (hc : (s.size : Int) - (X : Int) < (N : Int)) : Calls Try.prog 27 #[.string s, .int .i64 at_] w fun e w' => e = .returned (.tuple #[.string ⟨#[]⟩, .int .i64 0, .int .i64 3]) ∧ Below w.heap.size w w' := by
  have H : Hid _ := C
  clear C
  go_enter Try.func27, Try.ntmps27
  go_wp2_with fail
  refine (H.out _).mono ?_
  rintro e w1 ⟨rfl, rfl⟩
  go_wp2
  go_ret3
  exact ⟨rfl, Below.refl _ _⟩

theorem getTextOk (s : ByteArray) (at_ : Int) (N X : Nat) (w : World) (C : ∀ w, Calls Try.prog 13 #[.string s, .int .i64 at_, .int .i64 2] w fun e w' => e = .returned (.tuple #[.int .u64 (N : Int), .int .i64 (X : Int), .int .i64 0]) ∧ w = w')
    (hs : s.size ≤ 9223372036854775807) (hN : N < 65536) (hX : X ≤ s.size) (hc : ¬ (s.size : Int) - (X : Int) < (N : Int)) : Calls Try.prog 27 #[.string s, .int .i64 at_] w fun e w' => e = .returned (.tuple #[.string (s.extract X (X + N)), .int .i64 ((X : Int) + (N : Int)), .int .i64 0]) ∧ Below w.heap.size w w' := by
  have H : Hid _ := C
  clear C
  go_enter Try.func27, Try.ntmps27
  go_wp2_with fail
  refine (H.out _).mono ?_
  rintro e w1 ⟨rfl, rfl⟩
  go_wp2_with fail
  refine (Wc.clone _ _ (by rw [ByteArray.size_extract]; omega)).mono ?_
  rintro e w1 ⟨rfl, b1⟩
  go_wp2
  go_ret3
  exact ⟨rfl, b1⟩

/-- The document's, out of what its Get comes to. -/
theorem getTextRefErr (s : ByteArray) (at_ N X E : Int) (w : World) (C : ∀ w, Calls Try.prog 14 #[.string s, .int .i64 at_, .int .i64 2] w fun e w' => e = .returned (.tuple #[.int .u64 N, .int .i64 X, .int .i64 E]) ∧ w = w')
    (hE : E ≠ 0) : Calls Try.prog 28 #[.string s, .int .i64 at_] w fun e w' => e = .returned (.tuple #[.string ⟨#[]⟩, .int .i64 0, .int .i64 E]) ∧ Below w.heap.size w w' := by
  have H : Hid _ := C
  have hE' : (E == 0) = false := by simpa using hE
  clear C hE
  go_enter Try.func28, Try.ntmps28
  go_wp2_with fail
  refine (H.out _).mono ?_
  rintro e w1 ⟨rfl, rfl⟩
  go_wp2
  go_ret3
  exact ⟨rfl, Below.refl _ _⟩

theorem getTextRefShort (s : ByteArray) (at_ : Int) (N X : Nat) (w : World) (C : ∀ w, Calls Try.prog 14 #[.string s, .int .i64 at_, .int .i64 2] w fun e w' => e = .returned (.tuple #[.int .u64 (N : Int), .int .i64 (X : Int), .int .i64 0]) ∧ w = w')
    (hN : N < 65536) (hX : X ≤ s.size) (hc : (s.size : Int) - (X : Int) < (N : Int)) : Calls Try.prog 28 #[.string s, .int .i64 at_] w fun e w' => e = .returned (.tuple #[.string ⟨#[]⟩, .int .i64 0, .int .i64 3]) ∧ Below w.heap.size w w' := by
  have H : Hid _ := C
  clear C
  go_enter Try.func28, Try.ntmps28
  go_wp2_with fail
  refine (H.out _).mono ?_
  rintro e w1 ⟨rfl, rfl⟩
  go_wp2
  go_ret3
  exact ⟨rfl, Below.refl _ _⟩

theorem getTextRefOk (s : ByteArray) (at_ : Int) (N X : Nat) (w : World) (C : ∀ w, Calls Try.prog 14 #[.string s, .int .i64 at_, .int .i64 2] w fun e w' => e = .returned (.tuple #[.int .u64 (N : Int), .int .i64 (X : Int), .int .i64 0]) ∧ w = w')
    (hs : s.size ≤ 9223372036854775807) (hN : N < 65536) (hX : X ≤ s.size) (hc : ¬ (s.size : Int) - (X : Int) < (N : Int)) : Calls Try.prog 28 #[.string s, .int .i64 at_] w fun e w' => e = .returned (.tuple #[.string (s.extract X (X + N)), .int .i64 ((X : Int) + (N : Int)), .int .i64 0]) ∧ Below w.heap.size w w' := by
  have H : Hid _ := C
  clear C
  go_enter Try.func28, Try.ntmps28
  go_wp2_with fail
  refine (H.out _).mono ?_
  rintro e w1 ⟨rfl, rfl⟩
  go_wp2
  go_ret3
  exact ⟨rfl, Below.refl _ _⟩

theorem getText (s : ByteArray) (at_ : Int) (w : World) (hs : s.size ≤ maxLen) (h0 : -9223372036854775808 ≤ at_) (h1 : at_ < 9223372036854775808) :
    Calls Try.prog 27 #[.string s, .int .i64 at_] w fun e w' => e = .returned (.tuple #[.string (xB s at_), .int .i64 (xX s at_), .int .i64 (xE s at_)]) ∧ Below w.heap.size w w' := by
  have C := fun w => Wg.get s at_ 2 w hs h0 h1
  have hs' : s.size ≤ 9223372036854775807 := by unfold maxLen at hs; omega
  by_cases c0 : gE s at_ 2 = 0
  · obtain ⟨n0, n1, x0, x1⟩ := g_two c0
    have eN : ((gN s at_ 2).toNat : Int) = gN s at_ 2 := by omega
    have eX : ((gX s at_ 2).toNat : Int) = gX s at_ 2 := by omega
    rw [c0, ← eN, ← eX] at C
    by_cases c1 : (s.size : Int) - gX s at_ 2 < gN s at_ 2
    · obtain ⟨e1, e2, e3⟩ := x_short c0 c1
      rw [e1, e2, e3]
      exact getTextShort s at_ _ _ w C (by omega) (by omega) (by omega)
    · obtain ⟨e1, e2, e3⟩ := x_ok c0 c1
      rw [e1, e2, e3]
      have R := getTextOk s at_ _ _ w C hs' (by omega) (by omega) (by omega)
      rw [eN, eX] at R
      exact R
  · obtain ⟨e1, e2, e3⟩ := x_err c0
    rw [e1, e2, e3]
    exact getTextErr s at_ _ _ _ w C c0

theorem getTextRef (s : ByteArray) (at_ : Int) (w : World) (hs : s.size ≤ maxLen) (h0 : -9223372036854775808 ≤ at_) (h1 : at_ < 9223372036854775808) :
    Calls Try.prog 28 #[.string s, .int .i64 at_] w fun e w' => e = .returned (.tuple #[.string (xB s at_), .int .i64 (xX s at_), .int .i64 (xE s at_)]) ∧ Below w.heap.size w w' := by
  have C := fun w => Wg.getRef s at_ 2 w hs h0 h1
  have hs' : s.size ≤ 9223372036854775807 := by unfold maxLen at hs; omega
  by_cases c0 : gE s at_ 2 = 0
  · obtain ⟨n0, n1, x0, x1⟩ := g_two c0
    have eN : ((gN s at_ 2).toNat : Int) = gN s at_ 2 := by omega
    have eX : ((gX s at_ 2).toNat : Int) = gX s at_ 2 := by omega
    rw [c0, ← eN, ← eX] at C
    by_cases c1 : (s.size : Int) - gX s at_ 2 < gN s at_ 2
    · obtain ⟨e1, e2, e3⟩ := x_short c0 c1
      rw [e1, e2, e3]
      exact getTextRefShort s at_ _ _ w C (by omega) (by omega) (by omega)
    · obtain ⟨e1, e2, e3⟩ := x_ok c0 c1
      rw [e1, e2, e3]
      have R := getTextRefOk s at_ _ _ w C hs' (by omega) (by omega) (by omega)
      rw [eN, eX] at R
      exact R
  · obtain ⟨e1, e2, e3⟩ := x_err c0
    rw [e1, e2, e3]
    exact getTextRefErr s at_ _ _ _ w C c0

theorem law (a0 a1 : ByteArray) (a2 : Int) (w0 : a0.size ≤ maxLen) (w1 : a1.size ≤ maxLen) (w2 : (Lit.int .i64 a2).wf = true) (w : World) :
    Calls Try.prog 9 #[.string a0, .string a1, .int .i64 a2] w fun e w' => e = .returned (.bool true) ∧ Below w.heap.size w w' := by
  obtain ⟨h0, h1⟩ := wf_i64 w2
  clear w2
  have e1 : tB ⟨#[120]⟩ = ⟨#[0, 1, 120]⟩ := by decide
  have e2 : tE ⟨#[120]⟩ = 0 := by decide
  go_enter Try.func9, Try.ntmps9
  go_wp2_with fail
  refine (text _ _ w0).mono ?_
  rintro e v1 ⟨rfl, b1⟩
  go_wp2_with fail
  refine (textRef _ _ w0).mono ?_
  rintro e v2 ⟨rfl, b2⟩
  go_wp2_with fail
  refine (getText _ _ _ w1 h0 h1).mono ?_
  rintro e v3 ⟨rfl, b3⟩
  go_wp2_with fail
  refine (getTextRef _ _ _ w1 h0 h1).mono ?_
  rintro e v4 ⟨rfl, b4⟩
  go_wp2_with fail
  refine (text _ _ (by decide)).mono ?_
  rintro e v5 ⟨rfl, b5⟩
  rw [e1, e2]
  go_wp2
  go_ret
  have s1 := b1.size
  have s2 := b2.size
  have s3 := b3.size
  have s4 := b4.size
  exact ⟨rfl, b1.trans ((b2.mono (by omega)).trans ((b3.mono (by omega)).trans ((b4.mono (by omega)).trans (b5.mono (by omega)))))⟩

end Go.Proofs.Ytbicbkimmblhgaa.Wt
