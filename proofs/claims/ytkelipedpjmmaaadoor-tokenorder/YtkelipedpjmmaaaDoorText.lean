/-
  The walks of words.Text, words.GetText, of the document's two, and of the law WordsTexts: each returns the bytes, the text, the place and the error that 'tB', 'tE', 'xB', 'xX', 'xE' say, and nothing that was in memory has turned; the law returns true. Conditions: none but that each number fits its kind and that each text's length is an int.
-/
import Derived.Test.YtkelipedpjmmaaaDoorRows
import Derived.Test.YtkelipedpjmmaaaDoorQa
import Derived.Test.YtkelipedpjmmaaaDoorPut
import Derived.Test.YtkelipedpjmmaaaDoorGet
import Derived.Test.YtkelipedpjmmaaaDoorClone
import Derived.WalkKit
import Derived.ProofKit
import Derived.OpenShut
import Derived.WalkSpells
namespace Go.Proofs.YtkelipedpjmmaaaDoor.Wt
open Go.ChangeShapes Go.WideShapes Go.ChangeAt Go.RowKit Go.Proofs.YtkelipedpjmmaaaDoor.M

theorem k2 : Wp.kOf 2 = 2 := by decide

theorem text (s : ByteArray) (w : World) (hs : s.size ≤ maxLen) :
    Calls Tryd.prog 88 #[.string s] w fun e w' => e = .returned (.tuple #[.string (tB s), .int .i64 (tE s)]) ∧ Below w.heap.size w w' := by
  unfold maxLen at hs
  by_cases c : 65535 < s.size
  · obtain ⟨e1, e2⟩ := t_long c
    rw [e1, e2]
    clear e1 e2
    go_enter Tryd.func88, Tryd.ntmps88
    go_wp2
    go_ret2
    exact ⟨rfl, Below.refl _ _⟩
  · obtain ⟨e1, e2⟩ := t_ok c
    rw [e1, e2]
    clear e1 e2
    have hz := beB_size 2 (s.size : Int)
    go_enter Tryd.func88, Tryd.ntmps88
    go_wp2_with fail
    refine (Wp.putAny _ _ _ (by omega) (by omega)).mono ?_
    rintro e w1 ⟨rfl, b1⟩
    rw [k2]
    go_wp2
    go_ret2
    exact ⟨rfl, b1⟩

/-- GetText, out of what its Get comes to. -/
theorem getTextErr (s : ByteArray) (at_ N X E : Int) (w : World) (C : ∀ w, Calls Tryd.prog 73 #[.string s, .int .i64 at_, .int .i64 2] w fun e w' => e = .returned (.tuple #[.int .u64 N, .int .i64 X, .int .i64 E]) ∧ w = w')
    (hE : E ≠ 0) : Calls Tryd.prog 75 #[.string s, .int .i64 at_] w fun e w' => e = .returned (.tuple #[.string ⟨#[]⟩, .int .i64 0, .int .i64 E]) ∧ Below w.heap.size w w' := by
  have H : Hid _ := C
  have hE' : (E == 0) = false := by simpa using hE
  clear C hE
  go_enter Tryd.func75, Tryd.ntmps75
  go_wp2_with fail
  refine (H.out _).mono ?_
  rintro e w1 ⟨rfl, rfl⟩
  go_wp2
  go_ret3
  exact ⟨rfl, Below.refl _ _⟩

theorem getTextShort (s : ByteArray) (at_ : Int) (N X : Nat) (w : World) (C : ∀ w, Calls Tryd.prog 73 #[.string s, .int .i64 at_, .int .i64 2] w fun e w' => e = .returned (.tuple #[.int .u64 (N : Int), .int .i64 (X : Int), .int .i64 0]) ∧ w = w')
    (hN : N < 65536) (hX : X ≤ s.size) (hc : (s.size : Int) - (X : Int) < (N : Int)) : Calls Tryd.prog 75 #[.string s, .int .i64 at_] w fun e w' => e = .returned (.tuple #[.string ⟨#[]⟩, .int .i64 0, .int .i64 3]) ∧ Below w.heap.size w w' := by
  have H : Hid _ := C
  clear C
  go_enter Tryd.func75, Tryd.ntmps75
  go_wp2_with fail
  refine (H.out _).mono ?_
  rintro e w1 ⟨rfl, rfl⟩
  go_wp2
  go_ret3
  exact ⟨rfl, Below.refl _ _⟩

theorem getTextOk (s : ByteArray) (at_ : Int) (N X : Nat) (w : World) (C : ∀ w, Calls Tryd.prog 73 #[.string s, .int .i64 at_, .int .i64 2] w fun e w' => e = .returned (.tuple #[.int .u64 (N : Int), .int .i64 (X : Int), .int .i64 0]) ∧ w = w')
    (hs : s.size ≤ 9223372036854775807) (hN : N < 65536) (hX : X ≤ s.size) (hc : ¬ (s.size : Int) - (X : Int) < (N : Int)) : Calls Tryd.prog 75 #[.string s, .int .i64 at_] w fun e w' => e = .returned (.tuple #[.string (s.extract X (X + N)), .int .i64 ((X : Int) + (N : Int)), .int .i64 0]) ∧ Below w.heap.size w w' := by
  have H : Hid _ := C
  clear C
  go_enter Tryd.func75, Tryd.ntmps75
  go_wp2_with fail
  refine (H.out _).mono ?_
  rintro e w1 ⟨rfl, rfl⟩
  go_wp2_with fail
  refine (Wc.clone _ _ (by rw [ByteArray.size_extract]; omega)).mono ?_
  rintro e w1 ⟨rfl, b1⟩
  go_wp2
  go_ret3
  exact ⟨rfl, b1⟩

/-- The document's, out of what its Get comes to. -/
theorem getTextRefErr (s : ByteArray) (at_ N X E : Int) (w : World) (C : ∀ w, Calls Tryd.prog 43 #[.string s, .int .i64 at_, .int .i64 2] w fun e w' => e = .returned (.tuple #[.int .u64 N, .int .i64 X, .int .i64 E]) ∧ w = w')
    (hE : E ≠ 0) : Calls Tryd.prog 45 #[.string s, .int .i64 at_] w fun e w' => e = .returned (.tuple #[.string ⟨#[]⟩, .int .i64 0, .int .i64 E]) ∧ Below w.heap.size w w' := by
  have H : Hid _ := C
  have hE' : (E == 0) = false := by simpa using hE
  clear C hE
  go_enter Tryd.func45, Tryd.ntmps45
  go_wp2_with fail
  refine (H.out _).mono ?_
  rintro e w1 ⟨rfl, rfl⟩
  go_wp2
  go_ret3
  exact ⟨rfl, Below.refl _ _⟩

theorem getTextRefShort (s : ByteArray) (at_ : Int) (N X : Nat) (w : World) (C : ∀ w, Calls Tryd.prog 43 #[.string s, .int .i64 at_, .int .i64 2] w fun e w' => e = .returned (.tuple #[.int .u64 (N : Int), .int .i64 (X : Int), .int .i64 0]) ∧ w = w')
    (hN : N < 65536) (hX : X ≤ s.size) (hc : (s.size : Int) - (X : Int) < (N : Int)) : Calls Tryd.prog 45 #[.string s, .int .i64 at_] w fun e w' => e = .returned (.tuple #[.string ⟨#[]⟩, .int .i64 0, .int .i64 3]) ∧ Below w.heap.size w w' := by
  have H : Hid _ := C
  clear C
  go_enter Tryd.func45, Tryd.ntmps45
  go_wp2_with fail
  refine (H.out _).mono ?_
  rintro e w1 ⟨rfl, rfl⟩
  go_wp2
  go_ret3
  exact ⟨rfl, Below.refl _ _⟩

theorem getTextRefOk (s : ByteArray) (at_ : Int) (N X : Nat) (w : World) (C : ∀ w, Calls Tryd.prog 43 #[.string s, .int .i64 at_, .int .i64 2] w fun e w' => e = .returned (.tuple #[.int .u64 (N : Int), .int .i64 (X : Int), .int .i64 0]) ∧ w = w')
    (hs : s.size ≤ 9223372036854775807) (hN : N < 65536) (hX : X ≤ s.size) (hc : ¬ (s.size : Int) - (X : Int) < (N : Int)) : Calls Tryd.prog 45 #[.string s, .int .i64 at_] w fun e w' => e = .returned (.tuple #[.string (s.extract X (X + N)), .int .i64 ((X : Int) + (N : Int)), .int .i64 0]) ∧ Below w.heap.size w w' := by
  have H : Hid _ := C
  clear C
  go_enter Tryd.func45, Tryd.ntmps45
  go_wp2_with fail
  refine (H.out _).mono ?_
  rintro e w1 ⟨rfl, rfl⟩
  go_wp2
  go_ret3
  exact ⟨rfl, Below.refl _ _⟩

theorem getText (s : ByteArray) (at_ : Int) (w : World) (hs : s.size ≤ maxLen) (h0 : -9223372036854775808 ≤ at_) (h1 : at_ < 9223372036854775808) :
    Calls Tryd.prog 75 #[.string s, .int .i64 at_] w fun e w' => e = .returned (.tuple #[.string (xB s at_), .int .i64 (xX s at_), .int .i64 (xE s at_)]) ∧ Below w.heap.size w w' := by
  have C := fun w => Wg.get s at_ 2 w hs h0 h1
  have hs' : s.size ≤ 9223372036854775807 := by unfold maxLen at hs; omega
  by_cases c0 : gE s at_ 2 = 0
  · obtain ⟨n0, n1, x0, x1⟩ := g_two c0
    have eN : ((gN s at_ 2).toNat : Int) = gN s at_ 2 := by omega
    have eX : ((gX s at_ 2).toNat : Int) = gX s at_ 2 := by omega
    rw [c0, ← eN, ← eX] at C
    by_cases c1 : (s.size : Int) - gX s at_ 2 < gN s at_ 2
    · obtain ⟨e1, e2, e3⟩ := x_short c0 c1
      rw [e1, e2, e3]
      exact getTextShort s at_ _ _ w C (by omega) (by omega) (by omega)
    · obtain ⟨e1, e2, e3⟩ := x_ok c0 c1
      rw [e1, e2, e3]
      have R := getTextOk s at_ _ _ w C hs' (by omega) (by omega) (by omega)
      rw [eN, eX] at R
      exact R
  · obtain ⟨e1, e2, e3⟩ := x_err c0
    rw [e1, e2, e3]
    exact getTextErr s at_ _ _ _ w C c0

theorem getTextRef (s : ByteArray) (at_ : Int) (w : World) (hs : s.size ≤ maxLen) (h0 : -9223372036854775808 ≤ at_) (h1 : at_ < 9223372036854775808) :
    Calls Tryd.prog 45 #[.string s, .int .i64 at_] w fun e w' => e = .returned (.tuple #[.string (xB s at_), .int .i64 (xX s at_), .int .i64 (xE s at_)]) ∧ Below w.heap.size w w' := by
  have C := fun w => Wg.getRef s at_ 2 w hs h0 h1
  have hs' : s.size ≤ 9223372036854775807 := by unfold maxLen at hs; omega
  by_cases c0 : gE s at_ 2 = 0
  · obtain ⟨n0, n1, x0, x1⟩ := g_two c0
    have eN : ((gN s at_ 2).toNat : Int) = gN s at_ 2 := by omega
    have eX : ((gX s at_ 2).toNat : Int) = gX s at_ 2 := by omega
    rw [c0, ← eN, ← eX] at C
    by_cases c1 : (s.size : Int) - gX s at_ 2 < gN s at_ 2
    · obtain ⟨e1, e2, e3⟩ := x_short c0 c1
      rw [e1, e2, e3]
      exact getTextRefShort s at_ _ _ w C (by omega) (by omega) (by omega)
    · obtain ⟨e1, e2, e3⟩ := x_ok c0 c1
      rw [e1, e2, e3]
      have R := getTextRefOk s at_ _ _ w C hs' (by omega) (by omega) (by omega)
      rw [eN, eX] at R
      exact R
  · obtain ⟨e1, e2, e3⟩ := x_err c0
    rw [e1, e2, e3]
    exact getTextRefErr s at_ _ _ _ w C c0

end Go.Proofs.YtkelipedpjmmaaaDoor.Wt
