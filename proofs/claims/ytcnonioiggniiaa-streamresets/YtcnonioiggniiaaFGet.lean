/-
  The walks of frame.Get and of the document's Get: each returns the body, the place behind it and the error that 'qB', 'qX', 'qE' say, and nothing that was in memory has turned. Condition: the number fits its kind and the text's length is an int.
-/
import Derived.Test.YtcnonioiggniiaaRows
import Derived.Test.YtcnonioiggniiaaPa
import Derived.Test.YtcnonioiggniiaaGet
import Derived.Test.YtcnonioiggniiaaClone
import Derived.Test.YtcnonioiggniiaaSum
import Derived.WalkKit
import Derived.ProofKit
import Derived.OpenShut
import Derived.WalkSpells
namespace Go.Proofs.Ytcnonioiggniiaa.Wq
open Go.ChangeShapes Go.WideShapes Go.ChangeAt Go.RowKit Go.Proofs.Ytcnonioiggniiaa.M

theorem getErr (s : ByteArray) (at_ N X E : Int) (w : World) (C : ∀ w, Calls Try.prog 67 #[.string s, .int .i64 at_, .int .i64 2] w fun e w' => e = .returned (.tuple #[.int .u64 N, .int .i64 X, .int .i64 E]) ∧ w = w')
    (hE : E ≠ 0) : Calls Try.prog 68 #[.string s, .int .i64 at_] w fun e w' => e = .returned (.tuple #[.string ⟨#[]⟩, .int .i64 0, .int .i64 E]) ∧ Below w.heap.size w w' := by
  have H : Hid _ := C
  have hE' : (E == 0) = false := by simpa using hE
  clear C hE
  go_enter Try.func68, Try.ntmps68
  go_wp2_with fail
  refine (H.out _).mono ?_
  rintro e w1 ⟨rfl, rfl⟩
  go_wp2
  go_ret3
  exact ⟨rfl, Below.refl _ _⟩

theorem getZero (s : ByteArray) (at_ X : Int) (w : World) (C : ∀ w, Calls Try.prog 67 #[.string s, .int .i64 at_, .int .i64 2] w fun e w' => e = .returned (.tuple #[.int .u64 0, .int .i64 X, .int .i64 0]) ∧ w = w') :
    Calls Try.prog 68 #[.string s, .int .i64 at_] w fun e w' => e = .returned (.tuple #[.string ⟨#[]⟩, .int .i64 0, .int .i64 13]) ∧ Below w.heap.size w w' := by
  have H : Hid _ := C
  clear C
  go_enter Try.func68, Try.ntmps68
  go_wp2_with fail
  refine (H.out _).mono ?_
  rintro e w1 ⟨rfl, rfl⟩
  go_wp2
  go_ret3
  exact ⟨rfl, Below.refl _ _⟩

theorem getLong (s : ByteArray) (at_ X : Int) (N : Nat) (w : World) (C : ∀ w, Calls Try.prog 67 #[.string s, .int .i64 at_, .int .i64 2] w fun e w' => e = .returned (.tuple #[.int .u64 (N : Int), .int .i64 X, .int .i64 0]) ∧ w = w')
    (h1 : 4096 < N) (h2 : N < 65536) : Calls Try.prog 68 #[.string s, .int .i64 at_] w fun e w' => e = .returned (.tuple #[.string ⟨#[]⟩, .int .i64 0, .int .i64 5]) ∧ Below w.heap.size w w' := by
  have H : Hid _ := C
  clear C
  go_enter Try.func68, Try.ntmps68
  go_wp2_with fail
  refine (H.out _).mono ?_
  rintro e w1 ⟨rfl, rfl⟩
  go_wp2
  go_ret3
  exact ⟨rfl, Below.refl _ _⟩

theorem getHead (s : ByteArray) (at_ : Int) (N P : Nat) (w : World) (C : ∀ w, Calls Try.prog 67 #[.string s, .int .i64 at_, .int .i64 2] w fun e w' => e = .returned (.tuple #[.int .u64 (N : Int), .int .i64 (P : Int), .int .i64 0]) ∧ w = w')
    (C2 : ∀ w, Calls Try.prog 67 #[.string s, .int .i64 (P : Int), .int .i64 4] w fun e w' => e = .returned (.tuple #[.int .u64 0, .int .i64 0, .int .i64 3]) ∧ w = w')
    (h1 : 1 ≤ N) (h2 : N ≤ 4096) : Calls Try.prog 68 #[.string s, .int .i64 at_] w fun e w' => e = .returned (.tuple #[.string ⟨#[]⟩, .int .i64 0, .int .i64 3]) ∧ Below w.heap.size w w' := by
  have H : Hid _ := C
  have H2 : Hid _ := C2
  clear C C2
  go_enter Try.func68, Try.ntmps68
  go_wp2_with fail
  refine (H.out _).mono ?_
  rintro e w1 ⟨rfl, rfl⟩
  go_wp2_with fail
  refine (H2.out _).mono ?_
  rintro e w1 ⟨rfl, rfl⟩
  go_wp2
  go_ret3
  exact ⟨rfl, Below.refl _ _⟩

theorem getShort (s : ByteArray) (at_ : Int) (N P Q c : Nat) (w : World) (C : ∀ w, Calls Try.prog 67 #[.string s, .int .i64 at_, .int .i64 2] w fun e w' => e = .returned (.tuple #[.int .u64 (N : Int), .int .i64 (P : Int), .int .i64 0]) ∧ w = w')
    (C2 : ∀ w, Calls Try.prog 67 #[.string s, .int .i64 (P : Int), .int .i64 4] w fun e w' => e = .returned (.tuple #[.int .u64 (c : Int), .int .i64 (Q : Int), .int .i64 0]) ∧ w = w')
    (h1 : 1 ≤ N) (h2 : N ≤ 4096) (_hs : s.size ≤ 9223372036854775807) (hQ : Q ≤ s.size) (h3 : (s.size : Int) - (Q : Int) < (N : Int)) : Calls Try.prog 68 #[.string s, .int .i64 at_] w fun e w' => e = .returned (.tuple #[.string ⟨#[]⟩, .int .i64 0, .int .i64 3]) ∧ Below w.heap.size w w' := by
  have H : Hid _ := C
  have H2 : Hid _ := C2
  clear C C2
  go_enter Try.func68, Try.ntmps68
  go_wp2_with fail
  refine (H.out _).mono ?_
  rintro e w1 ⟨rfl, rfl⟩
  go_wp2_with fail
  refine (H2.out _).mono ?_
  rintro e w1 ⟨rfl, rfl⟩
  go_wp2
  go_ret3
  exact ⟨rfl, Below.refl _ _⟩

theorem getSum (s : ByteArray) (A N P Q c k : Nat) (w : World) (C : ∀ w, Calls Try.prog 67 #[.string s, .int .i64 (A : Int), .int .i64 2] w fun e w' => e = .returned (.tuple #[.int .u64 (N : Int), .int .i64 (P : Int), .int .i64 0]) ∧ w = w')
    (C2 : ∀ w, Calls Try.prog 67 #[.string s, .int .i64 (P : Int), .int .i64 4] w fun e w' => e = .returned (.tuple #[.int .u64 (c : Int), .int .i64 (Q : Int), .int .i64 0]) ∧ w = w')
    (C3 : ∀ w, Calls Try.prog 54 #[.string (s.extract A P), .string (s.extract Q (Q + N))] w fun e w' => e = .returned (.int .u32 (k : Int)) ∧ w = w')
    (h1 : 1 ≤ N) (h2 : N ≤ 4096) (hs : s.size ≤ 9223372036854775807) (hA : A ≤ P) (hP : P ≤ Q) (hQ : Q ≤ s.size) (h3 : ¬ (s.size : Int) - (Q : Int) < (N : Int)) (hk : k < 4294967296) (_hc : c < 4294967296) (_hz : P ≤ A + 2)
    (hne : ¬ (k : Int) = (c : Int)) : Calls Try.prog 68 #[.string s, .int .i64 (A : Int)] w fun e w' => e = .returned (.tuple #[.string ⟨#[]⟩, .int .i64 0, .int .i64 6]) ∧ Below w.heap.size w w' := by
  have H : Hid _ := C
  have H2 : Hid _ := C2
  have H3 : Hid _ := C3
  clear C C2 C3
  go_enter Try.func68, Try.ntmps68
  go_wp2_with fail
  refine (H.out _).mono ?_
  rintro e w1 ⟨rfl, rfl⟩
  go_wp2_with fail
  refine (H2.out _).mono ?_
  rintro e w1 ⟨rfl, rfl⟩
  go_wp2_with fail
  refine (H3.out _).mono ?_
  rintro e w1 ⟨rfl, rfl⟩
  go_wp2
  go_ret3
  exact ⟨rfl, Below.refl _ _⟩

theorem getOk (s : ByteArray) (A N P Q k : Nat) (w : World) (C : ∀ w, Calls Try.prog 67 #[.string s, .int .i64 (A : Int), .int .i64 2] w fun e w' => e = .returned (.tuple #[.int .u64 (N : Int), .int .i64 (P : Int), .int .i64 0]) ∧ w = w')
    (C2 : ∀ w, Calls Try.prog 67 #[.string s, .int .i64 (P : Int), .int .i64 4] w fun e w' => e = .returned (.tuple #[.int .u64 (k : Int), .int .i64 (Q : Int), .int .i64 0]) ∧ w = w')
    (C3 : ∀ w, Calls Try.prog 54 #[.string (s.extract A P), .string (s.extract Q (Q + N))] w fun e w' => e = .returned (.int .u32 (k : Int)) ∧ w = w')
    (h1 : 1 ≤ N) (h2 : N ≤ 4096) (hs : s.size ≤ 9223372036854775807) (hA : A ≤ P) (hP : P ≤ Q) (hQ : Q ≤ s.size) (h3 : ¬ (s.size : Int) - (Q : Int) < (N : Int)) (hk : k < 4294967296) (_hz : P ≤ A + 2) :
    Calls Try.prog 68 #[.string s, .int .i64 (A : Int)] w fun e w' => e = .returned (.tuple #[.string (s.extract Q (Q + N)), .int .i64 ((Q : Int) + (N : Int)), .int .i64 0]) ∧ Below w.heap.size w w' := by
  have H : Hid _ := C
  have H2 : Hid _ := C2
  have H3 : Hid _ := C3
  clear C C2 C3
  go_enter Try.func68, Try.ntmps68
  go_wp2_with fail
  refine (H.out _).mono ?_
  rintro e w1 ⟨rfl, rfl⟩
  go_wp2_with fail
  refine (H2.out _).mono ?_
  rintro e w1 ⟨rfl, rfl⟩
  go_wp2_with fail
  refine (H3.out _).mono ?_
  rintro e w1 ⟨rfl, rfl⟩
  go_wp2_with fail
  refine (Wc.clone _ _ (by rw [ByteArray.size_extract]; omega)).mono ?_
  rintro e w1 ⟨rfl, b1⟩
  go_wp2
  go_ret3
  exact ⟨rfl, b1⟩

theorem get (s : ByteArray) (at_ : Int) (w : World) (hs : s.size ≤ maxLen) (h0 : -9223372036854775808 ≤ at_) (h1 : at_ < 9223372036854775808) :
    Calls Try.prog 68 #[.string s, .int .i64 at_] w fun e w' => e = .returned (.tuple #[.string (qB s at_), .int .i64 (qX s at_), .int .i64 (qE s at_)]) ∧ Below w.heap.size w w' := by
  have C := fun w => Wg.get s at_ 2 w hs h0 h1
  have hs' : s.size ≤ 9223372036854775807 := by unfold maxLen at hs; omega
  by_cases c0 : gE s at_ 2 = 0
  · obtain ⟨p0, p1⟩ := g_place c0
    obtain ⟨A, rfl⟩ := Int.eq_ofNat_of_zero_le p0
    rw [Int.toNat_natCast] at p1
    obtain ⟨e1, e2, e3⟩ := get_ok (s := s) (a := A) (w := 2) (by omega) (by omega) p1
    have eq : qE s (A : Int) = qA s A := by unfold qE; rw [if_pos c0, Int.toNat_natCast]
    have C' : ∀ w, Calls Try.prog 67 #[.string s, .int .i64 (A : Int), .int .i64 2] w fun e w' => e = .returned (.tuple #[.int .u64 (n2 s A : Int), .int .i64 ((A + 2 : Nat) : Int), .int .i64 0]) ∧ w = w' := fun w => by
      have h := C w
      have e2' : gN s (A : Int) 2 = num s A 2 := e2
      have e3' : gX s (A : Int) 2 = ((A + 2 : Nat) : Int) := e3
      rw [c0, e2', e3', ← n2_int] at h
      exact h
    have hn := n2_lt s A
    have hc4 := n4_lt s A
    obtain ⟨v1, v2, v3, v4, v5⟩ := qA_val s A
    by_cases c1 : n2 s A = 0
    · have v := v1 c1
      rw [← eq] at v
      obtain ⟨f1, f2⟩ := q_err (s := s) (at_ := (A : Int)) (by rw [v]; decide)
      rw [f1, f2, v]
      rw [c1] at C'
      exact getZero s _ _ w C'
    · by_cases c2 : 4096 < n2 s A
      · have v := v2 c1 c2
        rw [← eq] at v
        obtain ⟨f1, f2⟩ := q_err (s := s) (at_ := (A : Int)) (by rw [v]; decide)
        rw [f1, f2, v]
        exact getLong s _ _ _ w C' c2 hn
      · have D := fun w => Wg.get s ((A + 2 : Nat) : Int) 4 w hs (by omega) (by omega)
        by_cases c3 : s.size < A + 6
        · have v := v3 c1 c2 (by omega)
          rw [← eq] at v
          obtain ⟨f1, f2⟩ := q_err (s := s) (at_ := (A : Int)) (by rw [v]; decide)
          rw [f1, f2, v]
          obtain ⟨d1, d2, d3⟩ := g_short (s := s) (at_ := ((A + 2 : Nat) : Int)) (width := 4) (by omega) (by omega)
          rw [d1, d2, d3] at D
          exact getHead s _ _ _ w C' D (by omega) (by omega)
        · obtain ⟨d1, d2, d3⟩ := get_ok (s := s) (a := A + 2) (w := 4) (by omega) (by omega) (by omega)
          have D' : ∀ w, Calls Try.prog 67 #[.string s, .int .i64 ((A + 2 : Nat) : Int), .int .i64 4] w fun e w' => e = .returned (.tuple #[.int .u64 (n4 s A : Int), .int .i64 ((A + 6 : Nat) : Int), .int .i64 0]) ∧ w = w' := fun w => by
            have h := D w
            have d1' : gE s ((A + 2 : Nat) : Int) 4 = 0 := d1
            have d2' : gN s ((A + 2 : Nat) : Int) 4 = num s (A + 2) 4 := d2
            have d3' : gX s ((A + 2 : Nat) : Int) 4 = ((A + 2 + 4 : Nat) : Int) := d3
            rw [d1', d2', d3', ← n4_int] at h
            exact h
          by_cases c4 : s.size < A + 6 + n2 s A
          · have v := v3 c1 c2 c4
            rw [← eq] at v
            obtain ⟨f1, f2⟩ := q_err (s := s) (at_ := (A : Int)) (by rw [v]; decide)
            rw [f1, f2, v]
            exact getShort s _ _ _ _ _ w C' D' (by omega) (by omega) hs' (by omega) (by omega)
          · have S : ∀ w, Calls Try.prog 54 #[.string (s.extract A (A + 2)), .string (s.extract (A + 6) (A + 6 + n2 s A))] w fun e w' => e = .returned (.int .u32 (chk s A : Int)) ∧ w = w' := fun w => Ws.frameSum (s.extract A (A + 2)) (bod s A) w (by rw [ByteArray.size_extract]; unfold maxLen; omega) (by unfold bod; rw [ByteArray.size_extract]; unfold maxLen; omega)
            have hk : chk s A < 4294967296 := crc_lt _
            by_cases c5 : chk s A = n4 s A
            · have v := v5 c1 c2 c4 c5
              rw [← eq] at v
              obtain ⟨f1, f2⟩ := q_ok (s := s) (at_ := (A : Int)) v
              rw [f1, f2, v, Int.toNat_natCast]
              rw [← c5] at D'
              have R := getOk s A _ _ _ _ w C' D' S (by omega) (by omega) hs' (by omega) (by omega) (by omega) (by omega) hk (by omega)
              rw [show ((A + 6 + n2 s A : Nat) : Int) = ((A + 6 : Nat) : Int) + (n2 s A : Int) by omega]
              exact R
            · have v := v4 c1 c2 c4 c5
              rw [← eq] at v
              obtain ⟨f1, f2⟩ := q_err (s := s) (at_ := (A : Int)) (by rw [v]; decide)
              rw [f1, f2, v]
              exact getSum s A _ _ _ _ _ w C' D' S (by omega) (by omega) hs' (by omega) (by omega) (by omega) (by omega) hk hc4 (by omega) (by omega)
  · have eq : qE s at_ = gE s at_ 2 := by unfold qE; rw [if_neg c0]
    obtain ⟨f1, f2⟩ := q_err (s := s) (at_ := at_) (by rw [eq]; exact c0)
    rw [f1, f2, eq]
    exact getErr s at_ _ _ _ w C c0

end Go.Proofs.Ytcnonioiggniiaa.Wq
