/-
  Several texts in one. The walks of frame.Put and of the document's Put: each returns the frame and the error that 'frB', 'frE' say, and nothing that was in memory has turned. Condition: the text's length is an int. The walks of frame.Get and of the document's Get: each returns the body, the place behind it and the error that 'qB', 'qX', 'qE' say, and nothing that was in memory has turned. Condition: the number fits its kind and the text's length is an int. The walks of frame.All and of the document's All: each returns the bodies of the frames that the text begins with, in a slice of its own, and the place behind them; nothing that was in memory has turned. Condition: the text has at most 1048576 bytes. The walk of (*strings.Builder).WriteString, of a builder in a block of its own, over the library's contract for copyCheck: what is written stands behind what stood there; nothing below block B has turned, nor any block of another element type. Condition: the new length is at most 2^47 bytes. What the library's contract says of (*strings.Builder).String at this program, whatever the builder holds. No condition.
-/
import Derived.Test.YtaojoecmbgmhoaaRows
import Derived.Test.YtaojoecmbgmhoaaPa
import Derived.Test.YtaojoecmbgmhoaaWa
import Derived.WalkKit
import Derived.ProofKit
import Derived.OpenShut
import Derived.Laws.Closers25
import Derived.WalkSpells
import Derived.Shelf.Strings.Builder1
import Derived.Deep.RegionHeld3
namespace Go.Proofs.Ytaojoecmbgmhoaa.Wf
open Go.ChangeShapes Go.WideShapes Go.ChangeAt Go.RowKit Go.Proofs.Ytaojoecmbgmhoaa.M

theorem none_of {b : ByteArray} (h : b.size = 0) : b = ⟨#[]⟩ := by
  apply ByteArray.ext
  exact Array.eq_empty_of_size_eq_zero h

theorem full_of {b : ByteArray} (h : ¬ b.size = 0) : b.toList.isEmpty = false := by
  have e := decide_eq_emptyBytes b
  rw [← e]
  exact decide_eq_false fun h2 => h (by rw [h2]; rfl)

theorem put (b : ByteArray) (w : World) (hs : b.size ≤ maxLen) :
    Calls Try.prog 23 #[.string b] w fun e w' => e = .returned (.tuple #[.string (frB b), .int .i64 (frE b)]) ∧ Below w.heap.size w w' := by
  unfold maxLen at hs
  by_cases c0 : b.size = 0
  · obtain ⟨e1, e2⟩ := fr_none c0
    rw [e1, e2, none_of c0]
    clear e1 e2 c0 hs
    go_enter Try.func23, Try.ntmps23
    go_wp2
    go_ret2
    exact ⟨rfl, Below.refl _ _⟩
  · have hne := full_of c0
    by_cases c1 : 4096 < b.size
    · obtain ⟨e1, e2⟩ := fr_long c0 c1
      rw [e1, e2]
      clear e1 e2
      go_enter Try.func23, Try.ntmps23
      go_wp2
      go_ret2
      exact ⟨rfl, Below.refl _ _⟩
    · obtain ⟨e1, e2⟩ := fr_ok c0 c1
      rw [e1, e2]
      clear e1 e2
      have E : Hid (fr b = two b ++ beB 4 (crc (two b ++ b) : Int) ++ b) := rfl
      have C1 : Hid (∀ w, Calls Try.prog 40 #[.int .i64 2, .int .u64 (b.size : Int)] w fun e w' => e = .returned (.string (two b)) ∧ Below w.heap.size w w') := fun w => Wp.putAny 2 (b.size : Int) w (by omega) (by omega)
      have hz := two_size b
      generalize two b = t at E C1 hz
      have C2 : Hid _ := fun w => Ws.frameSum t b w (by unfold maxLen; omega) (by unfold maxLen; omega)
      have hk := crc_lt (t ++ b)
      generalize crc (t ++ b) = k at C2 hk E
      have C3 : Hid (∀ w, Calls Try.prog 40 #[.int .i64 4, .int .u64 (k : Int)] w fun e w' => e = .returned (.string (beB 4 (k : Int))) ∧ Below w.heap.size w w') := fun w => Wp.putAny 4 (k : Int) w (by omega) (by omega)
      have hz4 := beB_size 4 (k : Int)
      generalize beB 4 (k : Int) = u at C3 E hz4
      go_enter Try.func23, Try.ntmps23
      go_wp2_with fail
      refine (C1.out _).mono ?_
      rintro e w1 ⟨rfl, b1⟩
      go_wp2_with fail
      refine (C2.out _).mono ?_
      rintro e w2 ⟨rfl, rfl⟩
      go_wp2_with fail
      refine (C3.out _).mono ?_
      rintro e w3 ⟨rfl, b3⟩
      go_wp2
      go_ret2
      exact ⟨by rw [E.out]; rfl, b1.trans (b3.mono b1.size)⟩

end Go.Proofs.Ytaojoecmbgmhoaa.Wf

namespace Go.Proofs.Ytaojoecmbgmhoaa.Wq
open Go.ChangeShapes Go.WideShapes Go.ChangeAt Go.RowKit Go.Proofs.Ytaojoecmbgmhoaa.M

theorem getErr (s : ByteArray) (at_ N X E : Int) (w : World) (C : ∀ w, Calls Try.prog 50 #[.string s, .int .i64 at_, .int .i64 2] w fun e w' => e = .returned (.tuple #[.int .u64 N, .int .i64 X, .int .i64 E]) ∧ w = w')
    (hE : E ≠ 0) : Calls Try.prog 51 #[.string s, .int .i64 at_] w fun e w' => e = .returned (.tuple #[.string ⟨#[]⟩, .int .i64 0, .int .i64 E]) ∧ Below w.heap.size w w' := by
  have H : Hid _ := C
  have hE' : (E == 0) = false := by simpa using hE
  clear C hE
  go_enter Try.func51, Try.ntmps51
  go_wp2_with fail
  refine (H.out _).mono ?_
  rintro e w1 ⟨rfl, rfl⟩
  go_wp2
  go_ret3
  exact ⟨rfl, Below.refl _ _⟩

theorem getZero (s : ByteArray) (at_ X : Int) (w : World) (C : ∀ w, Calls Try.prog 50 #[.string s, .int .i64 at_, .int .i64 2] w fun e w' => e = .returned (.tuple #[.int .u64 0, .int .i64 X, .int .i64 0]) ∧ w = w') :
    Calls Try.prog 51 #[.string s, .int .i64 at_] w fun e w' => e = .returned (.tuple #[.string ⟨#[]⟩, .int .i64 0, .int .i64 13]) ∧ Below w.heap.size w w' := by
  have H : Hid _ := C
  clear C
  go_enter Try.func51, Try.ntmps51
  go_wp2_with fail
  refine (H.out _).mono ?_
  rintro e w1 ⟨rfl, rfl⟩
  go_wp2
  go_ret3
  exact ⟨rfl, Below.refl _ _⟩

theorem getLong (s : ByteArray) (at_ X : Int) (N : Nat) (w : World) (C : ∀ w, Calls Try.prog 50 #[.string s, .int .i64 at_, .int .i64 2] w fun e w' => e = .returned (.tuple #[.int .u64 (N : Int), .int .i64 X, .int .i64 0]) ∧ w = w')
    (h1 : 4096 < N) (h2 : N < 65536) : Calls Try.prog 51 #[.string s, .int .i64 at_] w fun e w' => e = .returned (.tuple #[.string ⟨#[]⟩, .int .i64 0, .int .i64 5]) ∧ Below w.heap.size w w' := by
  have H : Hid _ := C
  clear C
  go_enter Try.func51, Try.ntmps51
  go_wp2_with fail
  refine (H.out _).mono ?_
  rintro e w1 ⟨rfl, rfl⟩
  go_wp2
  go_ret3
  exact ⟨rfl, Below.refl _ _⟩

theorem getHead (s : ByteArray) (at_ : Int) (N P : Nat) (w : World) (C : ∀ w, Calls Try.prog 50 #[.string s, .int .i64 at_, .int .i64 2] w fun e w' => e = .returned (.tuple #[.int .u64 (N : Int), .int .i64 (P : Int), .int .i64 0]) ∧ w = w')
    (C2 : ∀ w, Calls Try.prog 50 #[.string s, .int .i64 (P : Int), .int .i64 4] w fun e w' => e = .returned (.tuple #[.int .u64 0, .int .i64 0, .int .i64 3]) ∧ w = w')
    (h1 : 1 ≤ N) (h2 : N ≤ 4096) : Calls Try.prog 51 #[.string s, .int .i64 at_] w fun e w' => e = .returned (.tuple #[.string ⟨#[]⟩, .int .i64 0, .int .i64 3]) ∧ Below w.heap.size w w' := by
  have H : Hid _ := C
  have H2 : Hid _ := C2
  clear C C2
  go_enter Try.func51, Try.ntmps51
  go_wp2_with fail
  refine (H.out _).mono ?_
  rintro e w1 ⟨rfl, rfl⟩
  go_wp2_with fail
  refine (H2.out _).mono ?_
  rintro e w1 ⟨rfl, rfl⟩
  go_wp2
  go_ret3
  exact ⟨rfl, Below.refl _ _⟩

theorem getShort (s : ByteArray) (at_ : Int) (N P Q c : Nat) (w : World) (C : ∀ w, Calls Try.prog 50 #[.string s, .int .i64 at_, .int .i64 2] w fun e w' => e = .returned (.tuple #[.int .u64 (N : Int), .int .i64 (P : Int), .int .i64 0]) ∧ w = w')
    (C2 : ∀ w, Calls Try.prog 50 #[.string s, .int .i64 (P : Int), .int .i64 4] w fun e w' => e = .returned (.tuple #[.int .u64 (c : Int), .int .i64 (Q : Int), .int .i64 0]) ∧ w = w')
    (h1 : 1 ≤ N) (h2 : N ≤ 4096) (_hs : s.size ≤ 9223372036854775807) (hQ : Q ≤ s.size) (h3 : (s.size : Int) - (Q : Int) < (N : Int)) : Calls Try.prog 51 #[.string s, .int .i64 at_] w fun e w' => e = .returned (.tuple #[.string ⟨#[]⟩, .int .i64 0, .int .i64 3]) ∧ Below w.heap.size w w' := by
  have H : Hid _ := C
  have H2 : Hid _ := C2
  clear C C2
  go_enter Try.func51, Try.ntmps51
  go_wp2_with fail
  refine (H.out _).mono ?_
  rintro e w1 ⟨rfl, rfl⟩
  go_wp2_with fail
  refine (H2.out _).mono ?_
  rintro e w1 ⟨rfl, rfl⟩
  go_wp2
  go_ret3
  exact ⟨rfl, Below.refl _ _⟩

theorem getSum (s : ByteArray) (A N P Q c k : Nat) (w : World) (C : ∀ w, Calls Try.prog 50 #[.string s, .int .i64 (A : Int), .int .i64 2] w fun e w' => e = .returned (.tuple #[.int .u64 (N : Int), .int .i64 (P : Int), .int .i64 0]) ∧ w = w')
    (C2 : ∀ w, Calls Try.prog 50 #[.string s, .int .i64 (P : Int), .int .i64 4] w fun e w' => e = .returned (.tuple #[.int .u64 (c : Int), .int .i64 (Q : Int), .int .i64 0]) ∧ w = w')
    (C3 : ∀ w, Calls Try.prog 41 #[.string (s.extract A P), .string (s.extract Q (Q + N))] w fun e w' => e = .returned (.int .u32 (k : Int)) ∧ w = w')
    (h1 : 1 ≤ N) (h2 : N ≤ 4096) (hs : s.size ≤ 9223372036854775807) (hA : A ≤ P) (hP : P ≤ Q) (hQ : Q ≤ s.size) (h3 : ¬ (s.size : Int) - (Q : Int) < (N : Int)) (hk : k < 4294967296) (_hc : c < 4294967296) (_hz : P ≤ A + 2)
    (hne : ¬ (k : Int) = (c : Int)) : Calls Try.prog 51 #[.string s, .int .i64 (A : Int)] w fun e w' => e = .returned (.tuple #[.string ⟨#[]⟩, .int .i64 0, .int .i64 6]) ∧ Below w.heap.size w w' := by
  have H : Hid _ := C
  have H2 : Hid _ := C2
  have H3 : Hid _ := C3
  clear C C2 C3
  go_enter Try.func51, Try.ntmps51
  go_wp2_with fail
  refine (H.out _).mono ?_
  rintro e w1 ⟨rfl, rfl⟩
  go_wp2_with fail
  refine (H2.out _).mono ?_
  rintro e w1 ⟨rfl, rfl⟩
  go_wp2_with fail
  refine (H3.out _).mono ?_
  rintro e w1 ⟨rfl, rfl⟩
  go_wp2
  go_ret3
  exact ⟨rfl, Below.refl _ _⟩

theorem getOk (s : ByteArray) (A N P Q k : Nat) (w : World) (C : ∀ w, Calls Try.prog 50 #[.string s, .int .i64 (A : Int), .int .i64 2] w fun e w' => e = .returned (.tuple #[.int .u64 (N : Int), .int .i64 (P : Int), .int .i64 0]) ∧ w = w')
    (C2 : ∀ w, Calls Try.prog 50 #[.string s, .int .i64 (P : Int), .int .i64 4] w fun e w' => e = .returned (.tuple #[.int .u64 (k : Int), .int .i64 (Q : Int), .int .i64 0]) ∧ w = w')
    (C3 : ∀ w, Calls Try.prog 41 #[.string (s.extract A P), .string (s.extract Q (Q + N))] w fun e w' => e = .returned (.int .u32 (k : Int)) ∧ w = w')
    (h1 : 1 ≤ N) (h2 : N ≤ 4096) (hs : s.size ≤ 9223372036854775807) (hA : A ≤ P) (hP : P ≤ Q) (hQ : Q ≤ s.size) (h3 : ¬ (s.size : Int) - (Q : Int) < (N : Int)) (hk : k < 4294967296) (_hz : P ≤ A + 2) :
    Calls Try.prog 51 #[.string s, .int .i64 (A : Int)] w fun e w' => e = .returned (.tuple #[.string (s.extract Q (Q + N)), .int .i64 ((Q : Int) + (N : Int)), .int .i64 0]) ∧ Below w.heap.size w w' := by
  have H : Hid _ := C
  have H2 : Hid _ := C2
  have H3 : Hid _ := C3
  clear C C2 C3
  go_enter Try.func51, Try.ntmps51
  go_wp2_with fail
  refine (H.out _).mono ?_
  rintro e w1 ⟨rfl, rfl⟩
  go_wp2_with fail
  refine (H2.out _).mono ?_
  rintro e w1 ⟨rfl, rfl⟩
  go_wp2_with fail
  refine (H3.out _).mono ?_
  rintro e w1 ⟨rfl, rfl⟩
  go_wp2_with fail
  refine (Wc.clone _ _ (by rw [ByteArray.size_extract]; omega)).mono ?_
  rintro e w1 ⟨rfl, b1⟩
  go_wp2
  go_ret3
  exact ⟨rfl, b1⟩

theorem get (s : ByteArray) (at_ : Int) (w : World) (hs : s.size ≤ maxLen) (h0 : -9223372036854775808 ≤ at_) (h1 : at_ < 9223372036854775808) :
    Calls Try.prog 51 #[.string s, .int .i64 at_] w fun e w' => e = .returned (.tuple #[.string (qB s at_), .int .i64 (qX s at_), .int .i64 (qE s at_)]) ∧ Below w.heap.size w w' := by
  have C := fun w => Wg.get s at_ 2 w hs h0 h1
  have hs' : s.size ≤ 9223372036854775807 := by unfold maxLen at hs; omega
  by_cases c0 : gE s at_ 2 = 0
  · obtain ⟨p0, p1⟩ := g_place c0
    obtain ⟨A, rfl⟩ := Int.eq_ofNat_of_zero_le p0
    rw [Int.toNat_natCast] at p1
    obtain ⟨e1, e2, e3⟩ := get_ok (s := s) (a := A) (w := 2) (by omega) (by omega) p1
    have eq : qE s (A : Int) = qA s A := by unfold qE; rw [if_pos c0, Int.toNat_natCast]
    have C' : ∀ w, Calls Try.prog 50 #[.string s, .int .i64 (A : Int), .int .i64 2] w fun e w' => e = .returned (.tuple #[.int .u64 (n2 s A : Int), .int .i64 ((A + 2 : Nat) : Int), .int .i64 0]) ∧ w = w' := fun w => by
      have h := C w
      have e2' : gN s (A : Int) 2 = num s A 2 := e2
      have e3' : gX s (A : Int) 2 = ((A + 2 : Nat) : Int) := e3
      rw [c0, e2', e3', ← n2_int] at h
      exact h
    have hn := n2_lt s A
    have hc4 := n4_lt s A
    obtain ⟨v1, v2, v3, v4, v5⟩ := qA_val s A
    by_cases c1 : n2 s A = 0
    · have v := v1 c1
      rw [← eq] at v
      obtain ⟨f1, f2⟩ := q_err (s := s) (at_ := (A : Int)) (by rw [v]; decide)
      rw [f1, f2, v]
      rw [c1] at C'
      exact getZero s _ _ w C'
    · by_cases c2 : 4096 < n2 s A
      · have v := v2 c1 c2
        rw [← eq] at v
        obtain ⟨f1, f2⟩ := q_err (s := s) (at_ := (A : Int)) (by rw [v]; decide)
        rw [f1, f2, v]
        exact getLong s _ _ _ w C' c2 hn
      · have D := fun w => Wg.get s ((A + 2 : Nat) : Int) 4 w hs (by omega) (by omega)
        by_cases c3 : s.size < A + 6
        · have v := v3 c1 c2 (by omega)
          rw [← eq] at v
          obtain ⟨f1, f2⟩ := q_err (s := s) (at_ := (A : Int)) (by rw [v]; decide)
          rw [f1, f2, v]
          obtain ⟨d1, d2, d3⟩ := g_short (s := s) (at_ := ((A + 2 : Nat) : Int)) (width := 4) (by omega) (by omega)
          rw [d1, d2, d3] at D
          exact getHead s _ _ _ w C' D (by omega) (by omega)
        · obtain ⟨d1, d2, d3⟩ := get_ok (s := s) (a := A + 2) (w := 4) (by omega) (by omega) (by omega)
          have D' : ∀ w, Calls Try.prog 50 #[.string s, .int .i64 ((A + 2 : Nat) : Int), .int .i64 4] w fun e w' => e = .returned (.tuple #[.int .u64 (n4 s A : Int), .int .i64 ((A + 6 : Nat) : Int), .int .i64 0]) ∧ w = w' := fun w => by
            have h := D w
            have d1' : gE s ((A + 2 : Nat) : Int) 4 = 0 := d1
            have d2' : gN s ((A + 2 : Nat) : Int) 4 = num s (A + 2) 4 := d2
            have d3' : gX s ((A + 2 : Nat) : Int) 4 = ((A + 2 + 4 : Nat) : Int) := d3
            rw [d1', d2', d3', ← n4_int] at h
            exact h
          by_cases c4 : s.size < A + 6 + n2 s A
          · have v := v3 c1 c2 c4
            rw [← eq] at v
            obtain ⟨f1, f2⟩ := q_err (s := s) (at_ := (A : Int)) (by rw [v]; decide)
            rw [f1, f2, v]
            exact getShort s _ _ _ _ _ w C' D' (by omega) (by omega) hs' (by omega) (by omega)
          · have S : ∀ w, Calls Try.prog 41 #[.string (s.extract A (A + 2)), .string (s.extract (A + 6) (A + 6 + n2 s A))] w fun e w' => e = .returned (.int .u32 (chk s A : Int)) ∧ w = w' := fun w => Ws.frameSum (s.extract A (A + 2)) (bod s A) w (by rw [ByteArray.size_extract]; unfold maxLen; omega) (by unfold bod; rw [ByteArray.size_extract]; unfold maxLen; omega)
            have hk : chk s A < 4294967296 := crc_lt _
            by_cases c5 : chk s A = n4 s A
            · have v := v5 c1 c2 c4 c5
              rw [← eq] at v
              obtain ⟨f1, f2⟩ := q_ok (s := s) (at_ := (A : Int)) v
              rw [f1, f2, v, Int.toNat_natCast]
              rw [← c5] at D'
              have R := getOk s A _ _ _ _ w C' D' S (by omega) (by omega) hs' (by omega) (by omega) (by omega) (by omega) hk (by omega)
              rw [show ((A + 6 + n2 s A : Nat) : Int) = ((A + 6 : Nat) : Int) + (n2 s A : Int) by omega]
              exact R
            · have v := v4 c1 c2 c4 c5
              rw [← eq] at v
              obtain ⟨f1, f2⟩ := q_err (s := s) (at_ := (A : Int)) (by rw [v]; decide)
              rw [f1, f2, v]
              exact getSum s A _ _ _ _ _ w C' D' S (by omega) (by omega) hs' (by omega) (by omega) (by omega) (by omega) hk hc4 (by omega) (by omega)
  · have eq : qE s at_ = gE s at_ 2 := by unfold qE; rw [if_neg c0]
    obtain ⟨f1, f2⟩ := q_err (s := s) (at_ := at_) (by rw [eq]; exact c0)
    rw [f1, f2, eq]
    exact getErr s at_ _ _ _ w C c0

end Go.Proofs.Ytaojoecmbgmhoaa.Wq

namespace Go.Proofs.Ytaojoecmbgmhoaa.Wa
open Go.ChangeShapes Go.WideShapes Go.ChangeAt Go.RowKit Go.Proofs.Ytaojoecmbgmhoaa.M

theorem info9 : (Try.prog.info? 9).map (fun i => (i.zero, i.size, i.bytes)) = some (some (.string ⟨#[]⟩), 1, 16) := by kernel_rfl

theorem own_below {w w' : World} {base e size n : Nat} {v : Value} {xs : List Value} (h : w.ownsRow base e size v n xs) (b : Below w.heap.size w w') : w'.ownsRow base e size v n xs :=
  h.kept (row := none) ⟨b.os, b.tape, b.output, b.size, fun k hk _ => b.block k hk⟩ (by cases v.ownBlock <;> simp)

/-- What comes of a Get, by frames. -/
theorem q_step {s : ByteArray} {k : Nat} (h : qE s (pl s k : Int) = 0) : qB s (pl s k : Int) = bd s k ∧ qX s (pl s k : Int) = (pl s (k + 1) : Int) := by
  obtain ⟨e1, e2⟩ := q_ok h
  rw [Int.toNat_natCast] at e1 e2
  exact ⟨e1, e2⟩

set_option maxRecDepth 100000 in
theorem all (s : ByteArray) (w : World) (hs : s.size ≤ 1048576) :
    Calls Try.prog 34 #[.string s] w fun e w' => ∃ k v, Fst s k ∧ e = .returned (.tuple #[v, .int .i64 (pl s k : Int)]) ∧ w'.ownsRow w.heap.size 9 1 v k (bds s k) ∧ Below w.heap.size w w' := by
  obtain ⟨i0, hi, hz0, hz1, hz2⟩ := info_parts info9
  go_enter Try.func34, Try.ntmps34
  go_wp2
  go_loopw [4, 5] (fun v a wr => ∃ k : Nat, Up s k ∧ a = .int .i64 (pl s k : Int) ∧ wr.ownsRow w.heap.size 9 1 v k (bds s k) ∧ Below w.heap.size w wr) (fun _ a _ => s.size - (intOf a).toNat)
  case atStart => exact ⟨0, up_zero s, rfl, World.ownsRow_nil _ _ _ _, Below.refl _ _⟩
  case round =>
    obtain ⟨k, hu, rfl, hown, hbel⟩ := hrel
    have hp := pl_le hu
    have hz := hbel.size
    by_cases c : qE s (pl s k : Int) = 0
    · have hq := q_place c
      obtain ⟨e1, e2⟩ := q_step c
      have C : Hid _ := fun w => Wq.get s (pl s k : Int) w (by unfold maxLen; omega) (by omega) (by omega)
      rw [c, e1, e2] at C
      have hu' := up_succ hu c
      have hp' := pl_le hu'
      have HM : Hid (pl s k + 7 ≤ pl s (k + 1)) := by show pl s k + 7 ≤ pl s k + 6 + n2 s (pl s k); omega
      have HB : Hid (bds s (k + 1) = bds s k ++ [.string (bd s k)]) := bds_succ s k
      clear c hq e1 e2
      generalize bd s k = x at C HB
      generalize pl s k = p at C HM hp
      generalize hP : pl s (k + 1) = p' at C HM hp'
      have HP : Hid (pl s (k + 1) = p') := hP
      clear hP
      go_wp2_with fail
      refine (C.out _).mono ?_
      rintro e w1 ⟨rfl, b1⟩
      have hown1 := own_below hown b1
      have hz1' := b1.size
      clear hown
      go_wp2_with (at_builtin; refine wpList_append_own _ rfl _ _ 29 rfl w.heap.size 9 i0 (.string ⟨#[]⟩) 1 16 Try.underlying29 hi hz0 hz1 hz2 rfl (by decide) _ _ _ rfl (hown1.alloc _) ⟨w1.heap.size, 0, none⟩ 1 1 [.string x] rfl rfl ?c1 ?c2 ?c3 ?c4 ?c5 ?_)
      case c1 =>
        intro j u hj
        match j, hj with
        | 0, hj => simp at hj; subst hj; simp [Addr.add]
      case c2 => intro u hu; simp at hu; subst hu; rfl
      case c3 => unfold maxLen; omega
      case c4 => omega
      case c5 => simp; omega
      · intro v' w2 hown2 hgrow _
        have hlt := hown1.lt
        have B2 : Hid (Below w.heap.size w w2) := ((hbel.trans (b1.mono hz)).alloc (by omega) _).grown hgrow (by simp; omega) fun k hk => (hlt k hk).1
        clear hown1 hgrow hlt
        go_wp2
        go_roundw
        case rel => exact ⟨k + 1, hu', by rw [HP.out], by rw [HB.out]; exact hown2, B2.out⟩
        case measure => have := HM.out; simp [intOf] <;> omega
    · obtain ⟨e1, e2⟩ := q_err c
      have C : Hid _ := fun w => Wq.get s (pl s k : Int) w (by unfold maxLen; omega) (by omega) (by omega)
      rw [e1, e2] at C
      have hF : Hid (Fst s k) := ⟨hu, c⟩
      have hE : (qE s (pl s k : Int) == 0) = false := by simpa using c
      generalize qE s (pl s k : Int) = E at C hE
      clear e1 e2 c
      go_wp2_with fail
      refine (C.out _).mono ?_
      rintro e w1 ⟨rfl, b1⟩
      have hown1 := own_below hown b1
      clear hown
      go_wp2
      go_ret2
      exact ⟨k, _, hF.out, rfl, hown1, hbel.trans (b1.mono hz)⟩

end Go.Proofs.Ytaojoecmbgmhoaa.Wa

namespace Go.Proofs.Ytaojoecmbgmhoaa.Wx
open Go.ChangeShapes Go.WideShapes Go.ChangeAt Go.RowKit Go.Shelf

theorem lt_of_heap {w : World} {g : Nat} {o : Obj} (h : w.heap[g]? = some o) : g < w.heap.size := (Array.getElem?_eq_some_iff.1 h).1
theorem frozen_there {w : World} {g : Nat} {cur : Array Value} {ty : TypeId} (hg : w.heap[g]? = some (.cells cur ty (0, 0))) (j : Nat) : w.frozen? ⟨g, j, none⟩ = false := by
  simp [World.frozen?, hg]
theorem builder_below {T e B b : Nat} {bs : List Value} {w w' : World} (h : Lib.IsBuilder T e B b bs w) (hb : Below w.heap.size w w') : Lib.IsBuilder T e B b bs w' := by
  have K : ∀ p, Lib.BuilderAt T e B b p bs w → Lib.BuilderAt T e B b p bs w' := by
    rintro p ⟨hB, v, hbk, hown, hne⟩
    exact ⟨hB, v, (hb.block b (Array.getElem?_eq_some_iff.1 hbk).1).trans hbk, hown.kept (row := none) ⟨hb.os, hb.tape, hb.output, hb.size, fun k hk _ => hb.block k hk⟩ (by cases v.ownBlock <;> simp), hne⟩
  rcases h with h | h
  · exact .inl (K _ h)
  · exact .inr (K _ h)

/-- The library's numbers for functions and types, as this program has them. -/
def ren : Ren := ⟨fun | 240 => 67 | 276 => 76 | n => n, fun | 0 => 0 | 4 => 4 | 9 => 9 | 20 => 20 | 37 => 52 | 70 => 106 | 72 => 108 | 164 => 135 | n => n, fun | n => n⟩
theorem lays : Lays.n240 Try.prog ren := {
  mixed := by kernel_rfl
  f240 := Try.func67.trans (congrArg some (by kernel_rfl))
  f276 := Try.func76.trans (congrArg some (by kernel_rfl))
  t0 := Try.underlying0
  a0 := Try.isAgg0
  z0 := Try.sizeOf0
  v0 := Try.zeroValue0
  t4 := Try.underlying4
  a4 := Try.isAgg4
  z4 := Try.sizeOf4
  v4 := Try.zeroValue4
  t9 := Try.underlying9
  a9 := Try.isAgg9
  z9 := Try.sizeOf9
  v9 := Try.zeroValue9
  t20 := Try.underlying20
  a20 := Try.isAgg20
  z20 := Try.sizeOf20
  v20 := Try.zeroValue20
  t70 := Try.underlying106
  a70 := Try.isAgg106
  z70 := Try.sizeOf106
  v70 := Try.zeroValue106
  t72 := Try.underlying108
  a72 := Try.isAgg108
  z72 := Try.sizeOf108
  v72 := Try.zeroValue108
  t164 := Try.underlying135
  a164 := Try.isAgg135
  z164 := Try.sizeOf135
  v164 := Try.zeroValue135
 }

theorem extra : Builder.X72 Try.prog ren := {
  sizeBuilder := by kernel_rfl
  liesBuilder := by kernel_rfl }
theorem infoByte : (Try.prog.info? 5).map (fun i => (i.zero, i.size, i.bytes)) = some (some (.int .u8 0), 1, 1) := by kernel_rfl

theorem checkUsed (b : Nat) (w : World) (h0 : w.cell? ⟨b, 0, none⟩ = some (.pointer (some ⟨b, 0, none⟩))) :
    Calls Try.prog 67 #[.pointer (some ⟨b, 0, none⟩)] w fun e w' => e = .returned (.tuple #[]) ∧ w' = w := Any.Builder_copyCheck_used lays extra b w h0
theorem checkFresh (b : Nat) (w : World) (h0 : w.cell? ⟨b, 0, none⟩ = some (.pointer none)) (hsh : w.shape? b = some (108, 2)) (hfz : w.frozen? ⟨b, 0, none⟩ = false) :
    Calls Try.prog 67 #[.pointer (some ⟨b, 0, none⟩)] w fun e w' => e = .returned (.tuple #[]) ∧ w' = w.setCell ⟨b, 0, none⟩ (.pointer (some ⟨b, 0, none⟩)) := Any.Builder_copyCheck_fresh lays extra b w h0 hsh hfz

theorem check (B b : Nat) (bs : List Value) (w : World) (h : Lib.IsBuilder 108 5 B b bs w) :
    Calls Try.prog 67 #[.pointer (some ⟨b, 0, none⟩)] w fun e w' => e = .returned (.tuple #[]) ∧ Lib.BuilderAt 108 5 B b (.pointer (some ⟨b, 0, none⟩)) bs w' ∧ Below B w w' ∧ ∀ k, k ≠ b → w'.heap[k]? = w.heap[k]? := by
  rcases h with h | h
  · exact (checkFresh b w h.cell0 h.shape h.frozen0).mono (fun e w' hh => ⟨hh.1, hh.2 ▸ h.used _, hh.2 ▸ (Below.refl B w).setCell (p := ⟨b, 0, none⟩) h.1 _, hh.2 ▸ fun k hk => Below.heap_setCell _ _ _ _ hk⟩)
  · exact (checkUsed b w h.cell0).mono (fun e w' hh => ⟨hh.1, hh.2 ▸ h, hh.2 ▸ Below.refl B w, hh.2 ▸ fun _ _ => rfl⟩)

set_option maxHeartbeats 1000000 in
set_option maxRecDepth 100000 in
theorem write (B b : Nat) (bs : List Value) (s : ByteArray) (w : World) (h : Lib.IsBuilder 108 5 B b bs w) (hlen : bs.length + s.size ≤ 140737488355328) (hBw : B ≤ w.heap.size) :
    Calls Try.prog 52 #[.pointer (some ⟨b, 0, none⟩), .string s] w fun e w' => e = .returned (.tuple #[.int .i64 s.size, .nilIface]) ∧ Lib.IsBuilder 108 5 B b (bs ++ Lib.strCells s) w' ∧ Below B w w' ∧ ∀ k cs T fr, k ≠ b → T ≠ 5 → w.heap[k]? = some (.cells cs T fr) → w'.heap[k]? = some (.cells cs T fr) := by
  obtain ⟨i0, hi, hz0, hz1, hz2⟩ := info_parts infoByte
  go_enter Try.func52, Try.ntmps52
  go_wp2_with fail
  refine (check B b bs _ h).mono ?_
  rintro e w1 ⟨rfl, ⟨hB, v, hbk, hown, hne⟩, hb1, hoth⟩
  have c0 : w1.cell? ⟨b, 0, none⟩ = some (.pointer (some ⟨b, 0, none⟩)) := by rw [Lib.cell_of_heap hbk]; rfl
  have c1 : w1.cell? ⟨b, 1, none⟩ = some v := by rw [Lib.cell_of_heap hbk]; rfl
  have hs1 := hb1.size
  have hlt := lt_of_heap hbk
  go_wp2_with (at_builtin; refine Lib.wpList_append_own_string _ rfl _ _ 52 9 rfl B 5 i0 Try.underlying52 Try.underlying9 hi hz0 hz1 hz2 _ _ _ rfl hown s rfl (by unfold maxLen; omega) (by omega) (by omega) ?_)
  intro v' w2 hown' hgrow _
  have hb2 : w2.heap[b]? = some (.cells #[.pointer (some ⟨b, 0, none⟩), v] 108 (0, 0)) := (hgrow.block b hlt (fun e => hne e.symm)).trans hbk
  have d0 : w2.cell? ⟨b, 0, none⟩ = some (.pointer (some ⟨b, 0, none⟩)) := by rw [Lib.cell_of_heap hb2]; rfl
  have d1 : w2.cell? ⟨b, 1, none⟩ = some v := by rw [Lib.cell_of_heap hb2]; rfl
  have f1 : w2.frozen? ⟨b, 1, none⟩ = false := frozen_there hb2 1
  have hkeep : ∀ k cs T fr, k ≠ b → T ≠ 5 → w.heap[k]? = some (.cells cs T fr) → (w2.setCell ⟨b, 1, none⟩ v').heap[k]? = some (.cells cs T fr) := fun k cs T fr hkb hT hk => by
    rw [Below.heap_setCell _ _ _ _ hkb]
    have hk1 := (hoth k hkb).trans hk
    refine (hgrow.block k (lt_of_heap hk1) (fun e => ?_)).trans hk1
    rcases hown.2 with ⟨hv, _⟩ | ⟨g, cap, cur, hv, _, hg, _⟩
    · rw [hv] at e
      simp [Value.ownBlock] at e
    · rw [hv] at e
      have e2 : k = g := by simpa [Value.ownBlock] using e
      rw [← e2, hk1] at hg
      simp at hg
      exact hT hg.2.1
  obtain ⟨ao, n', cap, rfl⟩ : ∃ ao n' cap, v' = .slice ao n' cap := by
    rcases hown'.2 with ⟨hv, _⟩ | ⟨g, cap, cur, hv, _⟩
    · exact ⟨_, _, _, hv⟩
    · exact ⟨_, _, _, hv⟩
  go_wp2
  go_ret2
  exact ⟨rfl, .inr (Lib.BuilderAt.put hB hb2 (bs' := bs ++ Lib.strCells s) (by simpa [Lib.strCells_length] using hown') (by decide)), (hb1.grown hgrow (by omega) (fun k hk => (hown.lt k hk).1)).setCell (p := ⟨b, 1, none⟩) hB _, hkeep⟩

end Go.Proofs.Ytaojoecmbgmhoaa.Wx

namespace Go.Proofs.Ytaojoecmbgmhoaa.Wxs
open Go.ChangeShapes Go.WideShapes Go.ChangeAt Go.RowKit Go.Shelf

/-- The library's numbers for functions and types, as this program has them. -/
def ren : Ren := ⟨fun | 169 => 53 | n => n, fun | 0 => 0 | 3 => 3 | 5 => 5 | 9 => 9 | 37 => 52 | 70 => 106 | 72 => 108 | 127 => 128 | n => n, fun | n => n⟩
theorem lays : Lays.n169 Try.prog ren := {
  mixed := by kernel_rfl
  f169 := Try.func53.trans (congrArg some (by kernel_rfl))
  t0 := Try.underlying0
  a0 := Try.isAgg0
  z0 := Try.sizeOf0
  v0 := Try.zeroValue0
  t3 := Try.underlying3
  a3 := Try.isAgg3
  z3 := Try.sizeOf3
  v3 := Try.zeroValue3
  t9 := Try.underlying9
  a9 := Try.isAgg9
  z9 := Try.sizeOf9
  v9 := Try.zeroValue9
  t37 := Try.underlying52
  a37 := Try.isAgg52
  z37 := Try.sizeOf52
  v37 := Try.zeroValue52
  t70 := Try.underlying106
  a70 := Try.isAgg106
  z70 := Try.sizeOf106
  v70 := Try.zeroValue106
  t72 := Try.underlying108
  a72 := Try.isAgg108
  z72 := Try.sizeOf108
  v72 := Try.zeroValue108
  t127 := Try.underlying128
  a127 := Try.isAgg128
  z127 := Try.sizeOf128
  v127 := Try.zeroValue128
 }

theorem extra : Builder.Extra Try.prog ren := {
  sizeBuilder := by kernel_rfl
  liesBuilder := by kernel_rfl
  t5 := Try.underlying5
  a5 := Try.isAgg5
  z5 := Try.sizeOf5
  v5 := Try.zeroValue5
  infoByte := by kernel_rfl
  cellsByte := by kernel_rfl
  sizeByte := by kernel_rfl
  neB5 := by decide
 }

theorem string_any (B b : Nat) (l : List UInt8) (w : World) (h : Lib.IsBuilder 108 5 B b (Lib.byteCells l) w) (hBw : B ≤ w.heap.size) :
    Calls Try.prog 53 #[.pointer (some ⟨b, 0, none⟩)] w fun e w' => e = .returned (.string ⟨l.toArray⟩) ∧ Below B w w' :=
  Any.Builder_String_any lays extra B b l w h hBw

theorem string_of (B b : Nat) (a : ByteArray) (w : World) (h : Lib.IsBuilder 108 5 B b (Lib.byteCells a.data.toList) w) (hBw : B ≤ w.heap.size) :
    Calls Try.prog 53 #[.pointer (some ⟨b, 0, none⟩)] w fun e w' => e = .returned (.string a) ∧ Below B w w' := by
  have h := string_any B b a.data.toList w h hBw
  rwa [Array.toArray_toList] at h
theorem write_of (B b : Nat) (a s : ByteArray) (w : World) (h : Lib.IsBuilder 108 5 B b (Lib.byteCells a.data.toList) w) (hlen : a.size + s.size ≤ 140737488355328) (hBw : B ≤ w.heap.size) :
    Calls Try.prog 52 #[.pointer (some ⟨b, 0, none⟩), .string s] w fun e w' => e = .returned (.tuple #[.int .i64 s.size, .nilIface]) ∧ Lib.IsBuilder 108 5 B b (Lib.byteCells (a ++ s).data.toList) w' ∧ Below B w w' ∧ ∀ k cs T fr, k ≠ b → T ≠ 5 → w.heap[k]? = some (.cells cs T fr) → w'.heap[k]? = some (.cells cs T fr) := by
  have h := Wx.write B b (Lib.byteCells a.data.toList) s w h (by rw [Lib.byteCells_length, Array.length_toList]; exact hlen) hBw
  have e : Lib.byteCells a.data.toList ++ Lib.strCells s = Lib.byteCells (a ++ s).data.toList := by
    simp [Lib.byteCells, Lib.strCells, ByteArray.data_append]
  rwa [e] at h

end Go.Proofs.Ytaojoecmbgmhoaa.Wxs
