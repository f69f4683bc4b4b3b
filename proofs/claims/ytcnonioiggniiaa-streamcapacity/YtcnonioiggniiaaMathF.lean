/-
  Plain facts on frames: the bytes of a frame and its error ('frB', 'frE'), what stands at a place ('qE', 'qB', 'qX'). Nothing is asked but the bounds that each fact names.
-/
import Derived.WalkKit
import Derived.Test.YtcnonioiggniiaaMathX
namespace Go.Proofs.Ytcnonioiggniiaa.M

/-- The error of a Put; 0: none. -/
def frE (b : ByteArray) : Int := if b.size = 0 then 2 else if 4096 < b.size then 5 else 0
/-- Two bytes that tell a length. -/
def two (b : ByteArray) : ByteArray := beB 2 (b.size : Int)
/-- The frame of a body of at least one and at most 4096 bytes. -/
def fr (b : ByteArray) : ByteArray := two b ++ beB 4 (crc (two b ++ b) : Int) ++ b
/-- The bytes of a Put. -/
def frB (b : ByteArray) : ByteArray := if frE b = 0 then fr b else ⟨#[]⟩
theorem two_size (b : ByteArray) : (two b).size = 2 := beB_size _ _
theorem fr_size (b : ByteArray) : (fr b).size = b.size + 6 := by
  unfold fr
  rw [size_app, size_app, two_size, beB_size]
  omega
theorem fr_none {b : ByteArray} (h : b.size = 0) : frE b = 2 ∧ frB b = ⟨#[]⟩ := by
  have e : frE b = 2 := by unfold frE; rw [if_pos h]
  exact ⟨e, by unfold frB; rw [e, if_neg (by decide)]⟩
theorem fr_long {b : ByteArray} (h0 : ¬ b.size = 0) (h : 4096 < b.size) : frE b = 5 ∧ frB b = ⟨#[]⟩ := by
  have e : frE b = 5 := by unfold frE; rw [if_neg h0, if_pos h]
  exact ⟨e, by unfold frB; rw [e, if_neg (by decide)]⟩
theorem fr_ok {b : ByteArray} (h0 : ¬ b.size = 0) (h : ¬ 4096 < b.size) : frE b = 0 ∧ frB b = fr b := by
  have e : frE b = 0 := by unfold frE; rw [if_neg h0, if_neg h]
  exact ⟨e, by unfold frB; rw [e, if_pos rfl]⟩

/-- The length that is told at a place. -/
def n2 (s : ByteArray) (A : Nat) : Nat := (num s A 2).toNat
/-- The check sum that is told there. -/
def n4 (s : ByteArray) (A : Nat) : Nat := (num s (A + 2) 4).toNat
theorem n2_int (s : ByteArray) (A : Nat) : (n2 s A : Int) = num s A 2 := by have := (num_range s A 2).1; unfold n2; omega
theorem n4_int (s : ByteArray) (A : Nat) : (n4 s A : Int) = num s (A + 2) 4 := by have := (num_range s (A + 2) 4).1; unfold n4; omega
theorem n2_lt (s : ByteArray) (A : Nat) : n2 s A < 65536 := by
  have := (num_range s A 2).2
  have e : (256 : Int) ^ 2 = 65536 := by decide
  have := n2_int s A
  omega
theorem n4_lt (s : ByteArray) (A : Nat) : n4 s A < 4294967296 := by
  have := (num_range s (A + 2) 4).2
  have e : (256 : Int) ^ 4 = 4294967296 := by decide
  have := n4_int s A
  omega
/-- The body that would stand there. -/
def bod (s : ByteArray) (A : Nat) : ByteArray := s.extract (A + 6) (A + 6 + n2 s A)
/-- Its check sum. -/
def chk (s : ByteArray) (A : Nat) : Nat := crc (s.extract A (A + 2) ++ bod s A)
/-- The error of a Get at a place ahead of at least two bytes; 0: none. -/
def qA (s : ByteArray) (A : Nat) : Int := if n2 s A = 0 then 13 else if 4096 < n2 s A then 5 else if s.size < A + 6 + n2 s A then 3 else if chk s A = n4 s A then 0 else 6
/-- The error of a Get; 0: none. -/
def qE (s : ByteArray) (at_ : Int) : Int := if gE s at_ 2 = 0 then qA s at_.toNat else gE s at_ 2
/-- The body of a Get. -/
def qB (s : ByteArray) (at_ : Int) : ByteArray := if qE s at_ = 0 then bod s at_.toNat else ⟨#[]⟩
/-- The place behind it. -/
def qX (s : ByteArray) (at_ : Int) : Int := if qE s at_ = 0 then ((at_.toNat + 6 + n2 s at_.toNat : Nat) : Int) else 0

theorem q_err {s : ByteArray} {at_ : Int} (h : ¬ qE s at_ = 0) : qB s at_ = ⟨#[]⟩ ∧ qX s at_ = 0 := by
  unfold qB qX
  rw [if_neg h, if_neg h]
  exact ⟨rfl, rfl⟩
theorem q_ok {s : ByteArray} {at_ : Int} (h : qE s at_ = 0) : qB s at_ = bod s at_.toNat ∧ qX s at_ = ((at_.toNat + 6 + n2 s at_.toNat : Nat) : Int) := by
  unfold qB qX
  rw [if_pos h, if_pos h]
  exact ⟨rfl, rfl⟩
/-- A Get of two bytes that goes well. -/
theorem g_place {s : ByteArray} {at_ : Int} (h : gE s at_ 2 = 0) : 0 ≤ at_ ∧ at_.toNat + 2 ≤ s.size := by
  by_cases c0 : (2 : Int) < 1 ∨ 8 < (2 : Int) ∨ at_ < 0 ∨ (s.size : Int) < at_
  · have := (g_arg c0).1; omega
  · by_cases c1 : (s.size : Int) - at_ < 2
    · have := (g_short c0 c1).1; omega
    · omega
theorem qA_val (s : ByteArray) (A : Nat) : (n2 s A = 0 → qA s A = 13) ∧ (¬ n2 s A = 0 → 4096 < n2 s A → qA s A = 5) ∧ (¬ n2 s A = 0 → ¬ 4096 < n2 s A → s.size < A + 6 + n2 s A → qA s A = 3) ∧
    (¬ n2 s A = 0 → ¬ 4096 < n2 s A → ¬ s.size < A + 6 + n2 s A → ¬ chk s A = n4 s A → qA s A = 6) ∧ (¬ n2 s A = 0 → ¬ 4096 < n2 s A → ¬ s.size < A + 6 + n2 s A → chk s A = n4 s A → qA s A = 0) := by
  unfold qA
  refine ⟨fun h => if_pos h, fun h h1 => ?_, fun h h1 h2 => ?_, fun h h1 h2 h3 => ?_, fun h h1 h2 h3 => ?_⟩
  · rw [if_neg h, if_pos h1]
  · rw [if_neg h, if_neg h1, if_pos h2]
  · rw [if_neg h, if_neg h1, if_neg h2, if_neg h3]
  · rw [if_neg h, if_neg h1, if_neg h2, if_pos h3]

end Go.Proofs.Ytcnonioiggniiaa.M
