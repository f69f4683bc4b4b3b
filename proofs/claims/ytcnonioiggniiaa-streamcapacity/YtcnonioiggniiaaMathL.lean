/-
  Plain facts on frames one behind the other: the places ('pl'), the bodies ('bd'), the first place at which there is none ('Fst'). Nothing is asked but the bounds that each fact names.
-/
import Derived.WalkKit
import Derived.Test.YtcnonioiggniiaaMathF
namespace Go.Proofs.Ytcnonioiggniiaa.M

/-- The place behind k frames. -/
def pl (s : ByteArray) : Nat → Nat
  | 0 => 0
  | k + 1 => pl s k + 6 + n2 s (pl s k)
/-- The body of frame k. -/
def bd (s : ByteArray) (k : Nat) : ByteArray := bod s (pl s k)
/-- The bodies of the first k frames, as values. -/
def bds (s : ByteArray) (k : Nat) : List Value := (List.range k).map fun j => .string (bd s j)
theorem bds_length (s : ByteArray) (k : Nat) : (bds s k).length = k := by simp [bds]
theorem bds_succ (s : ByteArray) (k : Nat) : bds s (k + 1) = bds s k ++ [.string (bd s k)] := by simp [bds, List.range_succ]
theorem bds_get {s : ByteArray} {k j : Nat} (h : j < k) : (bds s k)[j]? = some (.string (bd s j)) := by simp [bds, h]

/-- What a Get that goes well says of its place. -/
theorem q_place {s : ByteArray} {A : Nat} (h : qE s (A : Int) = 0) : 1 ≤ n2 s A ∧ n2 s A ≤ 4096 ∧ A + 6 + n2 s A ≤ s.size ∧ chk s A = n4 s A := by
  unfold qE at h
  by_cases c0 : gE s (A : Int) 2 = 0
  · rw [if_pos c0, Int.toNat_natCast] at h
    obtain ⟨v1, v2, v3, v4, v5⟩ := qA_val s A
    by_cases c1 : n2 s A = 0
    · have := v1 c1; omega
    · by_cases c2 : 4096 < n2 s A
      · have := v2 c1 c2; omega
      · by_cases c3 : s.size < A + 6 + n2 s A
        · have := v3 c1 c2 c3; omega
        · by_cases c4 : chk s A = n4 s A
          · exact ⟨by omega, by omega, by omega, c4⟩
          · have := v4 c1 c2 c3 c4; omega
  · rw [if_neg c0] at h
    exact absurd h c0
/-- When a Get goes well. -/
theorem q_well {s : ByteArray} {A : Nat} (h1 : 1 ≤ n2 s A) (h2 : n2 s A ≤ 4096) (h3 : A + 6 + n2 s A ≤ s.size) (h4 : chk s A = n4 s A) : qE s (A : Int) = 0 := by
  have c0 : gE s (A : Int) 2 = 0 := (get_ok (s := s) (a := A) (w := 2) (by omega) (by omega) (by omega)).1
  unfold qE
  rw [if_pos c0, Int.toNat_natCast]
  exact (qA_val s A).2.2.2.2 (by omega) (by omega) (by omega) h4

/-- k frames stand one behind the other. -/
def Up (s : ByteArray) (k : Nat) : Prop := ∀ j, j < k → qE s (pl s j : Int) = 0
/-- k frames stand one behind the other, and no more. -/
def Fst (s : ByteArray) (k : Nat) : Prop := Up s k ∧ ¬ qE s (pl s k : Int) = 0
theorem up_zero (s : ByteArray) : Up s 0 := fun j h => absurd h (Nat.not_lt_zero j)
theorem up_succ {s : ByteArray} {k : Nat} (h : Up s k) (h2 : qE s (pl s k : Int) = 0) : Up s (k + 1) := fun j hj => by
  by_cases c : j = k
  · rw [c]; exact h2
  · exact h j (by omega)
theorem fst_one {s : ByteArray} {a b : Nat} (ha : Fst s a) (hb : Fst s b) : a = b := by
  rcases Nat.lt_trichotomy a b with h | h | h
  · exact absurd (hb.1 a h) ha.2
  · exact h
  · exact absurd (ha.1 b h) hb.2
theorem pl_le {s : ByteArray} : ∀ {k : Nat}, Up s k → pl s k ≤ s.size ∧ 7 * k ≤ pl s k
  | 0, _ => ⟨Nat.zero_le _, Nat.zero_le _⟩
  | k + 1, h => by
    have h1 := pl_le (k := k) fun j hj => h j (by omega)
    have h2 := q_place (h k (by omega))
    show pl s k + 6 + n2 s (pl s k) ≤ s.size ∧ 7 * (k + 1) ≤ pl s k + 6 + n2 s (pl s k)
    omega
theorem bd_size (s : ByteArray) (k : Nat) : (bd s k).size ≤ s.size := by
  unfold bd bod
  rw [ByteArray.size_extract]
  omega

end Go.Proofs.Ytcnonioiggniiaa.M
