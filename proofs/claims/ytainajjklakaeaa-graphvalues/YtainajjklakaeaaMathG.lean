/-
  Plain facts on numbers that stand in a text, byte by byte, the highest first. Nothing is asked but the bounds that each fact names.
-/
import Derived.WalkKit
import Derived.Laws.BitsAllLaws
import Derived.Test.YtainajjklakaeaaMathB
namespace Go.Proofs.Ytainajjklakaeaa.M

/-- The byte at a place; behind the end: nought. -/
def bt (s : ByteArray) (j : Nat) : Int := if h : j < s.size then (s[j].toNat : Int) else 0
theorem get_bt (s : ByteArray) : ∀ (j : Nat) (h : j < s.size), ((s[j]'h).toNat : Int) = bt s j := fun j h => by unfold bt; rw [dif_pos h]
theorem bt_range (s : ByteArray) (j : Nat) : 0 ≤ bt s j ∧ bt s j ≤ 255 := by
  unfold bt
  split
  · rename_i h
    have := s[j].toNat_lt
    omega
  · omega

/-- The number that k bytes from a place on are. -/
def num (s : ByteArray) (a : Nat) : Nat → Int
  | 0 => 0
  | k + 1 => num s a k * 256 + bt s (a + k)
theorem num_range (s : ByteArray) (a : Nat) : ∀ k, 0 ≤ num s a k ∧ num s a k < 256 ^ k
  | 0 => by simp [num]
  | k + 1 => by
    have h := num_range s a k
    have hb := bt_range s (a + k)
    show 0 ≤ num s a k * 256 + bt s (a + k) ∧ num s a k * 256 + bt s (a + k) < 256 ^ (k + 1)
    rw [Int.pow_succ]
    omega
theorem pow256 {k m : Nat} (h : k ≤ m) : (256 : Int) ^ k ≤ 256 ^ m := by
  have h1 := Nat.pow_le_pow_right (n := 256) (by decide) h
  have h2 : ((256 ^ k : Nat) : Int) ≤ ((256 ^ m : Nat) : Int) := Int.ofNat_le.mpr h1
  rw [Int.natCast_pow, Int.natCast_pow] at h2
  exact h2
theorem num_7 (s : ByteArray) (a : Nat) {k : Nat} (h : k ≤ 7) : 0 ≤ num s a k ∧ num s a k < 72057594037927936 := by
  have h1 := num_range s a k
  have h2 := pow256 h
  have e : (256 : Int) ^ 7 = 72057594037927936 := by decide
  omega
theorem num_8 (s : ByteArray) (a : Nat) {k : Nat} (h : k ≤ 8) : 0 ≤ num s a k ∧ num s a k < 18446744073709551616 := by
  have h1 := num_range s a k
  have h2 := pow256 h
  have e : (256 : Int) ^ 8 = 18446744073709551616 := by decide
  omega
/-- A byte put below. -/
theorem or_byte {x y : Int} (h0 : 0 ≤ x) (h1 : x < 72057594037927936) (h2 : 0 ≤ y) (h3 : y ≤ 255) : bits .or .u64 (x * 256) y = x * 256 + y := by
  rw [u64_or _ _ (by omega) (by omega) h2 (by omega), nat_join8 _ _ (by omega) (by omega)]
  omega

/-- The error of a Get; 0: none. -/
def gE (s : ByteArray) (at_ width : Int) : Int :=
  if width < 1 ∨ 8 < width ∨ at_ < 0 ∨ (s.size : Int) < at_ then 2 else if (s.size : Int) - at_ < width then 3 else 0
/-- The number of a Get. -/
def gN (s : ByteArray) (at_ width : Int) : Int := if gE s at_ width = 0 then num s at_.toNat width.toNat else 0
/-- The place behind it. -/
def gX (s : ByteArray) (at_ width : Int) : Int := if gE s at_ width = 0 then at_ + width else 0

theorem g_arg {s : ByteArray} {at_ width : Int} (h : width < 1 ∨ 8 < width ∨ at_ < 0 ∨ (s.size : Int) < at_) : gE s at_ width = 2 ∧ gN s at_ width = 0 ∧ gX s at_ width = 0 := by
  have e : gE s at_ width = 2 := by unfold gE; rw [if_pos h]
  unfold gN gX
  rw [e]
  exact ⟨rfl, rfl, rfl⟩
theorem g_short {s : ByteArray} {at_ width : Int} (h : ¬ (width < 1 ∨ 8 < width ∨ at_ < 0 ∨ (s.size : Int) < at_)) (h2 : (s.size : Int) - at_ < width) : gE s at_ width = 3 ∧ gN s at_ width = 0 ∧ gX s at_ width = 0 := by
  have e : gE s at_ width = 3 := by unfold gE; rw [if_neg h, if_pos h2]
  unfold gN gX
  rw [e]
  exact ⟨rfl, rfl, rfl⟩
theorem g_ok {s : ByteArray} {at_ width : Int} (h : ¬ (width < 1 ∨ 8 < width ∨ at_ < 0 ∨ (s.size : Int) < at_)) (h2 : ¬ (s.size : Int) - at_ < width) :
    gE s at_ width = 0 ∧ gN s at_ width = num s at_.toNat width.toNat ∧ gX s at_ width = at_ + width := by
  have e : gE s at_ width = 0 := by unfold gE; rw [if_neg h, if_neg h2]
  unfold gN gX
  rw [e]
  exact ⟨rfl, rfl, rfl⟩

end Go.Proofs.Ytainajjklakaeaa.M
