/-
  The bytes of values, as plain lists: how many bytes a number has without noughts ahead ('wid'), the bytes of a number ('numB'), of a value ('enc1'), of a list of values ('encF'), or the first error; what they weigh ('wt'). No Go text is in sight.
-/
import Derived.Test.YtpmmffihibhlhaaDoorMathV
import Derived.Test.YtpmmffihibhlhaaDoorMathK
import Derived.Lib.BitFns
namespace Go.Proofs.YtpmmffihibhlhaaDoor.M

/-- How many bytes a number has without noughts ahead. -/
def wid (m : Int) : Nat := (Lib.bitLen m.toNat + 7) / 8
theorem pow256_2 (k : Nat) : (256 : Nat) ^ k = 2 ^ (8 * k) := by rw [Nat.pow_mul]
theorem wid_le {m : Int} {k : Nat} (hk : k ≤ 8) (h : m.toNat < 256 ^ k) : wid m ≤ k := by
  rw [pow256_2] at h
  have := Lib.bitLen_le m.toNat (8 * k) (by omega) h
  unfold wid
  omega
theorem bitLen_pos {x : Nat} (h : x ≠ 0) (h2 : x < 2 ^ 64) : 1 ≤ Lib.bitLen x := by rw [Lib.bitLen_half x h h2]; omega
theorem wid_gt {m : Int} {k : Nat} (h : 256 ^ k ≤ m.toNat) (h2 : m < 18446744073709551616) : k + 1 ≤ wid m := by
  have h64 : m.toNat < 2 ^ 64 := by omega
  rw [pow256_2] at h
  have e := Lib.bitLen_shift (8 * k) m.toNat h h64
  have hp : 0 < 2 ^ (8 * k) := Nat.pow_pos (by decide)
  have h3 : m.toNat / 2 ^ (8 * k) ≠ 0 := by
    have := (Nat.le_div_iff_mul_le hp).2 (show 1 * 2 ^ (8 * k) ≤ m.toNat by omega)
    omega
  have h4 := bitLen_pos h3 (Nat.lt_of_le_of_lt (Nat.div_le_self _ _) h64)
  unfold wid
  omega
theorem wid_8 {m : Int} (h2 : m < 18446744073709551616) : wid m ≤ 8 := wid_le (Nat.le_refl _) (by omega)
/-- A number of so many bytes, the first of which is not nought. -/
theorem wid_lt {m : Int} (h2 : m < 18446744073709551616) : m.toNat < 256 ^ wid m := by
  rcases Nat.lt_or_ge m.toNat (256 ^ wid m) with h | h
  · exact h
  · have := wid_gt h h2
    omega
theorem wid_ge {m : Int} {k : Nat} (h : wid m = k + 1) (hk : k ≤ 7) : 256 ^ k ≤ m.toNat := by
  rcases Nat.lt_or_ge m.toNat (256 ^ k) with h3 | h3
  · have := wid_le (by omega) h3
    omega
  · exact h3
theorem wid_zero : wid 0 = 0 := by decide
theorem wid_none {m : Int} (h0 : 0 ≤ m) (h2 : m < 18446744073709551616) (h : wid m = 0) : m = 0 := by
  have := wid_lt h2
  rw [h] at this
  omega

/-- The bytes of a number. -/
def numB (n : Int) : List UInt8 := 1 :: UInt8.ofNat (wid (foldI n)) :: be (wid (foldI n)) (foldI n)
theorem numB_length (n : Int) : (numB n).length = 2 + wid (foldI n) := by simp [numB, be_length]; omega
/-- The bytes of a value, out of those of its list. -/
def enc1 (k n : Int) (s : ByteArray) (len d : Nat) (x : Except Int (List UInt8)) : Except Int (List UInt8) :=
  if k = 0 then .ok (numB n)
  else if k = 1 then (if 4096 < s.size then .error 5 else .ok (2 :: (be 2 s.size ++ s.data.toList)))
  else if k = 2 then (if 256 < len ∨ 8 ≤ d then .error 5 else match x with | .ok b => .ok (3 :: (be 2 len ++ b)) | .error e => .error e)
  else .error 2
/-- One behind the other; the first error. -/
def cat (x y : Except Int (List UInt8)) : Except Int (List UInt8) := match x with
  | .ok a => (match y with | .ok b => .ok (a ++ b) | .error e => .error e)
  | .error e => .error e
/-- The bytes of a list of values that stand in so many lists. -/
def encF : F → Nat → Except Int (List UInt8)
  | .nil, _ => .ok []
  | .cons k n s l r, d => cat (enc1 k n s l.len d (encF l (d + 1))) (encF r d)

/-- What a value weighs. -/
def wt1 (k n : Int) (s : ByteArray) (x : Nat) : Nat :=
  if k = 0 then 2 + wid (foldI n) else if k = 1 then (if 4096 < s.size then 0 else 3 + s.size) else if k = 2 then 3 + x else 0
def F.wt : F → Nat
  | .nil => 0
  | .cons k n s l r => wt1 k n s l.wt + r.wt
theorem wt_nodes : ∀ {f : F}, f.ok → f.wt ≤ 4099 * f.nodes
  | .nil, _ => Nat.le_refl _
  | .cons k n s l r, h => by
    have h1 := wt_nodes h.2.2.2.1
    have h2 := wt_nodes h.2.2.2.2
    have h3 := wid_8 (fold_range h.2.1.1 h.2.1.2).2
    have h4 : wt1 k n s l.wt ≤ 4099 + l.wt := by
      unfold wt1
      split
      · omega
      · split
        · split <;> omega
        · split <;> omega
    simp only [F.wt, F.nodes]
    omega
theorem enc1_size {k n : Int} {s : ByteArray} {len d : Nat} {x : Except Int (List UInt8)} {X : Nat} (hx : ∀ b, x = .ok b → b.length = X) {a : List UInt8} (h : enc1 k n s len d x = .ok a) : a.length = wt1 k n s X := by
  unfold enc1 at h
  unfold wt1
  by_cases c0 : k = 0
  · rw [if_pos c0] at h ⊢
    cases h
    exact numB_length n
  · rw [if_neg c0] at h ⊢
    by_cases c1 : k = 1
    · rw [if_pos c1] at h ⊢
      by_cases c2 : 4096 < s.size
      · rw [if_pos c2] at h; cases h
      · rw [if_neg c2] at h ⊢
        cases h
        have : s.data.toList.length = s.size := Array.length_toList
        simp only [List.length_cons, List.length_append, be_length]
        omega
    · rw [if_neg c1] at h ⊢
      by_cases c2 : k = 2
      · rw [if_pos c2] at h ⊢
        split at h
        · cases h
        · cases x with
          | ok b =>
            cases h
            have := hx b rfl
            simp only [List.length_cons, List.length_append, be_length]
            omega
          | error e => cases h
      · rw [if_neg c2] at h; cases h
theorem cat_ok {x y : Except Int (List UInt8)} {c : List UInt8} (h : cat x y = .ok c) : ∃ a b, x = .ok a ∧ y = .ok b ∧ c = a ++ b := by
  unfold cat at h
  split at h
  · split at h
    · cases h
      exact ⟨_, _, rfl, rfl, rfl⟩
    · cases h
  · cases h
theorem encF_size : ∀ {f : F} {d : Nat} {b : List UInt8}, encF f d = .ok b → b.length = f.wt
  | .nil, d, b, h => by simp only [encF] at h; cases h; rfl
  | .cons k n s l r, d, c, h => by
    simp only [encF] at h
    obtain ⟨a, b, h1, h2, rfl⟩ := cat_ok h
    have e1 := enc1_size (fun b hb => encF_size hb) h1
    have e2 := encF_size h2
    simp [F.wt, e1, e2]

/-- All behind a beginning. -/
def onto (a : List UInt8) (x : Except Int (List UInt8)) : Except Int (List UInt8) := match x with
  | .ok b => .ok (a ++ b)
  | .error e => .error e
theorem onto_nil (x : Except Int (List UInt8)) : onto [] x = x := by cases x <;> rfl
theorem onto_onto (a b : List UInt8) (x : Except Int (List UInt8)) : onto a (onto b x) = onto (a ++ b) x := by cases x <;> simp [onto]
theorem cat_onto (a : List UInt8) (y : Except Int (List UInt8)) : cat (.ok a) y = onto a y := by cases y <;> rfl

theorem enc_int (n : Int) (s : ByteArray) (len d : Nat) (x : Except Int (List UInt8)) : enc1 0 n s len d x = .ok (numB n) := by simp [enc1]
theorem enc_long {n : Int} {s : ByteArray} {len d : Nat} {x : Except Int (List UInt8)} (h : 4096 < s.size) : enc1 1 n s len d x = .error 5 := by simp [enc1, h]
theorem enc_text {n : Int} {s : ByteArray} {len d : Nat} {x : Except Int (List UInt8)} (h : ¬ 4096 < s.size) : enc1 1 n s len d x = .ok (2 :: (be 2 s.size ++ s.data.toList)) := by simp [enc1, h]
theorem enc_deep {n : Int} {s : ByteArray} {len d : Nat} {x : Except Int (List UInt8)} (h : 256 < len ∨ 8 ≤ d) : enc1 2 n s len d x = .error 5 := by simp [enc1, h]
theorem enc_list {n : Int} {s : ByteArray} {len d : Nat} {x : Except Int (List UInt8)} (h : ¬ (256 < len ∨ 8 ≤ d)) : enc1 2 n s len d x = onto (3 :: be 2 len) x := by
  unfold enc1 onto
  rw [if_neg (by decide), if_neg (by decide), if_pos rfl, if_neg h]
  cases x <;> rfl
theorem enc_none {k n : Int} {s : ByteArray} {len d : Nat} {x : Except Int (List UInt8)} (h0 : k ≠ 0) (h1 : k ≠ 1) (h2 : k ≠ 2) : enc1 k n s len d x = .error 2 := by simp [enc1, h0, h1, h2]

end Go.Proofs.YtpmmffihibhlhaaDoor.M
