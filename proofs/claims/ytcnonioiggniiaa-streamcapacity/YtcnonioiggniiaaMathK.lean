/-
  Plain facts on numbers and texts laid one behind the other: what is read at the place behind a beginning is what was laid there. Nothing is asked but the bounds that each fact names.
-/
import Derived.WalkKit
import Derived.Test.YtcnonioiggniiaaMathC
import Derived.Test.YtcnonioiggniiaaMathT
namespace Go.Proofs.Ytcnonioiggniiaa.M

theorem size_app (a b : ByteArray) : (a ++ b).size = a.size + b.size := by simp

theorem bt_left {a : ByteArray} (b : ByteArray) {j : Nat} (h : j < a.size) : bt (a ++ b) j = bt a j := by
  unfold bt
  rw [dif_pos h, dif_pos (by rw [size_app]; omega), ByteArray.getElem_append_left h]
theorem bt_right (a b : ByteArray) {j : Nat} (h : a.size ≤ j) : bt (a ++ b) j = bt b (j - a.size) := by
  unfold bt
  by_cases c : j < (a ++ b).size
  · have c' : j - a.size < b.size := by rw [size_app] at c; omega
    rw [dif_pos c, dif_pos c', ByteArray.getElem_append_right h]
  · have c' : ¬ j - a.size < b.size := by rw [size_app] at c; omega
    rw [dif_neg c, dif_neg c']

/-- The number at a place, in what stands ahead of the rest. -/
theorem num_left (a b : ByteArray) (p : Nat) : ∀ k, p + k ≤ a.size → num (a ++ b) p k = num a p k
  | 0, _ => rfl
  | k + 1, h => by
    show num (a ++ b) p k * 256 + bt (a ++ b) (p + k) = num a p k * 256 + bt a (p + k)
    rw [num_left a b p k (by omega), bt_left b (by omega)]
/-- The number at the head of what stands behind. -/
theorem num_right (a b : ByteArray) : ∀ k, num (a ++ b) a.size k = num b 0 k
  | 0 => rfl
  | k + 1 => by
    show num (a ++ b) a.size k * 256 + bt (a ++ b) (a.size + k) = num b 0 k * 256 + bt b (0 + k)
    rw [num_right a b k, bt_right a b (by omega)]
    congr 2
    omega

theorem be_get : ∀ (w : Nat) (x : Int) (j : Nat) (h : j < (be w x).length), ((be w x)[j].toNat : Int) = sh x (w - 1 - j) % 256
  | 0, _, j, h => by simp [be] at h
  | w + 1, x, 0, _ => by
    simp [be]
    omega
  | w + 1, x, j + 1, h => by
    have h' : j < (be w x).length := by simp [be] at h; exact h
    have e : (be (w + 1) x)[j + 1] = (be w x)[j] := by simp [be]
    rw [e, be_get w x j h', show w + 1 - 1 - (j + 1) = w - 1 - j by omega]
theorem bt_be {w j : Nat} (x : Int) (h : j < w) : bt (beB w x) j = sh x (w - 1 - j) % 256 := by
  have hl : j < (be w x).length := by rw [be_length]; exact h
  unfold bt
  rw [dif_pos (by rw [beB_size]; exact h)]
  exact be_get w x j hl

theorem sh_nonneg {x : Int} (h : 0 ≤ x) : ∀ i, 0 ≤ sh x i
  | 0 => h
  | i + 1 => by have := sh_nonneg h i; show 0 ≤ sh x i / 256; omega
theorem mod_more {y : Int} (h : 0 ≤ y) (P : Nat) : (y / 256 % (P : Int)) * 256 + y % 256 = y % ((P : Int) * 256) := by
  obtain ⟨Y, rfl⟩ := Int.eq_ofNat_of_zero_le h
  have e : Y / 256 % P * 256 + Y % 256 = Y % (P * 256) := by rw [Nat.mul_comm P, Nat.mod_mul]; omega
  have e2 : ((Y / 256 % P * 256 + Y % 256 : Nat) : Int) = ((Y % (P * 256) : Nat) : Int) := by rw [e]
  simpa [Int.natCast_emod, Int.natCast_mul] using e2
theorem num_be {w : Nat} {x : Int} (hx : 0 ≤ x) : ∀ k, k ≤ w → num (beB w x) 0 k = sh x (w - k) % ((256 ^ k : Nat) : Int)
  | 0, _ => by simp [num]
  | k + 1, h => by
    show num (beB w x) 0 k * 256 + bt (beB w x) (0 + k) = _
    have hs : sh x (w - k) = sh x (w - (k + 1)) / 256 := by
      rw [show w - k = (w - (k + 1)) + 1 by omega]; rfl
    rw [num_be hx k (by omega), Nat.zero_add, bt_be x (by omega), show w - 1 - k = w - (k + 1) by omega, hs, mod_more (sh_nonneg hx _), Nat.pow_succ, Int.natCast_mul]
    rfl
theorem num_whole {w : Nat} {x : Int} (hx : 0 ≤ x) : num (beB w x) 0 w = x % ((256 ^ w : Nat) : Int) := by
  rw [num_be hx w (Nat.le_refl _), Nat.sub_self]
  rfl

/-- The lowest bits are the lowest bytes. -/
theorem bits_whole {x : Int} (hx : 0 ≤ x) {w : Nat} (hw : w ≤ 8) : (bitsN x 0 (8 * (w : Int)) : Int) = x % ((256 ^ w : Nat) : Int) := by
  obtain ⟨X, rfl⟩ := Int.eq_ofNat_of_zero_le hx
  have e : bitsN (X : Int) 0 (8 * (w : Int)) = X % 256 ^ w := by
    have hc : cOf (8 * (w : Int)) = 8 * w := by unfold cOf; omega
    have hp : (256 : Nat) ^ w = 2 ^ (8 * w) := by rw [Nat.pow_mul]
    rw [hp]
    apply Nat.eq_of_testBit_eq
    intro j
    unfold bitsN
    rw [testBit_valN, hc, Nat.testBit_mod_two_pow]
    have e2 : gB (X : Int) 0 j = X.testBit j := by
      unfold gB bitB
      rw [Int.zero_add, Int.toNat_natCast, Int.toNat_natCast, decide_eq_true (show (0 : Int) ≤ (j : Int) by omega), Bool.true_and]
    rw [e2]
  rw [e]
  rfl

/-- A Get that goes well. -/
theorem get_ok {s : ByteArray} {a w : Nat} (h1 : 1 ≤ w) (h2 : w ≤ 8) (h3 : a + w ≤ s.size) :
    gE s (a : Int) (w : Int) = 0 ∧ gN s (a : Int) (w : Int) = num s a w ∧ gX s (a : Int) (w : Int) = ((a + w : Nat) : Int) := by
  obtain ⟨e1, e2, e3⟩ := g_ok (s := s) (at_ := (a : Int)) (width := (w : Int)) (by omega) (by omega)
  rw [Int.toNat_natCast, Int.toNat_natCast] at e2
  exact ⟨e1, e2, by omega⟩

/-- What is laid behind a beginning is read there. -/
theorem get_back {p r : ByteArray} {w : Nat} {x : Int} (hx : 0 ≤ x) (h1 : 1 ≤ w) (h2 : w ≤ 8) :
    gE (p ++ beB w x ++ r) (p.size : Int) (w : Int) = 0 ∧ gN (p ++ beB w x ++ r) (p.size : Int) (w : Int) = x % ((256 ^ w : Nat) : Int) ∧
      gX (p ++ beB w x ++ r) (p.size : Int) (w : Int) = (((p ++ beB w x).size : Nat) : Int) := by
  have hz : (p ++ beB w x).size = p.size + w := by rw [size_app, beB_size]
  obtain ⟨e1, e2, e3⟩ := get_ok (s := p ++ beB w x ++ r) (a := p.size) h1 h2 (by rw [size_app, hz]; omega)
  refine ⟨e1, ?_, ?_⟩
  · rw [e2, num_left _ _ _ _ (by rw [hz]; exact Nat.le_refl _), num_right, num_whole hx]
  · rw [e3, hz]

theorem extract_mid (p t r : ByteArray) : (p ++ t ++ r).extract p.size (p.size + t.size) = t := by
  apply ByteArray.ext
  rw [ByteArray.data_extract, ByteArray.data_append, ByteArray.data_append]
  have hp : p.size = p.data.size := rfl
  have ht : t.size = t.data.size := rfl
  have e1 : p.data.extract p.size (p.size + t.size) = #[] := by
    apply Array.eq_empty_of_size_eq_zero
    rw [Array.size_extract]
    omega
  have e2 : t.data.extract 0 t.size = t.data := by rw [ht]; exact Array.extract_size
  rw [hp, ht]
  simp [Array.extract_append]
  rw [e1, e2]
  simp

/-- A text laid behind a beginning is read there. -/
theorem text_back {p t r : ByteArray} (ht : t.size ≤ 65535) :
    xE (p ++ tB t ++ r) (p.size : Int) = 0 ∧ xB (p ++ tB t ++ r) (p.size : Int) = t ∧ xX (p ++ tB t ++ r) (p.size : Int) = (((p ++ tB t).size : Nat) : Int) := by
  have hb : tB t = beB 2 (t.size : Int) ++ t := (t_ok (by omega)).2
  have ha : p ++ tB t ++ r = p ++ beB 2 (t.size : Int) ++ (t ++ r) := by rw [hb]; simp [ByteArray.append_assoc]
  have hc : p ++ tB t ++ r = p ++ beB 2 (t.size : Int) ++ t ++ r := by rw [hb]; simp [ByteArray.append_assoc]
  have hz : (p ++ beB 2 (t.size : Int)).size = p.size + 2 := by rw [size_app, beB_size]
  obtain ⟨e1, e2, e3⟩ := get_back (p := p) (r := t ++ r) (w := 2) (x := (t.size : Int)) (by omega) (by omega) (by omega)
  rw [← ha] at e1 e2 e3
  have e2' : gN (p ++ tB t ++ r) (p.size : Int) 2 = (t.size : Int) := by
    have h : gN (p ++ tB t ++ r) (p.size : Int) ((2 : Nat) : Int) = (t.size : Int) := by rw [e2]; simp; omega
    exact h
  have e1' : gE (p ++ tB t ++ r) (p.size : Int) 2 = 0 := e1
  have e3' : gX (p ++ tB t ++ r) (p.size : Int) 2 = (((p ++ beB 2 (t.size : Int)).size : Nat) : Int) := e3
  have hs : (p ++ tB t ++ r).size = p.size + 2 + t.size + r.size := by rw [hc, size_app, size_app, hz]
  obtain ⟨f1, f2, f3⟩ := x_ok e1' (by rw [e2', e3', hz, hs]; omega)
  refine ⟨f1, ?_, ?_⟩
  · rw [f2, e2', e3', Int.toNat_natCast, Int.toNat_natCast, hc]
    exact extract_mid _ _ _
  · rw [f3, e2', e3', hz, hb, size_app, size_app, beB_size]
    omega

end Go.Proofs.Ytcnonioiggniiaa.M
