/-
  What bytes are read as, plainly: a folded number ('numR'), a text ('textR'), a value ('valR'), so many values ('rowR'), each with the place behind it, or the first error. No Go text is in sight.
-/
import Derived.Test.YtdmbpejoekeenaaMathW
import Derived.Test.YtdmbpejoekeenaaMathT
namespace Go.Proofs.Ytdmbpejoekeenaa.M

/-- A value. -/
structure V where
  k : Int
  n : Int
  s : ByteArray
  l : F

theorem gX_range (s : ByteArray) (a width : Int) : 0 ≤ gX s a width ∧ gX s a width ≤ (s.size : Int) := by
  by_cases c : width < 1 ∨ 8 < width ∨ a < 0 ∨ (s.size : Int) < a
  · rw [(g_arg c).2.2]; omega
  · by_cases c1 : (s.size : Int) - a < width
    · rw [(g_short c c1).2.2]; omega
    · rw [(g_ok c c1).2.2]; omega
theorem gN_range (s : ByteArray) (a width : Int) : 0 ≤ gN s a width ∧ gN s a width < 18446744073709551616 := by
  by_cases c : width < 1 ∨ 8 < width ∨ a < 0 ∨ (s.size : Int) < a
  · rw [(g_arg c).2.1]; omega
  · by_cases c1 : (s.size : Int) - a < width
    · rw [(g_short c c1).2.1]; omega
    · rw [(g_ok c c1).2.1]; exact num_8 s _ (by omega)
theorem gN_1 (s : ByteArray) (a : Int) : gN s a 1 < 256 := by
  by_cases c : (1 : Int) < 1 ∨ 8 < (1 : Int) ∨ a < 0 ∨ (s.size : Int) < a
  · rw [(g_arg c).2.1]; omega
  · by_cases c1 : (s.size : Int) - a < 1
    · rw [(g_short c c1).2.1]; omega
    · rw [(g_ok c c1).2.1]
      have h := num_range s a.toNat (1 : Int).toNat
      have e : (256 : Int) ^ (1 : Int).toNat = 256 := by decide
      omega
theorem xX_range (s : ByteArray) (a : Int) : 0 ≤ xX s a ∧ xX s a ≤ (s.size : Int) := by
  by_cases c : gE s a 2 = 0
  · obtain ⟨n0, n1, x0, x1⟩ := g_two c
    by_cases c1 : (s.size : Int) - gX s a 2 < gN s a 2
    · rw [(x_short c c1).2.2]; omega
    · rw [(x_ok c c1).2.2]; omega
  · rw [(x_err c).2.2]; omega
theorem xB_size (s : ByteArray) (a : Int) : (xB s a).size ≤ s.size := by
  unfold xB
  split
  · rw [ByteArray.size_extract]; omega
  · exact Nat.zero_le _

/-- A folded number's bytes, behind its mark. -/
def numR (s : ByteArray) (a : Int) : Except Int (Int × Int) :=
  if gE s a 1 ≠ 0 then .error (gE s a 1)
  else if 8 < gN s a 1 then .error 4
  else if gN s a 1 = 0 then .ok (0, gX s a 1)
  else if gE s (gX s a 1) (gN s a 1) ≠ 0 then .error (gE s (gX s a 1) (gN s a 1))
  else if (wid (gN s (gX s a 1) (gN s a 1)) : Int) ≠ gN s a 1 then .error 4
  else .ok (gN s (gX s a 1) (gN s a 1), gX s (gX s a 1) (gN s a 1))
/-- A text's bytes, behind its mark. -/
def textR (s : ByteArray) (a : Int) : Except Int (ByteArray × Int) :=
  if xE s a ≠ 0 then .error (xE s a) else if 4096 < (xB s a).size then .error 5 else .ok (xB s a, xX s a)
/-- So many values. -/
def rowR (v : Int → Except Int (V × Int)) : Nat → Int → Except Int (F × Int)
  | 0, a => .ok (.nil, a)
  | c + 1, a => match v a with
    | .error e => .error e
    | .ok x => (match rowR v c x.2 with
      | .error e => .error e
      | .ok y => .ok (.cons x.1.k x.1.n x.1.s x.1.l y.1, y.2))
/-- A list's bytes, behind its mark, where so many lists may still stand in another. -/
def listR (s : ByteArray) (v : Nat → Int → Except Int (V × Int)) : Nat → Int → Except Int (F × Int)
  | 0, _ => .error 5
  | m + 1, a => if gE s a 2 ≠ 0 then .error (gE s a 2) else if 256 < gN s a 2 then .error 5 else rowR (v m) (gN s a 2).toNat (gX s a 2)
def overN (r : Except Int (Int × Int)) : Except Int (V × Int) := match r with
  | .error e => .error e
  | .ok x => .ok (⟨0, unfoldI x.1, ⟨#[]⟩, .nil⟩, x.2)
def overT (r : Except Int (ByteArray × Int)) : Except Int (V × Int) := match r with
  | .error e => .error e
  | .ok x => .ok (⟨1, 0, x.1, .nil⟩, x.2)
def overL (r : Except Int (F × Int)) : Except Int (V × Int) := match r with
  | .error e => .error e
  | .ok x => .ok (⟨2, 0, ⟨#[]⟩, x.1⟩, x.2)
/-- A value's bytes, where so many lists may still stand one in another. -/
def valR (s : ByteArray) : Nat → Int → Except Int (V × Int)
  | 0, a => if gE s a 1 ≠ 0 then .error (gE s a 1) else if gN s a 1 = 1 then overN (numR s (gX s a 1)) else if gN s a 1 = 2 then overT (textR s (gX s a 1)) else if gN s a 1 = 3 then .error 5 else .error 4
  | m + 1, a => if gE s a 1 ≠ 0 then .error (gE s a 1) else if gN s a 1 = 1 then overN (numR s (gX s a 1)) else if gN s a 1 = 2 then overT (textR s (gX s a 1)) else if gN s a 1 = 3 then
      overL (if gE s (gX s a 1) 2 ≠ 0 then .error (gE s (gX s a 1) 2) else if 256 < gN s (gX s a 1) 2 then .error 5 else rowR (valR s m) (gN s (gX s a 1) 2).toNat (gX s (gX s a 1) 2)) else .error 4
theorem valR_eq (s : ByteArray) (m : Nat) (a : Int) : valR s m a = if gE s a 1 ≠ 0 then .error (gE s a 1) else if gN s a 1 = 1 then overN (numR s (gX s a 1)) else if gN s a 1 = 2 then overT (textR s (gX s a 1)) else if gN s a 1 = 3 then overL (listR s (valR s) m (gX s a 1)) else .error 4 := by
  cases m with
  | zero => unfold valR listR; rfl
  | succ m => conv => lhs; unfold valR
              rfl
/-- All bytes of a text. -/
def allR (s : ByteArray) : Except Int V := match valR s 8 0 with
  | .error e => .error e
  | .ok x => if x.2 = (s.size : Int) then .ok x.1 else .error 4

/-- Behind values that were read. -/
def front (f : F) (r : Except Int (F × Int)) : Except Int (F × Int) := match r with
  | .error e => .error e
  | .ok x => .ok (f.app x.1, x.2)
theorem front_nil (r : Except Int (F × Int)) : front .nil r = r := by cases r <;> rfl
theorem front_err {v : Int → Except Int (V × Int)} {c : Nat} {a : Int} {f : F} {e : Int} (h : v a = .error e) : front f (rowR v (c + 1) a) = .error e := by
  simp only [rowR, h, front]
theorem front_ok {v : Int → Except Int (V × Int)} {c : Nat} {a : Int} {f : F} {x : V × Int} (h : v a = .ok x) : front f (rowR v (c + 1) a) = front (f.app (.cons x.1.k x.1.n x.1.s x.1.l .nil)) (rowR v c x.2) := by
  simp only [rowR, h]
  cases rowR v c x.2 with
  | error e => rfl
  | ok y => simp only [front]; rw [F.snoc_app]

/-- The place behind is within. -/
theorem numR_at {s : ByteArray} {a : Int} {x : Int × Int} (h : numR s a = .ok x) : 0 ≤ x.2 ∧ x.2 ≤ (s.size : Int) := by
  unfold numR at h
  split at h; · cases h
  split at h; · cases h
  split at h; · cases h; exact gX_range _ _ _
  split at h; · cases h
  split at h; · cases h
  cases h; exact gX_range _ _ _
theorem textR_at {s : ByteArray} {a : Int} {x : ByteArray × Int} (h : textR s a = .ok x) : 0 ≤ x.2 ∧ x.2 ≤ (s.size : Int) := by
  unfold textR at h
  split at h; · cases h
  split at h; · cases h
  cases h; exact xX_range _ _
theorem rowR_at {s : ByteArray} {v : Int → Except Int (V × Int)} (hv : ∀ a x, v a = .ok x → 0 ≤ x.2 ∧ x.2 ≤ (s.size : Int)) : ∀ {c : Nat} {a : Int} {x : F × Int}, 0 ≤ a ∧ a ≤ (s.size : Int) → rowR v c a = .ok x → 0 ≤ x.2 ∧ x.2 ≤ (s.size : Int)
  | 0, a, x, ha, h => by simp only [rowR] at h; cases h; exact ha
  | c + 1, a, x, ha, h => by
    simp only [rowR] at h
    cases h1 : v a with
    | error e => rw [h1] at h; cases h
    | ok y =>
      rw [h1] at h
      simp only at h
      cases h2 : rowR v c y.2 with
      | error e => rw [h2] at h; cases h
      | ok z => rw [h2] at h; cases h; exact (rowR_at hv (hv _ _ h1) h2 : 0 ≤ z.2 ∧ z.2 ≤ (s.size : Int))
theorem rowR_len {v : Int → Except Int (V × Int)} : ∀ {c : Nat} {a : Int} {x : F × Int}, rowR v c a = .ok x → x.1.len = c
  | 0, a, x, h => by simp only [rowR] at h; cases h; rfl
  | c + 1, a, x, h => by
    simp only [rowR] at h
    cases h1 : v a with
    | error e => rw [h1] at h; cases h
    | ok y =>
      rw [h1] at h
      simp only at h
      cases h2 : rowR v c y.2 with
      | error e => rw [h2] at h; cases h
      | ok z => rw [h2] at h; cases h; simp [F.len, rowR_len h2]
theorem valR_at {s : ByteArray} : ∀ {m : Nat} {a : Int} {x : V × Int}, valR s m a = .ok x → 0 ≤ x.2 ∧ x.2 ≤ (s.size : Int) := by
  intro m
  induction m with
  | zero =>
    intro a x h
    rw [valR_eq] at h
    split at h; · cases h
    split at h
    · cases h1 : numR s (gX s a 1) with
      | error e => rw [h1] at h; cases h
      | ok y => rw [h1] at h; cases h; exact numR_at h1
    split at h
    · cases h1 : textR s (gX s a 1) with
      | error e => rw [h1] at h; cases h
      | ok y => rw [h1] at h; cases h; exact textR_at h1
    split at h
    · cases h
    · cases h
  | succ m ih =>
    intro a x h
    rw [valR_eq] at h
    split at h; · cases h
    split at h
    · cases h1 : numR s (gX s a 1) with
      | error e => rw [h1] at h; cases h
      | ok y => rw [h1] at h; cases h; exact numR_at h1
    split at h
    · cases h1 : textR s (gX s a 1) with
      | error e => rw [h1] at h; cases h
      | ok y => rw [h1] at h; cases h; exact textR_at h1
    split at h
    · simp only [listR] at h
      split at h; · cases h
      split at h; · cases h
      cases h1 : rowR (valR s m) (gN s (gX s a 1) 2).toNat (gX s (gX s a 1) 2) with
      | error e => rw [h1] at h; cases h
      | ok y => rw [h1] at h; cases h; exact rowR_at (fun a x h => ih h) (gX_range _ _ _) h1
    · cases h

end Go.Proofs.Ytdmbpejoekeenaa.M
