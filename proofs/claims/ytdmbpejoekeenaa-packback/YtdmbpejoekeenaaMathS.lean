/-
  Plain facts on what is read: when the first byte of a number is nought; that an error is never 0. No Go text is in sight.
-/
import Derived.Test.YtdmbpejoekeenaaMathR
namespace Go.Proofs.Ytdmbpejoekeenaa.M

theorem num_head (s : ByteArray) (a : Nat) : ∀ k, num s a (k + 1) = bt s a * 256 ^ k + num s (a + 1) k
  | 0 => by simp [num]
  | k + 1 => by
    have h := num_head s a k
    have e : num s a (k + 1 + 1) = num s a (k + 1) * 256 + bt s (a + (k + 1)) := rfl
    have e2 : num s (a + 1) (k + 1) = num s (a + 1) k * 256 + bt s (a + 1 + k) := rfl
    rw [e, h, e2, Int.pow_succ, Int.add_mul, Int.mul_assoc]
    have e3 : a + (k + 1) = a + 1 + k := by omega
    rw [e3]
    omega
/-- A nought ahead: fewer bytes would do. -/
theorem head_zero (s : ByteArray) (a k : Nat) (hk : k ≤ 7) : bt s a = 0 ↔ wid (num s a (k + 1)) ≠ k + 1 := by
  have hr := num_range s a (k + 1)
  have h8 := num_8 s a (k := k + 1) (by omega)
  have ht := num_range s (a + 1) k
  have hb := bt_range s a
  have hp : ((256 : Int) ^ k) = ((256 ^ k : Nat) : Int) := by rw [Int.natCast_pow]; rfl
  have hp1 : ((256 : Int) ^ (k + 1)) = ((256 ^ (k + 1) : Nat) : Int) := by rw [Int.natCast_pow]; rfl
  have hle : wid (num s a (k + 1)) ≤ k + 1 := wid_le (by omega) (by rw [hp1] at hr; omega)
  rw [num_head] at *
  constructor
  · intro h
    rw [h, Int.zero_mul, Int.zero_add]
    have : wid (num s (a + 1) k) ≤ k := wid_le (by omega) (by rw [hp] at ht; omega)
    omega
  · intro h
    rcases Int.lt_or_le 0 (bt s a) with h1 | h1
    · exfalso
      apply h
      have h2 : (256 : Int) ^ k ≤ bt s a * 256 ^ k := by
        have h3 : (1 : Int) * 256 ^ k ≤ bt s a * 256 ^ k := Int.mul_le_mul_of_nonneg_right h1 (by omega)
        omega
      have := wid_gt (k := k) (m := bt s a * 256 ^ k + num s (a + 1) k) (by rw [hp] at h2 ⊢; omega) h8.2
      omega
    · omega

theorem rowR_code {v : Int → Except Int (V × Int)} (hv : ∀ a e, v a = .error e → e ≠ 0) : ∀ {c : Nat} {a : Int} {e : Int}, rowR v c a = .error e → e ≠ 0
  | 0, a, e, h => by simp only [rowR] at h; cases h
  | c + 1, a, e, h => by
    simp only [rowR] at h
    cases h1 : v a with
    | error e => rw [h1] at h; cases h; exact hv _ _ h1
    | ok y =>
      rw [h1] at h
      simp only at h
      cases h2 : rowR v c y.2 with
      | error e => rw [h2] at h; cases h; exact rowR_code hv h2
      | ok z => rw [h2] at h; cases h
theorem numR_code {s : ByteArray} {a c : Int} (h : numR s a = .error c) : c ≠ 0 := by
  unfold numR at h
  split at h; · cases h; assumption
  split at h; · cases h; decide
  split at h; · cases h
  split at h; · cases h; assumption
  split at h; · cases h; decide
  cases h
theorem textR_code {s : ByteArray} {a c : Int} (h : textR s a = .error c) : c ≠ 0 := by
  unfold textR at h
  split at h; · cases h; assumption
  split at h; · cases h; decide
  cases h
theorem valR_code {s : ByteArray} : ∀ {m : Nat} {a c : Int}, valR s m a = .error c → c ≠ 0 := by
  intro m
  induction m with
  | zero =>
    intro a c h
    rw [valR_eq] at h
    split at h; · cases h; assumption
    split at h
    · cases h1 : numR s (gX s a 1) with
      | error e => rw [h1] at h; cases h; exact numR_code h1
      | ok y => rw [h1] at h; cases h
    split at h
    · cases h1 : textR s (gX s a 1) with
      | error e => rw [h1] at h; cases h; exact textR_code h1
      | ok y => rw [h1] at h; cases h
    split at h
    · cases h; decide
    · cases h; decide
  | succ m ih =>
    intro a c h
    rw [valR_eq] at h
    split at h; · cases h; assumption
    split at h
    · cases h1 : numR s (gX s a 1) with
      | error e => rw [h1] at h; cases h; exact numR_code h1
      | ok y => rw [h1] at h; cases h
    split at h
    · cases h1 : textR s (gX s a 1) with
      | error e => rw [h1] at h; cases h; exact textR_code h1
      | ok y => rw [h1] at h; cases h
    split at h
    · simp only [listR] at h
      split at h; · cases h; assumption
      split at h; · cases h; decide
      cases h1 : rowR (valR s m) (gN s (gX s a 1) 2).toNat (gX s (gX s a 1) 2) with
      | error e => rw [h1] at h; cases h; exact rowR_code (fun a e he => ih he) h1
      | ok y => rw [h1] at h; cases h
    · cases h; decide

end Go.Proofs.Ytdmbpejoekeenaa.M
