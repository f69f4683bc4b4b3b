/-
  Plain functions that say, step by step, what the document's times, atMost, root and ByRoots come to; and that ByRoots comes to the table of the rounds' numbers. Nothing is asked.
-/
import Derived.WalkKit
import Derived.Test.YtoehnncepboboaaDoorMathQ
namespace Go.Proofs.YtoehnncepboboaaDoor.M

/-- 64 bits. -/
def m64 : Nat := 18446744073709551616
/-- One carry at place j; carries from place j on, at most n of them. -/
def cyS (j : Nat) (o : List Nat) : List Nat := (o.set (j + 1) ((o.getD (j + 1) 0 + o.getD j 0 / 65536) % m64)).set j ((o.set (j + 1) ((o.getD (j + 1) 0 + o.getD j 0 / 65536) % m64)).getD j 0 % 65536)
def cy : Nat → Nat → List Nat → List Nat
  | 0, _, o => o
  | n + 1, j, o => if 65536 ≤ o.getD j 0 then cy n (j + 1) (cyS j o) else o
/-- One product added in; those of a row; all. -/
def tmS (a b : List Nat) (i k : Nat) (o : List Nat) : List Nat := cy (a.length + b.length - 1 - (i + k)) (i + k) (o.set (i + k) ((o.getD (i + k) 0 + a.getD i 0 * b.getD k 0 % m64) % m64))
def tmK (a b : List Nat) (i : Nat) : Nat → Nat → List Nat → List Nat
  | 0, _, o => o
  | n + 1, k, o => tmK a b i n (k + 1) (tmS a b i k o)
def tmI (a b : List Nat) : Nat → Nat → List Nat → List Nat
  | 0, _, o => o
  | n + 1, i, o => tmI a b n (i + 1) (tmK a b i b.length 0 o)
def tm (a b : List Nat) : List Nat := tmI a b a.length 0 (List.replicate (a.length + b.length) 0)
/-- At most, from place i down. -/
def am (a b : List Nat) : Nat → Bool
  | 0 => true
  | i + 1 => if a.getD i 0 = b.getD i 0 then am a b i else decide (a.getD i 0 < b.getD i 0)
/-- The limbs; the goal; the bits from b down. -/
def lmb (x : Nat) : List Nat := [x % 65536, x / 65536 % 65536, x / 4294967296]
def gol (p : Nat) : List Nat := [0, 0, 0, 0, 0, 0, p, 0, 0, 0, 0]
def rtS (p b r : Nat) : Nat := if am (tm (tm (lmb ((r + 2 ^ b) % m64)) (lmb ((r + 2 ^ b) % m64))) (lmb ((r + 2 ^ b) % m64))) (gol p) 16 then (r + 2 ^ b) % m64 else r
def rtB (p : Nat) : Nat → Nat → Nat
  | 0, r => r
  | b + 1, r => rtB p b (rtS p b r)
def rt (p : Nat) : Nat := rtB p 35 0 % 4294967296

/-- Prime? From q on, n more. -/
def prq (p : Nat) : Nat → Nat → Bool → Bool
  | 0, _, c => c
  | n + 1, q, c => prq p n (q + 1) (if p % q = 0 then false else c)
def pr (p : Nat) : Bool := prq p (p - 2) 2 true
/-- How many primes were met, and what was laid, k numbers from 2 on. -/
def stS (f : Nat → Nat) (p : Nat) (s : Nat × List Nat) : Nat × List Nat := if pr p then (s.1 + 1, s.2.set s.1 (f p)) else s
def st (f : Nat → Nat) : Nat → Nat × List Nat
  | 0 => (0, List.replicate 64 0)
  | k + 1 => stS f (2 + k) (st f k)
def prs : List Nat := [2, 3, 5, 7, 11, 13, 17, 19, 23, 29, 31, 37, 41, 43, 47, 53, 59, 61, 67, 71, 73, 79, 83, 89, 97, 101, 103, 107, 109, 113, 127, 131, 137, 139, 149, 151, 157, 163, 167, 173, 179, 181, 191, 193, 197, 199, 211, 223, 227, 229, 233, 239, 241, 251, 257, 263, 269, 271, 277, 281, 283, 293, 307, 311]

theorem stS_le (f : Nat → Nat) (p : Nat) (s : Nat × List Nat) : s.1 ≤ (stS f p s).1 := by
  unfold stS
  split
  · exact Nat.le_succ _
  · exact Nat.le_refl _
theorem st_le (f : Nat → Nat) (k : Nat) : ∀ d, (st f k).1 ≤ (st f (k + d)).1
  | 0 => Nat.le_refl _
  | d + 1 => Nat.le_trans (st_le f k d) (stS_le f _ _)
theorem stS_len (f : Nat → Nat) (p : Nat) (s : Nat × List Nat) : (stS f p s).2.length = s.2.length := by
  unfold stS
  split
  · simp
  · rfl
theorem st_len (f : Nat → Nat) : ∀ k, (st f k).2.length = 64
  | 0 => by simp [st]
  | k + 1 => by
    show (stS f (2 + k) (st f k)).2.length = 64
    rw [stS_len, st_len f k]
theorem st309 (f : Nat → Nat) : (st f 309).1 = 63 := by
  have h : (st (fun p => p) 309).1 = 63 := by decide +kernel
  have e : ∀ k, (st f k).1 = (st (fun p => p) k).1 := fun k => by
    induction k with
    | zero => rfl
    | succ k ih =>
      show (stS f (2 + k) (st f k)).1 = (stS (fun p => p) (2 + k) (st (fun p => p) k)).1
      unfold stS
      split
      · exact congrArg (· + 1) ih
      · exact ih
  rw [e, h]
theorem st_map (f : Nat → Nat) : ∀ k, (st f k).1 = (st (fun p => p) k).1 ∧ (f 0 = 0 → (st f k).2 = (st (fun p => p) k).2.map f)
  | 0 => ⟨rfl, fun h => by simp [st, h]⟩
  | k + 1 => by
    obtain ⟨h1, h2⟩ := st_map f k
    show (stS f (2 + k) (st f k)).1 = (stS (fun p => p) (2 + k) (st (fun p => p) k)).1 ∧ (f 0 = 0 → (stS f (2 + k) (st f k)).2 = (stS (fun p => p) (2 + k) (st (fun p => p) k)).2.map f)
    unfold stS
    split
    · refine ⟨congrArg (· + 1) h1, fun h => ?_⟩
      show (st f k).2.set (st f k).1 (f (2 + k)) = ((st (fun p => p) k).2.set (st (fun p => p) k).1 (2 + k)).map f
      rw [List.map_set, h1, h2 h]
    · exact ⟨h1, h2⟩
theorem st310 : st (fun p => p) 310 = (64, prs) := by decide +kernel

end Go.Proofs.YtoehnncepboboaaDoor.M
