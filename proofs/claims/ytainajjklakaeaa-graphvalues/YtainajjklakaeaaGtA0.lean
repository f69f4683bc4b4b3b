/-
  Plain facts on names: 'nmC' (a letter a to z, or a digit), 'nmd' (a name). Nothing is asked but what each fact names.
-/
import Derived.Test.YtainajjklakaeaaRows
import Derived.Lib.Bytealg
import Derived.Lib.Small
namespace Go.Proofs.Ytainajjklakaeaa.M

/-- A letter a to z, or a digit. -/
def nmC (c : UInt8) : Bool := decide ((97 ≤ c.toNat ∧ c.toNat ≤ 122) ∨ (48 ≤ c.toNat ∧ c.toNat ≤ 57))
/-- Is it a name? -/
def nmd (s : ByteArray) : Bool := decide (1 ≤ s.size ∧ s.size ≤ 16 ∧ ∀ i (h : i < s.size), nmC s[i] = true)
theorem nmd_iff {s : ByteArray} : nmd s = true ↔ 1 ≤ s.size ∧ s.size ≤ 16 ∧ ∀ i (h : i < s.size), nmC s[i] = true := by
  unfold nmd
  exact decide_eq_true_iff
theorem nmd_size {s : ByteArray} (h : s.size < 1 ∨ 16 < s.size) : nmd s = false := by
  unfold nmd
  exact decide_eq_false fun e => by omega
theorem nmd_bad {s : ByteArray} {i : Nat} (h : i < s.size) (hc : nmC s[i] = false) : nmd s = false := by
  unfold nmd
  refine decide_eq_false fun e => ?_
  rw [e.2.2 i h] at hc
  cases hc
theorem nmC_lit {c : UInt8} (h : nmC c = true) : c.toNat < 128 := by
  have := of_decide_eq_true h
  omega

theorem toList_data (s : ByteArray) : s.toList = s.data.toList := ByteArray.toList_eq s
theorem data_inj {a b : ByteArray} (h : a.data.toList = b.data.toList) : a = b := by
  obtain ⟨⟨x⟩⟩ := a
  obtain ⟨⟨y⟩⟩ := b
  simp only at h
  rw [h]

end Go.Proofs.Ytainajjklakaeaa.M
