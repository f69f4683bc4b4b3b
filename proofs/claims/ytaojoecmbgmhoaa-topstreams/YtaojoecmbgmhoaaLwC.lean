/-
  The walks of the laws' equal and of the law StreamRooms: it returns true, and nothing that was in memory has turned. Conditions: none but that the arguments lie in memory as such do.
-/
import Derived.Test.YtaojoecmbgmhoaaLwB
import Derived.Test.YtaojoecmbgmhoaaWd
import Derived.Deep.QuietTactic
import Derived.BigQuiet
import Derived.WalkSmall
namespace Go.Proofs.Ytaojoecmbgmhoaa.Wst
open Go.ChangeShapes Go.WideShapes Go.ChangeAt Go.RowKit Go.Proofs.Ytaojoecmbgmhoaa.M Go.Proofs.Ytaojoecmbgmhoaa.Wd

theorem max_mod (s : Int) (m : Nat) (hm : 0 < m) : ∃ p : Nat, p < m ∧ (if 0 < s then s else 0).tmod m = (p : Int) ∧ (max 0 s).tmod m = (p : Int) ∧ (max 0 s) % m = (p : Int) ∧ (if 0 < s then s else 0) % m = (p : Int) := by
  have e : (if 0 < s then s else 0) = max 0 s := by split <;> omega
  have h0 : 0 ≤ max 0 s := by omega
  have h1 := Int.emod_nonneg (max 0 s) (show (m : Int) ≠ 0 by omega)
  have h2 := Int.emod_lt_of_pos (max 0 s) (show (0 : Int) < m by omega)
  refine ⟨(max 0 s % m).toNat, by omega, ?_, ?_, by omega, ?_⟩
  · rw [e, Int.tmod_eq_emod_of_nonneg h0]; omega
  · rw [Int.tmod_eq_emod_of_nonneg h0]; omega
  · rw [e]; omega
theorem empty_of {t : ByteArray} (h : t.size = 0) : t.toList.isEmpty = true := by
  rw [ByteArray.toList_eq]
  simp
  have : t.data.size = 0 := h
  exact Array.eq_empty_of_size_eq_zero this
theorem list_ext {L K : List ByteArray} (hl : L.length = K.length) (h : ∀ i, i < L.length → nth L i = nth K i) : L = K := by
  apply List.ext_getElem hl
  intro i h1 h2
  have := h i h1
  rw [nth_get h1, nth_get h2] at this
  exact this

end Go.Proofs.Ytaojoecmbgmhoaa.Wst
