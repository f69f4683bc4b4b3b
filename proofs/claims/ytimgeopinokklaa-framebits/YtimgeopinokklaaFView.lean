/-
  From the reading of a slice of texts to its cells: what a parameter of type []string holds, and where it lies. Nothing is asked but the reading.
-/
import Derived.Test.YtimgeopinokklaaRows
import Derived.Test.YtimgeopinokklaaFAlls
import Derived.WalkKit
import Derived.ProofKit
import Derived.OpenShut
import Derived.ShutString
import Derived.SliceStrings
namespace Go.Proofs.Ytimgeopinokklaa.Wv
open Go.ChangeShapes Go.WideShapes Go.ChangeAt Go.RowKit

theorem own : ownKnob Try.prog.godebug = none := by kernel_rfl
theorem laidOut : laidOutB Try.prog = true := by kernel_rfl
theorem cellsS : Try.prog.cellsOf 9 = 1 := by kernel_rfl

theorem add_none (b off i : Nat) : (⟨b, off, none⟩ : Addr).add i = ⟨b, off + i, none⟩ := by
  unfold Addr.add
  split
  · rename_i h; rw [h, Nat.add_zero]
  · simp

/-- A slice of texts that is read: its texts, and where they lie. -/
theorem view_strs {H : Type} {enc : TypeId × Value → H} {W : World} {a : Option Addr} {len cap : Nat} {d : DataW H} {p : List MemPlace}
    (h : DataW.Trod enc Try.prog W 0 (fun _ => true) true 36 (.slice a len cap) d p) :
    ∃ y : Nat → ByteArray, (∀ i, (y i).size ≤ maxLen) ∧ len ≤ cap ∧ len ≤ 9223372036854775807 ∧
      (len ≤ 0 ∨ ∃ b off, a = some ⟨b, off, none⟩ ∧ b < W.heap.size ∧ ∀ i, i < len → W.cell? ⟨b, off + i, none⟩ = some (.string (y i))) := by
  obtain ⟨fuel, hf⟩ := h
  rcases open_strings Try.underlying36 Try.underlying9 cellsS hf with ⟨hcs, _⟩ | ⟨ad, l, c, ss, hcs, _, hl, hm, hz, _, hcell, hws⟩
  · simp [Value.cells] at hcs
    obtain ⟨rfl, rfl, rfl⟩ := hcs
    exact ⟨fun _ => ByteArray.empty, fun _ => (show ByteArray.empty.size ≤ maxLen by decide), by omega, by omega, .inl (by omega)⟩
  · simp [Value.cells] at hcs
    obtain ⟨rfl, rfl, rfl⟩ := hcs
    have hz' : ss.length = cap := by simpa using hz
    refine ⟨fun i => ss.getD i ByteArray.empty, fun i => ?_, hl, ?_, ?_⟩
    · by_cases c : i < ss.length
      · have e : ss.getD i ByteArray.empty = ss[i] := by simp [List.getD, c]
        show (ss.getD i ByteArray.empty).size ≤ maxLen
        rw [e]
        exact hws _ (List.getElem_mem c)
      · have e : ss.getD i ByteArray.empty = ByteArray.empty := by simp [List.getD, c]
        show (ss.getD i ByteArray.empty).size ≤ maxLen
        rw [e]
        decide
    · unfold maxLen at hm; omega
    · by_cases c0 : len = 0
      · exact .inl (by omega)
      · obtain ⟨b, off, spot⟩ := ad
        have hc := hcell 0 (by omega)
        have hs : spot = none := by simpa [Addr.add] using World.cell?_spot hc
        subst hs
        refine .inr ⟨b, off, rfl, ?_, fun i hi => ?_⟩
        · rw [add_none] at hc
          exact World.block_lt_of_cell? W _ hc
        · have := hcell i (by omega)
          rwa [add_none] at this

theorem least (m l : Nat) : ∃ n : Nat, (if (m : Int) < (l : Int) then (m : Int) else (l : Int)) = (n : Int) ∧ n ≤ m ∧ n ≤ l := by
  by_cases c : (m : Int) < (l : Int)
  · exact ⟨m, by rw [if_pos c], by omega, by omega⟩
  · exact ⟨l, by rw [if_neg c], by omega, by omega⟩

end Go.Proofs.Ytimgeopinokklaa.Wv
