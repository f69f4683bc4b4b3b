/-
  Texts that lie in memory ('Lies'), and from the reading of a cell, of a slice of texts, of a slice of numbers and of two numbers to what they hold and where they lie. No Go text is in sight.
-/
import Derived.Test.YtaojoecmbgmhoaaRows
import Derived.Test.YtaojoecmbgmhoaaPa
import Derived.WalkKit
import Derived.ProofKit
import Derived.OpenShut
import Derived.ShutString
import Derived.SliceStrings
import Derived.Deep.Slices
import Derived.SizedLaws
namespace Go.Proofs.Ytaojoecmbgmhoaa.War
open Go.ChangeShapes Go.WideShapes Go.ChangeAt Go.RowKit Go.Proofs.Ytaojoecmbgmhoaa.M

/-- The texts of a slice lie in memory. -/
def Lies (w : World) (a : Option Addr) (n : Nat) (f : Nat → ByteArray) : Prop :=
  n ≤ 0 ∨ ∃ b off, a = some ⟨b, off, none⟩ ∧ b < w.heap.size ∧ ∀ i, i < n → w.cell? ⟨b, off + i, none⟩ = some (.string (f i))
theorem Lies.below {w w' : World} {a : Option Addr} {n : Nat} {f : Nat → ByteArray} (h : Lies w a n f) (b : Below w.heap.size w w') : Lies w' a n f := by
  rcases h with h | ⟨g, off, h1, h2, h3⟩
  · exact .inl h
  · refine .inr ⟨g, off, h1, Nat.lt_of_lt_of_le h2 b.size, fun i hi => ?_⟩
    rw [← h3 i hi]
    exact b.cell (by exact h2)
theorem Lies.take {w : World} {a : Option Addr} {n m : Nat} {f : Nat → ByteArray} (h : Lies w a n f) (hm : m ≤ n) : Lies w a m f := by
  rcases h with h | ⟨g, off, h1, h2, h3⟩
  · exact .inl (by omega)
  · exact .inr ⟨g, off, h1, h2, fun i hi => h3 i (by omega)⟩
theorem Lies.drew {w : World} {a : Option Addr} {n : Nat} {f : Nat → ByteArray} (h : Lies w a n f) : Lies w.drew a n f := h
theorem own_lies {w : World} {base e k : Nat} {v : Value} {xs : List Value} {f : Nat → ByteArray} (h : w.ownsRow base e 1 v k xs) (hx : ∀ j, j < k → xs[j]? = some (.string (f j))) :
    ∃ a cap, v = .slice a k cap ∧ k ≤ cap ∧ cap ≤ maxLen ∧ Lies w a k f := by
  rcases h.2 with ⟨rfl, rfl⟩ | ⟨g, cap, cur, rfl, hb, hg, hc, hm, hs, ht⟩
  · exact ⟨none, 0, rfl, Nat.le_refl _, by unfold maxLen; omega, .inl (Nat.le_refl _)⟩
  · refine ⟨_, cap, rfl, hc, hm, .inr ⟨g, 0, rfl, (Array.getElem?_eq_some_iff.1 hg).1, fun i hi => ?_⟩⟩
    rw [← hx i hi, Nat.zero_add]
    exact h.cellAt i (by omega)
theorem own_below {w w' : World} {base e size n : Nat} {v : Value} {xs : List Value} (h : w.ownsRow base e size v n xs) (b : Below w.heap.size w w') : w'.ownsRow base e size v n xs :=
  h.kept (row := none) ⟨b.os, b.tape, b.output, b.size, fun k hk _ => b.block k hk⟩ (by cases v.ownBlock <;> simp)

def I64 (n : Int) : Prop := -9223372036854775808 ≤ n ∧ n < 9223372036854775808

theorem cI : Try.prog.cellsOf 3 = 1 := by kernel_rfl
theorem cL : Try.prog.cellsOf 2 = 1 := by kernel_rfl
theorem cS : Try.prog.cellsOf 9 = 1 := by kernel_rfl


theorem list3 {α : Type} {l : List α} (h : l.length = 3) : ∃ a b c, l = [a, b, c] := by
  match l, h with
  | [a, b, c], _ => exact ⟨a, b, c, rfl⟩

theorem add_none (b off i : Nat) : (⟨b, off, none⟩ : Addr).add i = ⟨b, off + i, none⟩ := by
  unfold Addr.add
  split
  · rename_i h; rw [h, Nat.add_zero]
  · simp

/-- A slice of texts that is read: its texts, and where they lie. -/
theorem view_strs {H : Type} {enc : TypeId × Value → H} {W : World} {a : Option Addr} {len cap : Nat} {d : DataW H} {p : List MemPlace}
    (h : DataW.Trod enc Try.prog W 0 (fun _ => true) true 29 (.slice a len cap) d p) :
    ∃ y : Nat → ByteArray, (∀ i, (y i).size ≤ maxLen) ∧ len ≤ cap ∧ cap ≤ maxLen ∧ Lies W a len y := by
  obtain ⟨fuel, hf⟩ := h
  rcases open_strings Try.underlying29 Try.underlying9 cS hf with ⟨hcs, _⟩ | ⟨ad, l, c, ss, hcs, _, hl, hm, hz, _, hcell, hws⟩
  · simp [Value.cells] at hcs
    obtain ⟨rfl, rfl, rfl⟩ := hcs
    exact ⟨fun _ => ByteArray.empty, fun _ => (show ByteArray.empty.size ≤ maxLen by decide), by omega, by unfold maxLen; omega, .inl (by omega)⟩
  · simp [Value.cells] at hcs
    obtain ⟨rfl, rfl, rfl⟩ := hcs
    have hz' : ss.length = cap := by simpa using hz
    refine ⟨fun i => ss.getD i ByteArray.empty, fun i => ?_, hl, hm, ?_⟩
    · by_cases c : i < ss.length
      · have e : ss.getD i ByteArray.empty = ss[i] := by simp [List.getD, c]
        show (ss.getD i ByteArray.empty).size ≤ maxLen
        rw [e]
        exact hws _ (List.getElem_mem c)
      · have e : ss.getD i ByteArray.empty = ByteArray.empty := by simp [List.getD, c]
        show (ss.getD i ByteArray.empty).size ≤ maxLen
        rw [e]
        decide
    · by_cases c0 : len = 0
      · exact .inl (by omega)
      · obtain ⟨b, off, spot⟩ := ad
        have hc := hcell 0 (by omega)
        have hs : spot = none := by simpa [Addr.add] using World.cell?_spot hc
        subst hs
        refine .inr ⟨b, off, rfl, ?_, fun i hi => ?_⟩
        · rw [add_none] at hc
          exact World.block_lt_of_cell? W _ hc
        · have := hcell i (by omega)
          rwa [add_none] at this

/-- Numbers that lie in memory. -/
def Nums (W : World) (a : Option Addr) (n : Nat) (z : Nat → Int) : Prop :=
  n ≤ 0 ∨ ∃ b off, a = some ⟨b, off, none⟩ ∧ b < W.heap.size ∧ ∀ i, i < n → W.cell? ⟨b, off + i, none⟩ = some (.int .i64 (z i))

theorem view_ints {H : Type} {enc : TypeId × Value → H} {W : World} {a : Option Addr} {len cap : Nat} {d : DataW H} {p : List MemPlace}
    (h : DataW.Trod enc Try.prog W 0 (fun _ => true) true 45 (.slice a len cap) d p) :
    ∃ z : Nat → Int, (∀ i, I64 (z i)) ∧ len ≤ cap ∧ cap ≤ maxLen ∧ Nums W a len z := by
  obtain ⟨fuel, hf⟩ := h
  rcases open_ints Try.underlying45 Try.underlying3 cI hf with ⟨hcs, _⟩ | ⟨ad, l, c, zs, hcs, _, hl, hm, hz, hx, hcell, hwz⟩
  · simp [Value.cells] at hcs
    obtain ⟨rfl, rfl, rfl⟩ := hcs
    exact ⟨fun _ => 0, fun _ => (show I64 0 from ⟨by decide, by decide⟩), Nat.le_refl _, by unfold maxLen; omega, .inl (Nat.le_refl _)⟩
  · simp [Value.cells] at hcs
    obtain ⟨rfl, rfl, rfl⟩ := hcs
    simp only [if_true] at hz
    refine ⟨fun i => zs.getD i 0, fun i => ?_, hl, hm, ?_⟩
    · show I64 (zs.getD i 0)
      rw [List.getD_eq_getElem?_getD]
      cases he : zs[i]? with
      | none => exact ⟨by decide, by decide⟩
      | some v => exact wf_i64 (hwz v (List.mem_of_getElem? he))
    · by_cases c0 : len = 0
      · exact .inl (by omega)
      · obtain ⟨b, off, spot⟩ := ad
        have hc := hcell 0 (by omega)
        have hs : spot = none := by simpa [Addr.add] using World.cell?_spot hc
        subst hs
        refine .inr ⟨b, off, rfl, ?_, fun i hi => ?_⟩
        · rw [add_none] at hc
          exact World.block_lt_of_cell? W _ hc
        · have h1 := hcell i (by omega)
          rw [add_none] at h1
          exact h1

end Go.Proofs.Ytaojoecmbgmhoaa.War
