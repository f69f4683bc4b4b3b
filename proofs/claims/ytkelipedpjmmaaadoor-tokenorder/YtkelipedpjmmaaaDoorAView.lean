/-
  From the reading of an array of words, or of bytes, that is a value to its numbers. Nothing is asked but the reading.
-/
import Derived.Test.YtkelipedpjmmaaaDoorRows
import Derived.Test.YtkelipedpjmmaaaDoorQa
import Derived.WalkKit
import Derived.ProofKit
import Derived.OpenShut
namespace Go.Proofs.YtkelipedpjmmaaaDoor.Wv
open Go.ChangeShapes Go.WideShapes Go.ChangeAt Go.RowKit Go.Proofs.YtkelipedpjmmaaaDoor.M

theorem own : ownKnob Tryd.prog.godebug = none := by kernel_rfl
theorem laidOut : laidOutB Tryd.prog = true := by kernel_rfl
theorem cells32 : Tryd.prog.cellsOf 73 = 1 := by kernel_rfl
theorem cells8 : Tryd.prog.cellsOf 5 = 1 := by kernel_rfl

/-- The number in a cell. -/
def natOf : Option Value → Nat
  | some (.int _ z) => z.toNat
  | _ => 0
def numsOf (cs : Array Value) (n : Nat) : List Nat := (List.range n).map fun i => natOf cs[i]?

theorem view_arr {H : Type} {enc : TypeId × Value → H} {W : World} {t e n : Nat} {k : IntKind} {cs : Array Value} {d : DataW H} {p : List MemPlace}
    (hu : Tryd.prog.underlying t = some (.array n e)) (he : Tryd.prog.underlying e = some (.int k)) (hce : Tryd.prog.cellsOf e = 1) (hct : Tryd.prog.cellsOf t = n)
    (h : DataW.Trod enc Tryd.prog W 0 (fun _ => true) true t (.agg cs) d p) :
    cs.size = n ∧ ∀ i, i < n → ∃ z, cs[i]? = some (.int k z) ∧ (Lit.int k z).wf = true := by
  obtain ⟨fuel, hf⟩ := h
  obtain ⟨xs, m, _, _, hl, hxl, hall⟩ := DataW.trod_array hu hf
  have hl' : cs.size = n := by
    rw [hct] at hl
    simpa [Value.cells] using hl
  refine ⟨hl', fun i hi => ?_⟩
  have h1 := hall i hi
  obtain ⟨b, hb⟩ : ∃ b, xs[i]? = some b := ⟨xs[i]'(by omega), List.getElem?_eq_getElem (by omega)⟩
  rw [hb, hce] at h1
  obtain ⟨z, hcz, _, hw⟩ := DataW.trod_int he h1
  refine ⟨z, ?_, hw⟩
  have := congrArg (·[0]?) hcz
  simpa [Value.cells, List.getElem?_take, List.getElem?_drop] using this

theorem nums32 {cs : Array Value} {n : Nat} (hs : cs.size = n) (h : ∀ i, i < n → ∃ z, cs[i]? = some (.int .u32 z) ∧ (Lit.int .u32 z).wf = true) :
    ∃ l : List Nat, cs = c32 l ∧ l.length = n ∧ W32 l := by
  refine ⟨numsOf cs n, ?_, by simp [numsOf], ?_⟩
  · apply Array.ext_getElem?
    intro i
    by_cases hi : i < n
    · obtain ⟨z, hz, hw⟩ := h i hi
      have hb := bounds_u32 hw
      rw [c32_get _ i (by simpa [numsOf] using hi), hz]
      have e : (numsOf cs n).getD i 0 = z.toNat := by simp [numsOf, List.getD, hi, hz, natOf]
      rw [e, Int.toNat_of_nonneg hb.1]
    · rw [Array.getElem?_eq_none (by omega), Array.getElem?_eq_none (by rw [c32_size]; simp [numsOf]; omega)]
  · intro i
    by_cases hi : i < n
    · obtain ⟨z, hz, hw⟩ := h i hi
      have hb := bounds_u32 hw
      have e : (numsOf cs n).getD i 0 = z.toNat := by simp [numsOf, List.getD, hi, hz, natOf]
      rw [e]
      omega
    · have e : (numsOf cs n).getD i 0 = 0 := by simp [numsOf, List.getD, hi]
      rw [e]
      decide

theorem nums8 {cs : Array Value} {n : Nat} (hs : cs.size = n) (h : ∀ i, i < n → ∃ z, cs[i]? = some (.int .u8 z) ∧ (Lit.int .u8 z).wf = true) :
    ∃ l : List Nat, cs = c8 l ∧ l.length = n ∧ ∀ i, l.getD i 0 < 256 := by
  refine ⟨numsOf cs n, ?_, by simp [numsOf], ?_⟩
  · apply Array.ext_getElem?
    intro i
    by_cases hi : i < n
    · obtain ⟨z, hz, hw⟩ := h i hi
      have hb := bounds_u8 hw
      rw [c8_get _ i (by simpa [numsOf] using hi), hz]
      have e : (numsOf cs n).getD i 0 = z.toNat := by simp [numsOf, List.getD, hi, hz, natOf]
      rw [e, Int.toNat_of_nonneg hb.1]
    · rw [Array.getElem?_eq_none (by omega), Array.getElem?_eq_none (by rw [c8_size]; simp [numsOf]; omega)]
  · intro i
    by_cases hi : i < n
    · obtain ⟨z, hz, hw⟩ := h i hi
      have hb := bounds_u8 hw
      have e : (numsOf cs n).getD i 0 = z.toNat := by simp [numsOf, List.getD, hi, hz, natOf]
      rw [e]
      omega
    · have e : (numsOf cs n).getD i 0 = 0 := by simp [numsOf, List.getD, hi]
      rw [e]
      decide

end Go.Proofs.YtkelipedpjmmaaaDoor.Wv
