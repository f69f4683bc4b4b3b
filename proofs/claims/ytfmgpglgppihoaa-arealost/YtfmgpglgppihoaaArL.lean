/-
  Texts that lie in memory ('Lies'), and from the reading of a cell, of a slice of texts, of a slice of numbers and of two numbers to what they hold and where they lie. No Go text is in sight.
-/
import Derived.Test.YtfmgpglgppihoaaRows
import Derived.Test.YtfmgpglgppihoaaMathAr
import Derived.WalkKit
import Derived.ProofKit
import Derived.OpenShut
import Derived.ShutString
import Derived.SliceStrings
import Derived.Deep.Slices
import Derived.SizedLaws
namespace Go.Proofs.Ytfmgpglgppihoaa.War
open Go.ChangeShapes Go.WideShapes Go.ChangeAt Go.RowKit Go.Proofs.Ytfmgpglgppihoaa.M

/-- The texts of a slice lie in memory. -/
def Lies (w : World) (a : Option Addr) (n : Nat) (f : Nat → ByteArray) : Prop :=
  n ≤ 0 ∨ ∃ b off, a = some ⟨b, off, none⟩ ∧ b < w.heap.size ∧ ∀ i, i < n → w.cell? ⟨b, off + i, none⟩ = some (.string (f i))
theorem Lies.below {w w' : World} {a : Option Addr} {n : Nat} {f : Nat → ByteArray} (h : Lies w a n f) (b : Below w.heap.size w w') : Lies w' a n f := by
  rcases h with h | ⟨g, off, h1, h2, h3⟩
  · exact .inl h
  · refine .inr ⟨g, off, h1, Nat.lt_of_lt_of_le h2 b.size, fun i hi => ?_⟩
    rw [← h3 i hi]
    exact b.cell (by exact h2)
theorem Lies.take {w : World} {a : Option Addr} {n m : Nat} {f : Nat → ByteArray} (h : Lies w a n f) (hm : m ≤ n) : Lies w a m f := by
  rcases h with h | ⟨g, off, h1, h2, h3⟩
  · exact .inl (by omega)
  · exact .inr ⟨g, off, h1, h2, fun i hi => h3 i (by omega)⟩
theorem Lies.drew {w : World} {a : Option Addr} {n : Nat} {f : Nat → ByteArray} (h : Lies w a n f) : Lies w.drew a n f := h
theorem own_lies {w : World} {base e k : Nat} {v : Value} {xs : List Value} {f : Nat → ByteArray} (h : w.ownsRow base e 1 v k xs) (hx : ∀ j, j < k → xs[j]? = some (.string (f j))) :
    ∃ a cap, v = .slice a k cap ∧ k ≤ cap ∧ cap ≤ maxLen ∧ Lies w a k f := by
  rcases h.2 with ⟨rfl, rfl⟩ | ⟨g, cap, cur, rfl, hb, hg, hc, hm, hs, ht⟩
  · exact ⟨none, 0, rfl, Nat.le_refl _, by unfold maxLen; omega, .inl (Nat.le_refl _)⟩
  · refine ⟨_, cap, rfl, hc, hm, .inr ⟨g, 0, rfl, (Array.getElem?_eq_some_iff.1 hg).1, fun i hi => ?_⟩⟩
    rw [← hx i hi, Nat.zero_add]
    exact h.cellAt i (by omega)
theorem own_below {w w' : World} {base e size n : Nat} {v : Value} {xs : List Value} (h : w.ownsRow base e size v n xs) (b : Below w.heap.size w w') : w'.ownsRow base e size v n xs :=
  h.kept (row := none) ⟨b.os, b.tape, b.output, b.size, fun k hk _ => b.block k hk⟩ (by cases v.ownBlock <;> simp)

def I64 (n : Int) : Prop := -9223372036854775808 ≤ n ∧ n < 9223372036854775808

theorem cI : Try.prog.cellsOf 3 = 1 := by kernel_rfl
theorem cL : Try.prog.cellsOf 2 = 1 := by kernel_rfl
theorem cS : Try.prog.cellsOf 9 = 1 := by kernel_rfl
theorem cC : Try.prog.cellsOf 23 = 3 := by kernel_rfl
theorem cA : Try.prog.cellsOf 48 = 2 := by kernel_rfl

theorem list3 {α : Type} {l : List α} (h : l.length = 3) : ∃ a b c, l = [a, b, c] := by
  match l, h with
  | [a, b, c], _ => exact ⟨a, b, c, rfl⟩

theorem add_none (b off i : Nat) : (⟨b, off, none⟩ : Addr).add i = ⟨b, off + i, none⟩ := by
  unfold Addr.add
  split
  · rename_i h; rw [h, Nat.add_zero]
  · simp

/-- A cell that is a value. -/
theorem view_cell {H : Type} {enc : TypeId × Value → H} {W : World} {base : Nat} {v : Value} {d : DataW H} {p : List MemPlace} (ho : Value.okWide Try.prog W .any base 23 v)
    (h : DataW.Trod enc Try.prog W 0 (fun _ => true) true 23 v d p) (hw : ∀ x ∈ d.weights Try.prog 23, x ≤ reachBytes) :
    ∃ (g i : Int) (s : ByteArray), v = .agg #[.int .i64 g, .int .i64 i, .string s] ∧ s.size ≤ 140737488355328 := by
  obtain ⟨cs, rfl, _⟩ := okWide_struct Try.underlying23 ho
  obtain ⟨fuel, hf⟩ := h
  obtain ⟨xs, n', _, hx, hl, hxl, hf⟩ := DataW.trod_struct Try.underlying23 hf
  rw [cC] at hl
  have hl2 : cs.toList.length = 3 := by simpa [Value.cells] using hl
  obtain ⟨v0, v1, v2, he⟩ := list3 hl2
  have he' : cs = #[v0, v1, v2] := by rw [← Array.toArray_toList (xs := cs), he]
  subst he'
  have g0 : DataW.trod enc Try.prog W 0 (fun _ => true) true n' 2 (([v0, v1, v2].drop 0).take (Try.prog.cellsOf 2)) = xs[0]? := hf 0 _ rfl
  have g1 : DataW.trod enc Try.prog W 0 (fun _ => true) true n' 3 (([v0, v1, v2].drop 1).take (Try.prog.cellsOf 3)) = xs[1]? := hf 1 _ rfl
  have g2 : DataW.trod enc Try.prog W 0 (fun _ => true) true n' 9 (([v0, v1, v2].drop 2).take (Try.prog.cellsOf 9)) = xs[2]? := hf 2 _ rfl
  obtain ⟨x0, x1, x2, rfl⟩ := list3 hxl
  simp only [cI, cL, cS, List.drop_zero, List.take_succ_cons, List.take_zero, List.drop_succ_cons, List.getElem?_cons_zero, List.getElem?_cons_succ] at g0 g1 g2
  have hD : d = .agg [x0.1, x1.1, x2.1] := by simp only [Prod.mk.injEq] at hx; exact hx.1
  obtain ⟨y0, e0, _, w0⟩ := DataW.trod_int Try.underlying2 g0
  obtain ⟨y1, e1, _, w1⟩ := DataW.trod_int Try.underlying3 g1
  obtain ⟨s, e2, ex2, _⟩ := DataW.trod_string Try.underlying9 g2
  simp only [List.cons.injEq, and_true] at e0 e1 e2
  subst e0 e1 e2
  refine ⟨y0, y1, s, rfl, ?_⟩
  have := hw s.size (by
    rw [hD]
    simp only [DataW.weights, Try.underlying23, List.map_cons, List.map_nil, DataW.weightsEach, List.mem_append]
    right; right; left
    rw [ex2]
    simp only [DataW.weights, List.mem_singleton]
    exact Array.length_toList.symm)
  unfold reachBytes at this
  omega

/-- Two numbers that are a value. -/
theorem view_two {H : Type} {enc : TypeId × Value → H} {W : World} {base : Nat} {v : Value} {d : DataW H} {p : List MemPlace} (ho : Value.okWide Try.prog W .any base 48 v)
    (h : DataW.Trod enc Try.prog W 0 (fun _ => true) true 48 v d p) : ∃ a b : Int, v = .agg #[.int .i64 a, .int .i64 b] := by
  obtain ⟨cs, rfl, _, _⟩ : ∃ cs, v = .agg cs ∧ cs.size = Try.prog.cellsOf 48 ∧ Row.okWide Try.prog W .any base 48 cs := by
    simpa [Value.okWide, Try.underlying48] using ho
  obtain ⟨fuel, hf⟩ := h
  obtain ⟨xs, m, _, _, hl, hxl, hall⟩ := DataW.trod_array Try.underlying48 hf
  rw [cA] at hl
  have hl' : cs.size = 2 := by simpa [Value.cells] using hl
  have K : ∀ i, i < 2 → ∃ z, cs[i]? = some (.int .i64 z) := fun i hi => by
    have h1 := hall i hi
    obtain ⟨b, hb⟩ : ∃ b, xs[i]? = some b := ⟨xs[i]'(by omega), List.getElem?_eq_getElem (by omega)⟩
    rw [hb, cL] at h1
    obtain ⟨z, hcz, _, hw⟩ := DataW.trod_int Try.underlying2 h1
    refine ⟨z, ?_⟩
    have := congrArg (·[0]?) hcz
    simpa [Value.cells, List.getElem?_take, List.getElem?_drop] using this
  obtain ⟨a, ha⟩ := K 0 (by omega)
  obtain ⟨b, hb⟩ := K 1 (by omega)
  refine ⟨a, b, congrArg Value.agg ?_⟩
  apply Array.ext_getElem?
  intro i
  match i with
  | 0 => rw [ha]; rfl
  | 1 => rw [hb]; rfl
  | i + 2 => rw [Array.getElem?_eq_none (by omega), Array.getElem?_eq_none (by simp)]

/-- A slice of texts that is read: its texts, and where they lie. -/
theorem view_strs {H : Type} {enc : TypeId × Value → H} {W : World} {a : Option Addr} {len cap : Nat} {d : DataW H} {p : List MemPlace}
    (h : DataW.Trod enc Try.prog W 0 (fun _ => true) true 38 (.slice a len cap) d p) :
    ∃ y : Nat → ByteArray, (∀ i, (y i).size ≤ maxLen) ∧ len ≤ cap ∧ cap ≤ maxLen ∧ Lies W a len y := by
  obtain ⟨fuel, hf⟩ := h
  rcases open_strings Try.underlying38 Try.underlying9 cS hf with ⟨hcs, _⟩ | ⟨ad, l, c, ss, hcs, _, hl, hm, hz, _, hcell, hws⟩
  · simp [Value.cells] at hcs
    obtain ⟨rfl, rfl, rfl⟩ := hcs
    exact ⟨fun _ => ByteArray.empty, fun _ => (show ByteArray.empty.size ≤ maxLen by decide), by omega, by unfold maxLen; omega, .inl (by omega)⟩
  · simp [Value.cells] at hcs
    obtain ⟨rfl, rfl, rfl⟩ := hcs
    have hz' : ss.length = cap := by simpa using hz
    refine ⟨fun i => ss.getD i ByteArray.empty, fun i => ?_, hl, hm, ?_⟩
    · by_cases c : i < ss.length
      · have e : ss.getD i ByteArray.empty = ss[i] := by simp [List.getD, c]
        show (ss.getD i ByteArray.empty).size ≤ maxLen
        rw [e]
        exact hws _ (List.getElem_mem c)
      · have e : ss.getD i ByteArray.empty = ByteArray.empty := by simp [List.getD, c]
        show (ss.getD i ByteArray.empty).size ≤ maxLen
        rw [e]
        decide
    · by_cases c0 : len = 0
      · exact .inl (by omega)
      · obtain ⟨b, off, spot⟩ := ad
        have hc := hcell 0 (by omega)
        have hs : spot = none := by simpa [Addr.add] using World.cell?_spot hc
        subst hs
        refine .inr ⟨b, off, rfl, ?_, fun i hi => ?_⟩
        · rw [add_none] at hc
          exact World.block_lt_of_cell? W _ hc
        · have := hcell i (by omega)
          rwa [add_none] at this

/-- Numbers that lie in memory. -/
def Nums (W : World) (a : Option Addr) (n : Nat) (z : Nat → Int) : Prop :=
  n ≤ 0 ∨ ∃ b off, a = some ⟨b, off, none⟩ ∧ b < W.heap.size ∧ ∀ i, i < n → W.cell? ⟨b, off + i, none⟩ = some (.int .i64 (z i))

theorem view_ints {H : Type} {enc : TypeId × Value → H} {W : World} {a : Option Addr} {len cap : Nat} {d : DataW H} {p : List MemPlace}
    (h : DataW.Trod enc Try.prog W 0 (fun _ => true) true 49 (.slice a len cap) d p) :
    ∃ z : Nat → Int, (∀ i, I64 (z i)) ∧ len ≤ cap ∧ cap ≤ maxLen ∧ Nums W a len z := by
  obtain ⟨fuel, hf⟩ := h
  rcases open_ints Try.underlying49 Try.underlying3 cI hf with ⟨hcs, _⟩ | ⟨ad, l, c, zs, hcs, _, hl, hm, hz, hx, hcell, hwz⟩
  · simp [Value.cells] at hcs
    obtain ⟨rfl, rfl, rfl⟩ := hcs
    exact ⟨fun _ => 0, fun _ => (show I64 0 from ⟨by decide, by decide⟩), Nat.le_refl _, by unfold maxLen; omega, .inl (Nat.le_refl _)⟩
  · simp [Value.cells] at hcs
    obtain ⟨rfl, rfl, rfl⟩ := hcs
    simp only [if_true] at hz
    refine ⟨fun i => zs.getD i 0, fun i => ?_, hl, hm, ?_⟩
    · show I64 (zs.getD i 0)
      rw [List.getD_eq_getElem?_getD]
      cases he : zs[i]? with
      | none => exact ⟨by decide, by decide⟩
      | some v => exact wf_i64 (hwz v (List.mem_of_getElem? he))
    · by_cases c0 : len = 0
      · exact .inl (by omega)
      · obtain ⟨b, off, spot⟩ := ad
        have hc := hcell 0 (by omega)
        have hs : spot = none := by simpa [Addr.add] using World.cell?_spot hc
        subst hs
        refine .inr ⟨b, off, rfl, ?_, fun i hi => ?_⟩
        · rw [add_none] at hc
          exact World.block_lt_of_cell? W _ hc
        · have h1 := hcell i (by omega)
          rw [add_none] at h1
          exact h1

end Go.Proofs.Ytfmgpglgppihoaa.War
