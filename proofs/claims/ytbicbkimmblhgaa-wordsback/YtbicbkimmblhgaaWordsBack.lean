/-
  For every slice of numbers and every slice of texts the law WordsBack returns true: numbers of any widths and texts, put one behind the other, are read back one behind the other. Conditions: none.
-/
import Derived.Test.YtbicbkimmblhgaaRows
import Derived.Test.YtbicbkimmblhgaaBack
import Derived.WalkKit
import Derived.ProofKit
import Derived.OpenShut
import Derived.ShutString
import Derived.SliceStrings
namespace Go.Proofs.Ytbicbkimmblhgaa
namespace wordsBack
open Go.ChangeShapes Go.WideShapes Go.ChangeAt Go.RowKit

theorem own : ownKnob Try.prog.godebug = none := by kernel_rfl
theorem laidOut : laidOutB Try.prog = true := by kernel_rfl
theorem cellsN : Try.prog.cellsOf 22 = 1 := by kernel_rfl
theorem cellsS : Try.prog.cellsOf 9 = 1 := by kernel_rfl

theorem add_none (b off i : Nat) : (⟨b, off, none⟩ : Addr).add i = ⟨b, off + i, none⟩ := by
  unfold Addr.add
  split
  · rename_i h; rw [h, Nat.add_zero]
  · simp

/-- A slice of numbers that is read: its numbers, and where they lie. -/
theorem view_ints {H : Type} {enc : TypeId × Value → H} {W : World} {a : Option Addr} {len cap : Nat} {d : DataW H} {p : List MemPlace}
    (h : DataW.Trod enc Try.prog W 0 (fun _ => true) true 50 (.slice a len cap) d p) :
    ∃ x : Nat → Int, (∀ i, 0 ≤ x i) ∧ (∀ i, x i < 18446744073709551616) ∧ len ≤ cap ∧ len ≤ 9223372036854775807 ∧
      (len ≤ 0 ∨ ∃ b off, a = some ⟨b, off, none⟩ ∧ b < W.heap.size ∧ ∀ i, i < len → W.cell? ⟨b, off + i, none⟩ = some (.int .u64 (x i))) := by
  obtain ⟨fuel, hf⟩ := h
  rcases open_ints Try.underlying50 Try.underlying22 cellsN hf with ⟨hcs, _⟩ | ⟨ad, l, c, zs, hcs, _, hl, hm, hz, _, hcell, hwz⟩
  · simp [Value.cells] at hcs
    obtain ⟨rfl, rfl, rfl⟩ := hcs
    exact ⟨fun _ => 0, fun _ => by simp, fun _ => by simp, by omega, by omega, .inl (by omega)⟩
  · simp [Value.cells] at hcs
    obtain ⟨rfl, rfl, rfl⟩ := hcs
    have hz' : zs.length = cap := by simpa using hz
    have hr := range_u64 hwz
    refine ⟨fun i => zs.getD i 0, fun i => ?_, fun i => ?_, hl, ?_, ?_⟩
    · have := (hr i).1; simpa using this
    · have := (hr i).2; simp at this ⊢; omega
    · unfold maxLen at hm; omega
    · by_cases c0 : len = 0
      · exact .inl (by omega)
      · obtain ⟨b, off, spot⟩ := ad
        have hc := hcell 0 (by omega)
        have hs : spot = none := by simpa [Addr.add] using World.cell?_spot hc
        subst hs
        refine .inr ⟨b, off, rfl, ?_, fun i hi => ?_⟩
        · rw [add_none] at hc
          exact World.block_lt_of_cell? W _ hc
        · have := hcell i (by omega)
          rwa [add_none] at this

/-- A slice of texts that is read: its texts, and where they lie. -/
theorem view_strs {H : Type} {enc : TypeId × Value → H} {W : World} {a : Option Addr} {len cap : Nat} {d : DataW H} {p : List MemPlace}
    (h : DataW.Trod enc Try.prog W 0 (fun _ => true) true 51 (.slice a len cap) d p) :
    ∃ y : Nat → ByteArray, (∀ i, (y i).size ≤ maxLen) ∧ len ≤ cap ∧ len ≤ 9223372036854775807 ∧
      (len ≤ 0 ∨ ∃ b off, a = some ⟨b, off, none⟩ ∧ b < W.heap.size ∧ ∀ i, i < len → W.cell? ⟨b, off + i, none⟩ = some (.string (y i))) := by
  obtain ⟨fuel, hf⟩ := h
  rcases open_strings Try.underlying51 Try.underlying9 cellsS hf with ⟨hcs, _⟩ | ⟨ad, l, c, ss, hcs, _, hl, hm, hz, _, hcell, hws⟩
  · simp [Value.cells] at hcs
    obtain ⟨rfl, rfl, rfl⟩ := hcs
    exact ⟨fun _ => ByteArray.empty, fun _ => (show ByteArray.empty.size ≤ maxLen by decide), by omega, by omega, .inl (by omega)⟩
  · simp [Value.cells] at hcs
    obtain ⟨rfl, rfl, rfl⟩ := hcs
    have hz' : ss.length = cap := by simpa using hz
    refine ⟨fun i => ss.getD i ByteArray.empty, fun i => ?_, hl, ?_, ?_⟩
    · by_cases c : i < ss.length
      · have e : ss.getD i ByteArray.empty = ss[i] := by simp [List.getD, c]
        show (ss.getD i ByteArray.empty).size ≤ maxLen
        rw [e]
        exact hws _ (List.getElem_mem c)
      · have e : ss.getD i ByteArray.empty = ByteArray.empty := by simp [List.getD, c]
        show (ss.getD i ByteArray.empty).size ≤ maxLen
        rw [e]
        decide
    · unfold maxLen at hm; omega
    · by_cases c0 : len = 0
      · exact .inl (by omega)
      · obtain ⟨b, off, spot⟩ := ad
        have hc := hcell 0 (by omega)
        have hs : spot = none := by simpa [Addr.add] using World.cell?_spot hc
        subst hs
        refine .inr ⟨b, off, rfl, ?_, fun i hi => ?_⟩
        · rw [add_none] at hc
          exact World.block_lt_of_cell? W _ hc
        · have := hcell i (by omega)
          rwa [add_none] at this

theorem least (l : Nat) : ∃ n : Nat, (if 30 < (l : Int) then 30 else (l : Int)) = (n : Int) ∧ n ≤ 30 ∧ n ≤ l := by
  by_cases c : 30 < (l : Int)
  · exact ⟨30, by rw [if_pos c]; rfl, by omega, by omega⟩
  · exact ⟨l, by rw [if_neg c], by omega, by omega⟩

set_option maxRecDepth 100000 in
theorem lifted (os : Os) (started : os.Started) (H : Type) (enc : TypeId × Value → H) :
    ReturnsInHanded {} Try.checked os 10 .any (Rows.wordsBackSpec.pre6 enc Try.prog Try.f10 Rows.wordsBackRow.domain false) (Rows.wordsBackSpec.post enc Try.prog Try.f10 false true false false) := by
  refine returnsInHanded_of_change (C := Try.checked) own started (by kernel_rfl) Try.func10
    (ChangeSpec.witness6 (enc := enc) (C := Try.checked) false ⟨#[], #[.slice none 0 0, .slice none 0 0], []⟩ 8 (by kernel_rfl) (by kernel_rfl) (by kernel_rfl) (by kernel_rfl)) ?_
  intro W base args ds gs before hval0 hW hcnd _
  have hval : ∀ (j : Nat) t v, Try.f10.params[j]? = some t → args[j]? = some v → Value.okWide Try.prog W .any base t v := hval0
  have hW' := hW
  obtain ⟨p, q, hA0, hV, rfl, hfz, hnd⟩ := hW
  have hA : DataW.TrodAll enc Try.prog W 0 (fun _ => true) true Try.f10.params.toList args.toList ds p := hA0
  rw [Try.params10] at hA hval
  obtain ⟨v0, vs0, d0, ds0, p0, q0, hargs, rfl, rfl, h0, r0⟩ := trodAll_cons hA
  obtain ⟨v1, vs1, d1, ds1, p1, q1, rfl, rfl, rfl, h1, r1⟩ := trodAll_cons r0
  obtain ⟨rfl, rfl, rfl⟩ := trodAll_nil r1
  obtain rfl : args = #[v0, v1] := by cases args; simp_all
  obtain ⟨rfl, rfl⟩ := trodVars_none hV
  obtain ⟨a0, len0, cap0, rfl⟩ := okWide_slice Try.underlying50 (hval 0 50 v0 rfl rfl)
  obtain ⟨a1, len1, cap1, rfl⟩ := okWide_slice Try.underlying51 (hval 1 51 v1 rfl rfl)
  have lt0 : ∀ x ∈ p0, x.block < W.heap.size := by obtain ⟨m, hm⟩ := h0; exact DataW.trod_lt m _ _ _ hm
  have lt1 : ∀ x ∈ p1, x.block < W.heap.size := by obtain ⟨m, hm⟩ := h1; exact DataW.trod_lt m _ _ _ hm
  obtain ⟨x, hx0, hx1, c0, l0, Hn⟩ := view_ints h0
  obtain ⟨y, hy, c1, l1, Hl⟩ := view_strs h1
  obtain ⟨N, eN, hN, hNl⟩ := least len0
  obtain ⟨M, eM, hM, hMl⟩ := least len1
  clear hA0 hval0
  refine (Wk2.backAt a0 a1 len0 cap0 len1 cap1 N M x y W hx0 hx1 hy c0 c1 l0 l1 eN eM hN hNl hM hMl Hn Hl).mono fun e W' ⟨he, bel⟩ => ?_
  subst he
  exact ⟨_, rfl, _, _, _, [], _, [], hW', trodAll_mk1 (shut_bool Try.underlying4 _), (trodAll_cons_mk (Below.trod laidOut (by kernel_rfl) (of_decide_eq_true (by kernel_rfl)) h0 bel lt0) (trodAll_cons_mk (Below.trod laidOut (by kernel_rfl) (of_decide_eq_true (by kernel_rfl)) h1 bel lt1) trodAll_mk0)), rfl, bel.frame _, fun h => by cases h⟩

theorem over : Rows.wordsBackRow.holds Try.pinned (OpenSpec.ofChange Rows.wordsBackSpec) :=
  OpenClaim.holds_of_wide 10 Try.f10 rfl rfl rfl rfl rfl rfl rfl ⟨rfl, rfl, rfl, rfl, rfl⟩ rfl rfl rfl rfl rfl (by kernel_rfl) Try.func10 (by kernel_rfl)
    (of_decide_eq_true (by kernel_rfl)) (by unfold Func.isWrapper; first | (rw [if_pos (by decide +kernel)]; kernel_rfl) | (rw [if_neg (by decide +kernel)]; exact ⟨rfl, rfl⟩))
    (fun os started H enc _ => lifted os started H enc)

end wordsBack
theorem wordsBack_holds : Rows.WordsBackSaid := wordsBack.over
end Go.Proofs.Ytbicbkimmblhgaa
