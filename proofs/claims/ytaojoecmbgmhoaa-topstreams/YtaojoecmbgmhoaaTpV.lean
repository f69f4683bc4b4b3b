/-
  What a law's records and losses of power (by region) read as: cells of memory. Nothing is asked but what each fact names.
-/
import Derived.Test.YtaojoecmbgmhoaaRows
import Derived.Test.YtaojoecmbgmhoaaPa
import Derived.WalkKit
import Derived.ProofKit
import Derived.OpenShut
import Derived.SizedLaws
import Derived.Deep.Fields
import Derived.Deep.Light
namespace Go.Proofs.Ytaojoecmbgmhoaa.Wls
open Go.ChangeShapes Go.WideShapes Go.ChangeAt Go.RowKit Go.Proofs.Ytaojoecmbgmhoaa.M

/-- A record: into which stream, and its body. -/
structure Pu where
  s : Bool
  b : ByteArray
def Pu.cells (A : Pu) : List Value := [.bool A.s, .string A.b]
def Pu.ok (A : Pu) : Prop := A.b.size ≤ maxLen
/-- A loss of power: in which region, at which call, and what it keeps. -/
structure Cu where
  a : Int
  n : Int
  k : Int
def Cu.cells (A : Cu) : List Value := [.int .i64 A.a, .int .i64 A.n, .int .u64 A.k]
structure Cu.ok (A : Cu) : Prop where
  a : -9223372036854775808 ≤ A.a ∧ A.a < 9223372036854775808
  n : -9223372036854775808 ≤ A.n ∧ A.n < 9223372036854775808
  k : 0 ≤ A.k ∧ A.k < 18446744073709551616

theorem cI : Try.prog.cellsOf 3 = 1 := by kernel_rfl
theorem cU : Try.prog.cellsOf 32 = 1 := by kernel_rfl
theorem add_none (b off i : Nat) : (⟨b, off, none⟩ : Addr).add i = ⟨b, off + i, none⟩ := by
  unfold Addr.add
  split
  · rename_i h; rw [h, Nat.add_zero]
  · simp
theorem add_0 (a : Addr) : a.add 0 = a := by
  unfold Addr.add
  rfl
theorem list2 {α : Type} {l : List α} (h : l.length = 2) : ∃ a b, l = [a, b] := by
  match l, h with
  | [a, b], _ => exact ⟨a, b, rfl⟩
theorem cells2 {W : World} {b off : Nat} {spot : Option Nat} {v0 v1 : Value} (h : W.cells? 0 ⟨b, off, spot⟩ 2 = some [v0, v1]) : spot = none ∧ ∀ t v, [v0, v1][t]? = some v → W.cell? ⟨b, off + t, none⟩ = some v := by
  have hr : List.range 2 = [0, 1] := rfl
  simp only [World.cells?, Nat.zero_le, if_true, hr] at h
  simp [List.mapM_cons, Option.bind_eq_some_iff] at h
  obtain ⟨h0, h1⟩ := h
  have hs : spot = none := by simpa [Addr.add] using World.cell?_spot h0
  subst hs
  rw [add_none] at h0 h1
  refine ⟨rfl, fun t v hv => ?_⟩
  match t, hv with
  | 0, hv => simp at hv; subst hv; exact h0
  | 1, hv => simp at hv; subst hv; exact h1
  | t + 2, hv => simp at hv

theorem cellsP : Try.prog.cellsOf 40 = 2 := by kernel_rfl
theorem cellsC : Try.prog.cellsOf 34 = 3 := by kernel_rfl
theorem cB : Try.prog.cellsOf 4 = 1 := by kernel_rfl
theorem cS : Try.prog.cellsOf 9 = 1 := by kernel_rfl
theorem list3 {α : Type} {l : List α} (h : l.length = 3) : ∃ a b c, l = [a, b, c] := by
  match l, h with
  | [a, b, c], _ => exact ⟨a, b, c, rfl⟩
theorem cells3 {W : World} {b off : Nat} {spot : Option Nat} {v0 v1 v2 : Value} (h : W.cells? 0 ⟨b, off, spot⟩ 3 = some [v0, v1, v2]) : spot = none ∧ ∀ t v, [v0, v1, v2][t]? = some v → W.cell? ⟨b, off + t, none⟩ = some v := by
  have hr : List.range 3 = [0, 1, 2] := rfl
  simp only [World.cells?, Nat.zero_le, if_true, hr] at h
  simp [List.mapM_cons, Option.bind_eq_some_iff] at h
  obtain ⟨h0, h1, h2⟩ := h
  have hs : spot = none := by simpa [Addr.add] using World.cell?_spot h0
  subst hs
  rw [add_none] at h0 h1 h2
  refine ⟨rfl, fun t v hv => ?_⟩
  match t, hv with
  | 0, hv => simp at hv; subst hv; exact h0
  | 1, hv => simp at hv; subst hv; exact h1
  | 2, hv => simp at hv; subst hv; exact h2
  | t + 3, hv => simp at hv

set_option maxRecDepth 100000 in
theorem view_pu {H : Type} {enc : TypeId × Value → H} {W : World} {n : Nat} {cs : List Value} {D : DataW H} {p : List MemPlace} (h : DataW.trod enc Try.prog W 0 (fun _ => true) true n 40 cs = some (D, p)) : ∃ A : Pu, cs = A.cells ∧ A.ok := by
  obtain ⟨xs, n', _, hx, hl, hxl, hf⟩ := DataW.trod_struct Try.underlying40 h
  rw [cellsP] at hl
  obtain ⟨v0, v1, rfl⟩ := list2 hl
  have g0 : DataW.trod enc Try.prog W 0 (fun _ => true) true n' 4 (([v0, v1].drop 0).take (Try.prog.cellsOf 4)) = xs[0]? := hf 0 _ rfl
  have g1 : DataW.trod enc Try.prog W 0 (fun _ => true) true n' 9 (([v0, v1].drop 1).take (Try.prog.cellsOf 9)) = xs[1]? := hf 1 _ rfl
  obtain ⟨x0, x1, rfl⟩ := list2 hxl
  simp only [cB, cS, List.drop_zero, List.take_succ_cons, List.take_zero, List.drop_succ_cons, List.getElem?_cons_zero, List.getElem?_cons_succ] at g0 g1
  obtain ⟨y0, e0, _⟩ := DataW.trod_bool Try.underlying4 g0
  obtain ⟨y1, e1, _, w1⟩ := DataW.trod_string Try.underlying9 g1
  simp only [List.cons.injEq, and_true] at e0 e1
  subst e0 e1
  exact ⟨⟨y0, y1⟩, rfl, w1⟩

set_option maxRecDepth 100000 in
theorem view_cu {H : Type} {enc : TypeId × Value → H} {W : World} {n : Nat} {cs : List Value} {D : DataW H} {p : List MemPlace} (h : DataW.trod enc Try.prog W 0 (fun _ => true) true n 34 cs = some (D, p)) : ∃ A : Cu, cs = A.cells ∧ A.ok := by
  obtain ⟨xs, n', _, hx, hl, hxl, hf⟩ := DataW.trod_struct Try.underlying34 h
  rw [cellsC] at hl
  obtain ⟨v0, v1, v2, rfl⟩ := list3 hl
  have g0 : DataW.trod enc Try.prog W 0 (fun _ => true) true n' 3 (([v0, v1, v2].drop 0).take (Try.prog.cellsOf 3)) = xs[0]? := hf 0 _ rfl
  have g1 : DataW.trod enc Try.prog W 0 (fun _ => true) true n' 3 (([v0, v1, v2].drop 1).take (Try.prog.cellsOf 3)) = xs[1]? := hf 1 _ rfl
  have g2 : DataW.trod enc Try.prog W 0 (fun _ => true) true n' 32 (([v0, v1, v2].drop 2).take (Try.prog.cellsOf 32)) = xs[2]? := hf 2 _ rfl
  obtain ⟨x0, x1, x2, rfl⟩ := list3 hxl
  simp only [cI, cU, List.drop_zero, List.take_succ_cons, List.take_zero, List.drop_succ_cons, List.getElem?_cons_zero, List.getElem?_cons_succ] at g0 g1 g2
  obtain ⟨y0, e0, _, w0⟩ := DataW.trod_int Try.underlying3 g0
  obtain ⟨y1, e1, _, w1⟩ := DataW.trod_int Try.underlying3 g1
  obtain ⟨y2, e2, _, w2⟩ := DataW.trod_int Try.underlying32 g2
  simp only [List.cons.injEq, and_true] at e0 e1 e2
  subst e0 e1 e2
  exact ⟨⟨y0, y1, y2⟩, rfl, ⟨wf_i64 w0, wf_i64 w1, wf_u64 w2⟩⟩

/-- Records that lie in memory; losses. -/
def Pus (W : World) (a : Option Addr) (len : Nat) (A : Nat → Pu) : Prop :=
  (∀ i, i < len → (A i).ok) ∧ (len = 0 ∨ ∃ b o, a = some ⟨b, o, none⟩ ∧ b < W.heap.size ∧ ∀ i, i < len → ∀ t v, (A i).cells[t]? = some v → W.cell? ⟨b, o + i * 2 + t, none⟩ = some v)
def Cus (W : World) (a : Option Addr) (len : Nat) (A : Nat → Cu) : Prop :=
  (∀ i, i < len → (A i).ok) ∧ (len = 0 ∨ ∃ b o, a = some ⟨b, o, none⟩ ∧ b < W.heap.size ∧ ∀ i, i < len → ∀ t v, (A i).cells[t]? = some v → W.cell? ⟨b, o + i * 3 + t, none⟩ = some v)

set_option maxRecDepth 100000 in
theorem view_puts {H : Type} {enc : TypeId × Value → H} {W : World} {a : Option Addr} {len cap : Nat} {d : DataW H} {p : List MemPlace}
    (h : DataW.Trod enc Try.prog W 0 (fun _ => true) true 22 (.slice a len cap) d p) :
    len ≤ cap ∧ cap ≤ maxLen ∧ ∃ A, Pus W a len A := by
  obtain ⟨fuel, hf⟩ := h
  rcases Deep.open_slice Try.underlying22 hf with ⟨hcs, _⟩ | ⟨ad, l, c, m, n, D, Pl, hcs, _, hl, hmx, hm, hx, hcell⟩
  · simp [Value.cells] at hcs
    obtain ⟨_, rfl, rfl⟩ := hcs
    exact ⟨Nat.le_refl _, Nat.zero_le _, fun _ => ⟨false, ⟨#[]⟩⟩, fun i hi => absurd hi (by omega), .inl rfl⟩
  · simp [Value.cells] at hcs
    obtain ⟨rfl, rfl, rfl⟩ := hcs
    refine ⟨hl, hmx, ?_⟩
    simp only [if_true] at hm
    subst hm
    rw [cellsP] at hcell
    obtain ⟨b, off, spot⟩ := ad
    have hone : ∀ i, i < len → ∃ A : Pu, W.cells? 0 ((⟨b, off, spot⟩ : Addr).add (i * 2)) 2 = some A.cells ∧ A.ok := fun i hi => by
      obtain ⟨cs', h1, h2⟩ := hcell i (by omega)
      obtain ⟨A, rfl, hA⟩ := view_pu h2
      exact ⟨A, h1, hA⟩
    refine ⟨fun i => if hi : i < len then Classical.choose (hone i hi) else ⟨false, ⟨#[]⟩⟩, fun i hi => ?_, ?_⟩
    · simp only [dif_pos hi]
      exact (Classical.choose_spec (hone i hi)).2
    · by_cases c0 : len = 0
      · exact .inl c0
      · right
        have hs : spot = none := by
          obtain ⟨A, h1, _⟩ := hone 0 (by omega)
          rw [Nat.zero_mul, add_0] at h1
          exact (cells2 h1).1
        subst hs
        have key : ∀ i (hi : i < len), ∀ t v, (Classical.choose (hone i hi)).cells[t]? = some v → W.cell? ⟨b, off + i * 2 + t, none⟩ = some v := fun i hi t v hv => by
          have h1 := (Classical.choose_spec (hone i hi)).1
          generalize Classical.choose (hone i hi) = A at h1 hv
          rw [add_none] at h1
          exact (cells2 h1).2 t v hv
        refine ⟨b, off, rfl, ?_, fun i hi t v hv => ?_⟩
        · exact World.block_lt_of_cell? W _ (key 0 (by omega) 0 _ rfl)
        · simp only [dif_pos hi] at hv
          exact key i hi t v hv

set_option maxRecDepth 100000 in
theorem view_cuts {H : Type} {enc : TypeId × Value → H} {W : World} {a : Option Addr} {len cap : Nat} {d : DataW H} {p : List MemPlace}
    (h : DataW.Trod enc Try.prog W 0 (fun _ => true) true 23 (.slice a len cap) d p) :
    len ≤ cap ∧ cap ≤ maxLen ∧ ∃ A, Cus W a len A := by
  obtain ⟨fuel, hf⟩ := h
  rcases Deep.open_slice Try.underlying23 hf with ⟨hcs, _⟩ | ⟨ad, l, c, m, n, D, Pl, hcs, _, hl, hmx, hm, hx, hcell⟩
  · simp [Value.cells] at hcs
    obtain ⟨_, rfl, rfl⟩ := hcs
    exact ⟨Nat.le_refl _, Nat.zero_le _, fun _ => ⟨0, 0, 0⟩, fun i hi => absurd hi (by omega), .inl rfl⟩
  · simp [Value.cells] at hcs
    obtain ⟨rfl, rfl, rfl⟩ := hcs
    refine ⟨hl, hmx, ?_⟩
    simp only [if_true] at hm
    subst hm
    rw [cellsC] at hcell
    obtain ⟨b, off, spot⟩ := ad
    have hone : ∀ i, i < len → ∃ A : Cu, W.cells? 0 ((⟨b, off, spot⟩ : Addr).add (i * 3)) 3 = some A.cells ∧ A.ok := fun i hi => by
      obtain ⟨cs', h1, h2⟩ := hcell i (by omega)
      obtain ⟨A, rfl, hA⟩ := view_cu h2
      exact ⟨A, h1, hA⟩
    refine ⟨fun i => if hi : i < len then Classical.choose (hone i hi) else ⟨0, 0, 0⟩, fun i hi => ?_, ?_⟩
    · simp only [dif_pos hi]
      exact (Classical.choose_spec (hone i hi)).2
    · by_cases c0 : len = 0
      · exact .inl c0
      · right
        have hs : spot = none := by
          obtain ⟨A, h1, _⟩ := hone 0 (by omega)
          rw [Nat.zero_mul, add_0] at h1
          exact (cells3 h1).1
        subst hs
        have key : ∀ i (hi : i < len), ∀ t v, (Classical.choose (hone i hi)).cells[t]? = some v → W.cell? ⟨b, off + i * 3 + t, none⟩ = some v := fun i hi t v hv => by
          have h1 := (Classical.choose_spec (hone i hi)).1
          generalize Classical.choose (hone i hi) = A at h1 hv
          rw [add_none] at h1
          exact (cells3 h1).2 t v hv
        refine ⟨b, off, rfl, ?_, fun i hi t v hv => ?_⟩
        · exact World.block_lt_of_cell? W _ (key 0 (by omega) 0 _ rfl)
        · simp only [dif_pos hi] at hv
          exact key i hi t v hv

end Go.Proofs.Ytaojoecmbgmhoaa.Wls
