/-
  What a law's grants, calls and edges read as: cells of memory. Nothing is asked but what each fact names.
-/
import Derived.Test.YtpbbamoeaalolaaGtA
import Derived.WalkKit
import Derived.ProofKit
import Derived.OpenShut
import Derived.SizedLaws
import Derived.Deep.Fields
import Derived.Deep.Light
namespace Go.Proofs.Ytpbbamoeaalolaa.M
theorem wf_i64 {x : Int} (h : (Lit.int .i64 x).wf = true) : -9223372036854775808 ≤ x ∧ x < 9223372036854775808 := by
  simp [Lit.wf, IntKind.min, IntKind.max, IntKind.bits, IntKind.signed] at h
  omega
end Go.Proofs.Ytpbbamoeaalolaa.M
namespace Go.Proofs.Ytpbbamoeaalolaa.Wg
open Go.ChangeShapes Go.WideShapes Go.ChangeAt Go.RowKit Go.Proofs.Ytpbbamoeaalolaa.M

/-- A grant's two cells; a grant as there may be. -/
def kC (k : Ky) : List Value := [.int .i64 k.1, .string k.2]
structure KOk (k : Ky) : Prop where
  c : -9223372036854775808 ≤ k.1 ∧ k.1 < 9223372036854775808
  f : k.2.size ≤ maxLen
/-- A call: is it a Drop, and of which grant. -/
structure Ac where
  d : Bool
  k : Ky
def Ac.cells (A : Ac) : List Value := [.bool A.d, .int .i64 A.k.1, .string A.k.2]
/-- An edge. -/
abbrev Ed := Int × Int
def eC (e : Ed) : List Value := [.int .i64 e.1, .int .i64 e.2]
structure EOk (e : Ed) : Prop where
  a : -9223372036854775808 ≤ e.1 ∧ e.1 < 9223372036854775808
  b : -9223372036854775808 ≤ e.2 ∧ e.2 < 9223372036854775808

theorem cI : Try.prog.cellsOf 3 = 1 := by kernel_rfl
theorem cB : Try.prog.cellsOf 4 = 1 := by kernel_rfl
theorem cS : Try.prog.cellsOf 9 = 1 := by kernel_rfl
theorem cK : Try.prog.cellsOf 25 = 2 := by kernel_rfl
theorem cA : Try.prog.cellsOf 36 = 3 := by kernel_rfl
theorem cE : Try.prog.cellsOf 51 = 2 := by kernel_rfl
theorem add_none (b off i : Nat) : (⟨b, off, none⟩ : Addr).add i = ⟨b, off + i, none⟩ := by
  unfold Addr.add
  split
  · rename_i h; rw [h, Nat.add_zero]
  · simp
theorem add_0 (a : Addr) : a.add 0 = a := by
  unfold Addr.add
  rfl
theorem list2 {α : Type} {l : List α} (h : l.length = 2) : ∃ a b, l = [a, b] := by
  match l, h with
  | [a, b], _ => exact ⟨a, b, rfl⟩
theorem list3 {α : Type} {l : List α} (h : l.length = 3) : ∃ a b c, l = [a, b, c] := by
  match l, h with
  | [a, b, c], _ => exact ⟨a, b, c, rfl⟩
theorem cells2 {W : World} {b off : Nat} {spot : Option Nat} {v0 v1 : Value} (h : W.cells? 0 ⟨b, off, spot⟩ 2 = some [v0, v1]) : spot = none ∧ ∀ t v, [v0, v1][t]? = some v → W.cell? ⟨b, off + t, none⟩ = some v := by
  have hr : List.range 2 = [0, 1] := rfl
  simp only [World.cells?, Nat.zero_le, if_true, hr] at h
  simp [List.mapM_cons, Option.bind_eq_some_iff] at h
  obtain ⟨h0, h1⟩ := h
  have hs : spot = none := by simpa [Addr.add] using World.cell?_spot h0
  subst hs
  rw [add_none] at h0 h1
  refine ⟨rfl, fun t v hv => ?_⟩
  match t, hv with
  | 0, hv => simp at hv; subst hv; exact h0
  | 1, hv => simp at hv; subst hv; exact h1
  | t + 2, hv => simp at hv
theorem cells3 {W : World} {b off : Nat} {spot : Option Nat} {v0 v1 v2 : Value} (h : W.cells? 0 ⟨b, off, spot⟩ 3 = some [v0, v1, v2]) : spot = none ∧ ∀ t v, [v0, v1, v2][t]? = some v → W.cell? ⟨b, off + t, none⟩ = some v := by
  have hr : List.range 3 = [0, 1, 2] := rfl
  simp only [World.cells?, Nat.zero_le, if_true, hr] at h
  simp [List.mapM_cons, Option.bind_eq_some_iff] at h
  obtain ⟨h0, h1, h2⟩ := h
  have hs : spot = none := by simpa [Addr.add] using World.cell?_spot h0
  subst hs
  rw [add_none] at h0 h1 h2
  refine ⟨rfl, fun t v hv => ?_⟩
  match t, hv with
  | 0, hv => simp at hv; subst hv; exact h0
  | 1, hv => simp at hv; subst hv; exact h1
  | 2, hv => simp at hv; subst hv; exact h2
  | t + 3, hv => simp at hv

set_option maxRecDepth 100000 in
theorem view_ky {H : Type} {enc : TypeId × Value → H} {W : World} {n : Nat} {cs : List Value} {D : DataW H} {p : List MemPlace} (h : DataW.trod enc Try.prog W 0 (fun _ => true) true n 25 cs = some (D, p)) : ∃ A : Ky, cs = kC A ∧ KOk A := by
  obtain ⟨xs, n', _, hx, hl, hxl, hf⟩ := DataW.trod_struct Try.underlying25 h
  rw [cK] at hl
  obtain ⟨v0, v1, rfl⟩ := list2 hl
  have g0 : DataW.trod enc Try.prog W 0 (fun _ => true) true n' 3 (([v0, v1].drop 0).take (Try.prog.cellsOf 3)) = xs[0]? := hf 0 _ rfl
  have g1 : DataW.trod enc Try.prog W 0 (fun _ => true) true n' 9 (([v0, v1].drop 1).take (Try.prog.cellsOf 9)) = xs[1]? := hf 1 _ rfl
  obtain ⟨x0, x1, rfl⟩ := list2 hxl
  simp only [cI, cS, List.drop_zero, List.take_succ_cons, List.take_zero, List.drop_succ_cons, List.getElem?_cons_zero, List.getElem?_cons_succ] at g0 g1
  obtain ⟨y0, e0, _, w0⟩ := DataW.trod_int Try.underlying3 g0
  obtain ⟨y1, e1, _, w1⟩ := DataW.trod_string Try.underlying9 g1
  simp only [List.cons.injEq, and_true] at e0 e1
  subst e0 e1
  exact ⟨(y0, y1), rfl, ⟨wf_i64 w0, w1⟩⟩

set_option maxRecDepth 100000 in
theorem view_ac {H : Type} {enc : TypeId × Value → H} {W : World} {n : Nat} {cs : List Value} {D : DataW H} {p : List MemPlace} (h : DataW.trod enc Try.prog W 0 (fun _ => true) true n 36 cs = some (D, p)) : ∃ A : Ac, cs = A.cells ∧ KOk A.k := by
  obtain ⟨xs, n', _, hx, hl, hxl, hf⟩ := DataW.trod_struct Try.underlying36 h
  rw [cA] at hl
  obtain ⟨v0, v1, v2, rfl⟩ := list3 hl
  have g0 : DataW.trod enc Try.prog W 0 (fun _ => true) true n' 4 (([v0, v1, v2].drop 0).take (Try.prog.cellsOf 4)) = xs[0]? := hf 0 _ rfl
  have g1 : DataW.trod enc Try.prog W 0 (fun _ => true) true n' 25 (([v0, v1, v2].drop 1).take (Try.prog.cellsOf 25)) = xs[1]? := hf 1 _ rfl
  obtain ⟨x0, x1, rfl⟩ := list2 hxl
  simp only [cB, cK, List.drop_zero, List.take_succ_cons, List.take_zero, List.drop_succ_cons, List.getElem?_cons_zero, List.getElem?_cons_succ] at g0 g1
  obtain ⟨y0, e0, _⟩ := DataW.trod_bool Try.underlying4 g0
  obtain ⟨k, e1, hk⟩ := view_ky g1
  simp only [List.cons.injEq, and_true] at e0
  unfold kC at e1
  simp only [List.cons.injEq, and_true] at e1
  obtain ⟨e1, e2⟩ := e1
  subst e0 e1 e2
  exact ⟨⟨y0, k⟩, rfl, hk⟩

set_option maxRecDepth 100000 in
theorem view_ed {H : Type} {enc : TypeId × Value → H} {W : World} {n : Nat} {cs : List Value} {D : DataW H} {p : List MemPlace} (h : DataW.trod enc Try.prog W 0 (fun _ => true) true n 51 cs = some (D, p)) : ∃ A : Ed, cs = eC A ∧ EOk A := by
  obtain ⟨xs, m, _, _, hl, hxl, hall⟩ := DataW.trod_array Try.underlying51 h
  rw [cE] at hl
  obtain ⟨v0, v1, rfl⟩ := list2 hl
  have h0 := hall 0 (by omega)
  have h1 := hall 1 (by omega)
  rw [cI] at h0 h1
  obtain ⟨x0, x1, rfl⟩ := list2 hxl
  simp only [Nat.zero_mul, Nat.one_mul, List.drop_zero, List.take_succ_cons, List.take_zero, List.drop_succ_cons, List.getElem?_cons_zero, List.getElem?_cons_succ] at h0 h1
  obtain ⟨y0, e0, _, w0⟩ := DataW.trod_int Try.underlying3 h0
  obtain ⟨y1, e1, _, w1⟩ := DataW.trod_int Try.underlying3 h1
  simp only [List.cons.injEq, and_true] at e0 e1
  subst e0 e1
  exact ⟨(y0, y1), rfl, ⟨wf_i64 w0, wf_i64 w1⟩⟩

/-- Grants, calls, edges that lie in memory. -/
def Kys (W : World) (a : Option Addr) (len : Nat) (A : Nat → Ky) : Prop :=
  (∀ i, i < len → KOk (A i)) ∧ (len = 0 ∨ ∃ b o, a = some ⟨b, o, none⟩ ∧ b < W.heap.size ∧ ∀ i, i < len → ∀ t v, (kC (A i))[t]? = some v → W.cell? ⟨b, o + i * 2 + t, none⟩ = some v)
def Acs (W : World) (a : Option Addr) (len : Nat) (A : Nat → Ac) : Prop :=
  (∀ i, i < len → KOk (A i).k) ∧ (len = 0 ∨ ∃ b o, a = some ⟨b, o, none⟩ ∧ b < W.heap.size ∧ ∀ i, i < len → ∀ t v, (A i).cells[t]? = some v → W.cell? ⟨b, o + i * 3 + t, none⟩ = some v)
def Eds (W : World) (a : Option Addr) (len : Nat) (A : Nat → Ed) : Prop :=
  (∀ i, i < len → EOk (A i)) ∧ (len = 0 ∨ ∃ b o, a = some ⟨b, o, none⟩ ∧ b < W.heap.size ∧ ∀ i, i < len → ∀ t v, (eC (A i))[t]? = some v → W.cell? ⟨b, o + i * 2 + t, none⟩ = some v)

set_option maxRecDepth 100000 in
theorem view_keys {H : Type} {enc : TypeId × Value → H} {W : World} {a : Option Addr} {len cap : Nat} {d : DataW H} {p : List MemPlace}
    (h : DataW.Trod enc Try.prog W 0 (fun _ => true) true 45 (.slice a len cap) d p) :
    len ≤ cap ∧ cap ≤ maxLen ∧ ∃ A, Kys W a len A := by
  obtain ⟨fuel, hf⟩ := h
  rcases Deep.open_slice Try.underlying45 hf with ⟨hcs, _⟩ | ⟨ad, l, c, m, n, D, Pl, hcs, _, hl, hmx, hm, hx, hcell⟩
  · simp [Value.cells] at hcs
    obtain ⟨_, rfl, rfl⟩ := hcs
    exact ⟨Nat.le_refl _, Nat.zero_le _, fun _ => (0, ⟨#[]⟩), fun i hi => absurd hi (by omega), .inl rfl⟩
  · simp [Value.cells] at hcs
    obtain ⟨rfl, rfl, rfl⟩ := hcs
    refine ⟨hl, hmx, ?_⟩
    simp only [if_true] at hm
    subst hm
    rw [cK] at hcell
    obtain ⟨b, off, spot⟩ := ad
    have hone : ∀ i, i < len → ∃ A : Ky, W.cells? 0 ((⟨b, off, spot⟩ : Addr).add (i * 2)) 2 = some (kC A) ∧ KOk A := fun i hi => by
      obtain ⟨cs', h1, h2⟩ := hcell i (by omega)
      obtain ⟨A, rfl, hA⟩ := view_ky h2
      exact ⟨A, h1, hA⟩
    refine ⟨fun i => if hi : i < len then Classical.choose (hone i hi) else (0, ⟨#[]⟩), fun i hi => ?_, ?_⟩
    · simp only [dif_pos hi]
      exact (Classical.choose_spec (hone i hi)).2
    · by_cases c0 : len = 0
      · exact .inl c0
      · right
        have hs : spot = none := by
          obtain ⟨A, h1, _⟩ := hone 0 (by omega)
          rw [Nat.zero_mul, add_0] at h1
          exact (cells2 h1).1
        subst hs
        have key : ∀ i (hi : i < len), ∀ t v, (kC (Classical.choose (hone i hi)))[t]? = some v → W.cell? ⟨b, off + i * 2 + t, none⟩ = some v := fun i hi t v hv => by
          have h1 := (Classical.choose_spec (hone i hi)).1
          generalize Classical.choose (hone i hi) = A at h1 hv
          rw [add_none] at h1
          exact (cells2 h1).2 t v hv
        refine ⟨b, off, rfl, ?_, fun i hi t v hv => ?_⟩
        · exact World.block_lt_of_cell? W _ (key 0 (by omega) 0 _ rfl)
        · simp only [dif_pos hi] at hv
          exact key i hi t v hv

set_option maxRecDepth 100000 in
theorem view_acts {H : Type} {enc : TypeId × Value → H} {W : World} {a : Option Addr} {len cap : Nat} {d : DataW H} {p : List MemPlace}
    (h : DataW.Trod enc Try.prog W 0 (fun _ => true) true 23 (.slice a len cap) d p) :
    len ≤ cap ∧ cap ≤ maxLen ∧ ∃ A, Acs W a len A := by
  obtain ⟨fuel, hf⟩ := h
  rcases Deep.open_slice Try.underlying23 hf with ⟨hcs, _⟩ | ⟨ad, l, c, m, n, D, Pl, hcs, _, hl, hmx, hm, hx, hcell⟩
  · simp [Value.cells] at hcs
    obtain ⟨_, rfl, rfl⟩ := hcs
    exact ⟨Nat.le_refl _, Nat.zero_le _, fun _ => ⟨false, (0, ⟨#[]⟩)⟩, fun i hi => absurd hi (by omega), .inl rfl⟩
  · simp [Value.cells] at hcs
    obtain ⟨rfl, rfl, rfl⟩ := hcs
    refine ⟨hl, hmx, ?_⟩
    simp only [if_true] at hm
    subst hm
    rw [cA] at hcell
    obtain ⟨b, off, spot⟩ := ad
    have hone : ∀ i, i < len → ∃ A : Ac, W.cells? 0 ((⟨b, off, spot⟩ : Addr).add (i * 3)) 3 = some A.cells ∧ KOk A.k := fun i hi => by
      obtain ⟨cs', h1, h2⟩ := hcell i (by omega)
      obtain ⟨A, rfl, hA⟩ := view_ac h2
      exact ⟨A, h1, hA⟩
    refine ⟨fun i => if hi : i < len then Classical.choose (hone i hi) else ⟨false, (0, ⟨#[]⟩)⟩, fun i hi => ?_, ?_⟩
    · simp only [dif_pos hi]
      exact (Classical.choose_spec (hone i hi)).2
    · by_cases c0 : len = 0
      · exact .inl c0
      · right
        have hs : spot = none := by
          obtain ⟨A, h1, _⟩ := hone 0 (by omega)
          rw [Nat.zero_mul, add_0] at h1
          exact (cells3 h1).1
        subst hs
        have key : ∀ i (hi : i < len), ∀ t v, (Classical.choose (hone i hi)).cells[t]? = some v → W.cell? ⟨b, off + i * 3 + t, none⟩ = some v := fun i hi t v hv => by
          have h1 := (Classical.choose_spec (hone i hi)).1
          generalize Classical.choose (hone i hi) = A at h1 hv
          rw [add_none] at h1
          exact (cells3 h1).2 t v hv
        refine ⟨b, off, rfl, ?_, fun i hi t v hv => ?_⟩
        · exact World.block_lt_of_cell? W _ (key 0 (by omega) 0 _ rfl)
        · simp only [dif_pos hi] at hv
          exact key i hi t v hv

set_option maxRecDepth 100000 in
theorem view_edges {H : Type} {enc : TypeId × Value → H} {W : World} {a : Option Addr} {len cap : Nat} {d : DataW H} {p : List MemPlace}
    (h : DataW.Trod enc Try.prog W 0 (fun _ => true) true 49 (.slice a len cap) d p) :
    len ≤ cap ∧ cap ≤ maxLen ∧ ∃ A, Eds W a len A := by
  obtain ⟨fuel, hf⟩ := h
  rcases Deep.open_slice Try.underlying49 hf with ⟨hcs, _⟩ | ⟨ad, l, c, m, n, D, Pl, hcs, _, hl, hmx, hm, hx, hcell⟩
  · simp [Value.cells] at hcs
    obtain ⟨_, rfl, rfl⟩ := hcs
    exact ⟨Nat.le_refl _, Nat.zero_le _, fun _ => (0, 0), fun i hi => absurd hi (by omega), .inl rfl⟩
  · simp [Value.cells] at hcs
    obtain ⟨rfl, rfl, rfl⟩ := hcs
    refine ⟨hl, hmx, ?_⟩
    simp only [if_true] at hm
    subst hm
    rw [cE] at hcell
    obtain ⟨b, off, spot⟩ := ad
    have hone : ∀ i, i < len → ∃ A : Ed, W.cells? 0 ((⟨b, off, spot⟩ : Addr).add (i * 2)) 2 = some (eC A) ∧ EOk A := fun i hi => by
      obtain ⟨cs', h1, h2⟩ := hcell i (by omega)
      obtain ⟨A, rfl, hA⟩ := view_ed h2
      exact ⟨A, h1, hA⟩
    refine ⟨fun i => if hi : i < len then Classical.choose (hone i hi) else (0, 0), fun i hi => ?_, ?_⟩
    · simp only [dif_pos hi]
      exact (Classical.choose_spec (hone i hi)).2
    · by_cases c0 : len = 0
      · exact .inl c0
      · right
        have hs : spot = none := by
          obtain ⟨A, h1, _⟩ := hone 0 (by omega)
          rw [Nat.zero_mul, add_0] at h1
          exact (cells2 h1).1
        subst hs
        have key : ∀ i (hi : i < len), ∀ t v, (eC (Classical.choose (hone i hi)))[t]? = some v → W.cell? ⟨b, off + i * 2 + t, none⟩ = some v := fun i hi t v hv => by
          have h1 := (Classical.choose_spec (hone i hi)).1
          generalize Classical.choose (hone i hi) = A at h1 hv
          rw [add_none] at h1
          exact (cells2 h1).2 t v hv
        refine ⟨b, off, rfl, ?_, fun i hi t v hv => ?_⟩
        · exact World.block_lt_of_cell? W _ (key 0 (by omega) 0 _ rfl)
        · simp only [dif_pos hi] at hv
          exact key i hi t v hv

set_option maxRecDepth 100000 in
/-- A grant that a law is given. -/
theorem view_key {H : Type} {enc : TypeId × Value → H} {W : World} {base : Nat} {v : Value} {d : DataW H} {p : List MemPlace} (ho : Value.okWide Try.prog W .any base 25 v)
    (h : DataW.Trod enc Try.prog W 0 (fun _ => true) true 25 v d p) : ∃ (c : Int) (f : ByteArray), v = .agg #[.int .i64 c, .string f] ∧ KOk (c, f) := by
  obtain ⟨cs, rfl, _⟩ := okWide_struct Try.underlying25 ho
  obtain ⟨fuel, hf⟩ := h
  obtain ⟨A, e, hA⟩ := view_ky hf
  refine ⟨A.1, A.2, congrArg Value.agg ?_, hA⟩
  rw [← Array.toArray_toList (xs := cs), show cs.toList = kC A from e]
  rfl
set_option maxRecDepth 100000 in
/-- An edge that a law is given. -/
theorem view_edge {H : Type} {enc : TypeId × Value → H} {W : World} {base : Nat} {v : Value} {d : DataW H} {p : List MemPlace} (ho : Value.okWide Try.prog W .any base 51 v)
    (h : DataW.Trod enc Try.prog W 0 (fun _ => true) true 51 v d p) : ∃ a b : Int, v = .agg #[.int .i64 a, .int .i64 b] ∧ EOk (a, b) := by
  obtain ⟨cs, rfl, _, _⟩ : ∃ cs, v = .agg cs ∧ cs.size = Try.prog.cellsOf 51 ∧ Row.okWide Try.prog W .any base 51 cs := by
    simpa [Value.okWide, Try.underlying51] using ho
  obtain ⟨fuel, hf⟩ := h
  obtain ⟨A, e, hA⟩ := view_ed hf
  refine ⟨A.1, A.2, congrArg Value.agg ?_, hA⟩
  rw [← Array.toArray_toList (xs := cs), show cs.toList = eC A from e]
  rfl

end Go.Proofs.Ytpbbamoeaalolaa.Wg
