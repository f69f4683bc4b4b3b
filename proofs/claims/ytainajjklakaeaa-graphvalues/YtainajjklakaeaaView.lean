/-
  A slice of items that is read, as an argument of a law: its items lie there, each number fits its kind, each text is of at most 2^47 bytes. No Go text is in sight.
-/
import Derived.Test.YtainajjklakaeaaBuild
import Derived.Deep.Slices
import Derived.SizedLaws
namespace Go.Proofs.Ytainajjklakaeaa.Wn
open Go.ChangeShapes Go.WideShapes Go.ChangeAt Go.RowKit Go.Proofs.Ytainajjklakaeaa.M

theorem cellsI : Try.prog.cellsOf 60 = 4 := by kernel_rfl
theorem cI : Try.prog.cellsOf 3 = 1 := by kernel_rfl
theorem cJ : Try.prog.cellsOf 2 = 1 := by kernel_rfl
theorem cS : Try.prog.cellsOf 9 = 1 := by kernel_rfl

theorem add_none (b off i : Nat) : (⟨b, off, none⟩ : Addr).add i = ⟨b, off + i, none⟩ := by
  unfold Addr.add
  split
  · rename_i h; rw [h, Nat.add_zero]
  · simp

theorem add_0 (a : Addr) : a.add 0 = a := by
  unfold Addr.add
  rfl

theorem list4 {α : Type} {l : List α} (h : l.length = 4) : ∃ a b c d, l = [a, b, c, d] := by
  match l, h with
  | [a, b, c, d], _ => exact ⟨a, b, c, d, rfl⟩
/-- Four cells, one behind the other. -/
theorem cells4 {W : World} {b off : Nat} {spot : Option Nat} {v0 v1 v2 v3 : Value} (h : W.cells? 0 ⟨b, off, spot⟩ 4 = some [v0, v1, v2, v3]) : spot = none ∧ W.cell? ⟨b, off, none⟩ = some v0 ∧ W.cell? ⟨b, off + 1, none⟩ = some v1 ∧ W.cell? ⟨b, off + 2, none⟩ = some v2 ∧ W.cell? ⟨b, off + 3, none⟩ = some v3 := by
  have hr : List.range 4 = [0, 1, 2, 3] := rfl
  simp only [World.cells?, Nat.zero_le, if_true, hr] at h
  simp [List.mapM_cons, Option.bind_eq_some_iff] at h
  obtain ⟨h0, h1, h2, h3⟩ := h
  have hs : spot = none := by simpa [Addr.add] using World.cell?_spot h0
  subst hs
  rw [add_none] at h0 h1 h2 h3
  exact ⟨rfl, h0, h1, h2, h3⟩

theorem mem_all {H : Type} {P : Program} {e : TypeId} : ∀ {l : List (DataW H)} {d : DataW H} {n : Nat}, d ∈ l → n ∈ d.weights P e → n ∈ DataW.weightsAll P e l
  | [], _, _, h, _ => by cases h
  | x :: r, d, n, h, hn => by
    simp only [DataW.weightsAll, List.mem_append]
    rcases List.mem_cons.1 h with rfl | h
    · exact .inl hn
    · exact .inr (mem_all h hn)

/-- One item. -/
theorem view_item {H : Type} {enc : TypeId × Value → H} {W : World} {n : Nat} {cs : List Value} {D : DataW H} {p : List MemPlace} {spare : Nat → Bool} {held : Bool} (h : DataW.trod enc Try.prog W 0 spare held n 60 cs = some (D, p)) (hw : ∀ x ∈ D.weights Try.prog 60, x ≤ reachBytes) :
    ∃ (k m : Int) (s : ByteArray) (c : Int), cs = [.int .i64 k, .int .i64 m, .string s, .int .i64 c] ∧ (-9223372036854775808 ≤ k ∧ k < 9223372036854775808) ∧ (-9223372036854775808 ≤ m ∧ m < 9223372036854775808) ∧ s.size ≤ 140737488355328 ∧ (-9223372036854775808 ≤ c ∧ c < 9223372036854775808) := by
  obtain ⟨xs, n', _, hx, hl, hxl, hf⟩ := DataW.trod_struct Try.underlying60 h
  rw [cellsI] at hl
  obtain ⟨v0, v1, v2, v3, rfl⟩ := list4 hl
  · have g0 : DataW.trod enc Try.prog W 0 spare held n' 3 (([v0, v1, v2, v3].drop 0).take (Try.prog.cellsOf 3)) = xs[0]? := hf 0 _ rfl
    have g1 : DataW.trod enc Try.prog W 0 spare held n' 2 (([v0, v1, v2, v3].drop 1).take (Try.prog.cellsOf 2)) = xs[1]? := hf 1 _ rfl
    have g2 : DataW.trod enc Try.prog W 0 spare held n' 9 (([v0, v1, v2, v3].drop 2).take (Try.prog.cellsOf 9)) = xs[2]? := hf 2 _ rfl
    have g3 : DataW.trod enc Try.prog W 0 spare held n' 3 (([v0, v1, v2, v3].drop 3).take (Try.prog.cellsOf 3)) = xs[3]? := hf 3 _ rfl
    obtain ⟨x0, x1, x2, x3, rfl⟩ := list4 hxl
    · simp only [cI, cJ, cS, List.drop_zero, List.take_succ_cons, List.take_zero, List.drop_succ_cons, List.getElem?_cons_zero, List.getElem?_cons_succ] at g0 g1 g2 g3
      obtain ⟨k, e0, _, w0⟩ := DataW.trod_int Try.underlying3 g0
      obtain ⟨m, e1, _, w1⟩ := DataW.trod_int Try.underlying2 g1
      obtain ⟨s, e2, ex2, _⟩ := DataW.trod_string Try.underlying9 g2
      obtain ⟨c, e3, _, w3⟩ := DataW.trod_int Try.underlying3 g3
      simp only [List.cons.injEq, and_true] at e0 e1 e2 e3
      subst e0 e1 e2 e3
      refine ⟨k, m, s, c, rfl, wf_i64 w0, wf_i64 w1, ?_, wf_i64 w3⟩
      have hD : D = .agg [x0.1, x1.1, x2.1, x3.1] := by simp only [Prod.mk.injEq] at hx; exact hx.1
      have := hw s.size (by
        rw [hD]
        simp only [DataW.weights, Try.underlying60, List.map_cons, List.map_nil, DataW.weightsEach, List.mem_append]
        right; right; left
        rw [ex2]
        simp only [DataW.weights, List.mem_singleton]
        exact Array.length_toList.symm)
      unfold reachBytes at this
      omega

/-- A slice of items that is read. -/
theorem view_items {H : Type} {enc : TypeId × Value → H} {W : World} {a : Option Addr} {len cap : Nat} {d : DataW H} {p : List MemPlace}
    (h : DataW.Trod enc Try.prog W 0 (fun _ => true) true 25 (.slice a len cap) d p) (hw : ∀ x ∈ d.weights Try.prog 25, x ≤ reachBytes) :
    len = 0 ∨ ∃ gl ol, a = some ⟨gl, ol, none⟩ ∧ Items W gl ol len := by
  obtain ⟨fuel, hf⟩ := h
  rcases Deep.open_slice Try.underlying25 hf with ⟨hcs, _⟩ | ⟨ad, l, c, m, n, D, Pl, hcs, _, hl, _, hm, hx, hcell⟩
  · simp [Value.cells] at hcs
    exact .inl hcs.2.1
  · simp [Value.cells] at hcs
    obtain ⟨rfl, rfl, rfl⟩ := hcs
    simp only [if_true] at hm
    subst hm
    by_cases c0 : len = 0
    · exact .inl c0
    · right
      rw [cellsI] at hcell
      obtain ⟨b, off, spot⟩ := ad
      simp only [Prod.mk.injEq] at hx
      obtain ⟨hd, _⟩ := hx
      have hone : ∀ i, i < len → ∃ cs', W.cells? 0 ((⟨b, off, spot⟩ : Addr).add (i * 4)) 4 = some cs' ∧ ∃ (k m : Int) (s : ByteArray) (c : Int), cs' = [.int .i64 k, .int .i64 m, .string s, .int .i64 c] ∧ (-9223372036854775808 ≤ k ∧ k < 9223372036854775808) ∧ (-9223372036854775808 ≤ m ∧ m < 9223372036854775808) ∧ s.size ≤ 140737488355328 ∧ (-9223372036854775808 ≤ c ∧ c < 9223372036854775808) := fun i hi => by
        obtain ⟨cs', h1, h2⟩ := hcell i (by omega)
        refine ⟨cs', h1, view_item h2 (fun x hxm => hw x ?_)⟩
        rw [hd]
        simp only [DataW.weights, Try.underlying25, List.mem_cons, List.mem_append]
        right; left
        exact mem_all (List.mem_map.2 ⟨i, by simp [hi], rfl⟩) hxm
      have hs : spot = none := by
        obtain ⟨cs', h1, k, m, s, c, rfl, _⟩ := hone 0 (by omega)
        rw [Nat.zero_mul, add_0] at h1
        exact (cells4 h1).1
      subst hs
      refine ⟨b, off, rfl, fun i hi => ?_⟩
      obtain ⟨cs', h1, k, m, s, c, rfl, r⟩ := hone i hi
      rw [add_none] at h1
      obtain ⟨_, q0, q1, q2, q3⟩ := cells4 h1
      exact ⟨k, m, s, c, q0, q1, q2, q3, r⟩

end Go.Proofs.Ytainajjklakaeaa.Wn
