/-
  The contract of New: a table of any grants is that to which they are added, in order, or there is none and the first error is told. Nothing is asked but what each fact names.
-/
import Derived.Test.YtpbbamoeaalolaaGtT
namespace Go.Proofs.Ytpbbamoeaalolaa.Wg
open Go.ChangeShapes Go.WideShapes Go.ChangeAt Go.RowKit Go.Proofs.Ytpbbamoeaalolaa.M Go.Maps

/-- Adding one behind the other: the first error, and what is there up to it. -/
def adds : List Ky → List Ky → Int × List Ky
  | L, [] => (0, L)
  | L, k :: r => if addE k L = 0 then adds (addL k L) r else (addE k L, L)
theorem adds_ok {L : List Ky} {k : Ky} {r : List Ky} (h : addE k L = 0) : adds L (k :: r) = adds (addL k L) r := by
  conv => lhs; unfold adds
  rw [if_pos h]
theorem adds_no {L : List Ky} {k : Ky} {r : List Ky} (h : addE k L ≠ 0) : adds L (k :: r) = (addE k L, L) := by
  conv => lhs; unfold adds
  rw [if_neg h]

/-- A new table, made since W. -/
structure Tab (W w : World) (s : Nat) (L : List Ky) : Prop where
  tb : ∃ F, TbL w s F L ∧ ∀ i, F i → W.heap.size ≤ i
  bel : Below W.heap.size W w
theorem Tab.lt {W w : World} {s : Nat} {L : List Ky} (h : Tab W w s L) : W.heap.size ≤ s ∧ s < w.heap.size := by
  obtain ⟨F, h1, h2⟩ := h.tb
  exact ⟨h2 s h1.fs, h1.lt⟩
theorem Tab.below {W w w' : World} {s : Nat} {L : List Ky} (h : Tab W w s L) (b : Below w.heap.size w w') : Tab W w' s L := by
  obtain ⟨F, h1, h2⟩ := h.tb
  exact ⟨⟨F, h1.below b, h2⟩, h.bel.trans (b.mono h.bel.size)⟩
theorem Tab.add {W w : World} {s : Nat} {L : List Ky} (h : Tab W w s L) {k : Ky} (hk : KOk k) :
    Calls Try.prog 15 #[.pointer (some ⟨s, 0, none⟩), .agg #[.int .i64 k.1, .string k.2]] w fun e w' => e = .returned (.int .i64 (addE k L)) ∧ Tab W w' s (addL k L) := by
  obtain ⟨F, h1, h2⟩ := h.tb
  refine (Wg.add h1 hk).mono ?_
  rintro e w' ⟨rfl, q1, q2⟩
  refine ⟨rfl, ⟨_, q1, fun i hi => ?_⟩, h.bel.trans (q2.below h.bel.size h2)⟩
  rcases hi with hi | hi
  · exact h2 i hi
  · have := h.bel.size; omega
theorem tab_new {W w : World} (b : Below W.heap.size W w) : Tab W (w.alloc (.cells #[.map none] 64)) w.heap.size [] :=
  ⟨⟨fun i => i = w.heap.size, ⟨tbl_nil, rfl, .inl ⟨heap_alloc_new w _, rfl⟩⟩, fun _ hi => hi ▸ b.size⟩, b.alloc b.size _⟩

set_option maxRecDepth 100000 in
set_option maxHeartbeats 800000 in
theorem new {w : World} {a : Option Addr} {l : List Ky} {cap : Nat} (hl : l.length ≤ 1048576) (hok : ∀ k ∈ l, KOk k) (hrd : l = [] ∨ ∃ g, a = some ⟨g, 0, none⟩ ∧ g < w.heap.size ∧ Rd kC w g 0 l) :
    Calls Try.prog 11 #[.slice a l.length cap] w fun e w' => Below w.heap.size w w' ∧ ((adds [] l).1 ≠ 0 ∧ e = .returned (.tuple #[.pointer none, .int .i64 (adds [] l).1]) ∨ (adds [] l).1 = 0 ∧ ∃ s, e = .returned (.tuple #[.pointer (some ⟨s, 0, none⟩), .int .i64 0]) ∧ Tab w w' s (adds [] l).2) := by
  go_enter Try.func11, Try.ntmps11
  go_wp2
  have T0 := hid (tab_new (Below.refl w.heap.size w))
  go_loopw [12] (fun i wr => ∃ (n : Nat) (L : List Ky), n ≤ l.length ∧ i = .int .i64 n ∧ Hid (adds [] l = adds L (l.drop n)) ∧ Tab w wr w.heap.size L) (fun i _ => l.length - (intOf i).toNat)
  case atStart => exact ⟨0, [], Nat.zero_le _, rfl, rfl, T0.out⟩
  case round =>
    obtain ⟨n, L, hn, rfl, hA, tb⟩ := hrel
    by_cases cn : n < l.length
    · rcases hrd with h4 | ⟨g, rfl, q3, q4⟩
      · rw [h4] at cn; simp at cn
      obtain ⟨x, hx⟩ : ∃ x, l[n]? = some x := ⟨l[n], List.getElem?_eq_getElem cn⟩
      have x0 := q4 n x hx 0 _ rfl
      have x1 := q4 n x hx 1 _ rfl
      rw [Nat.zero_add] at x0 x1
      have y0 : wr.cell? ⟨g, n * 2, none⟩ = some (.int .i64 x.1) := (tb.bel.cell (p := ⟨g, n * 2, none⟩) q3).trans x0
      have y1 : wr.cell? ⟨g, n * 2 + 1, none⟩ = some (.string x.2) := (tb.bel.cell (p := ⟨g, n * 2 + 1, none⟩) q3).trans x1
      have hk := hok x (List.mem_of_getElem? hx)
      have hdr : l.drop n = x :: l.drop (n + 1) := by
        rw [List.drop_eq_getElem_cons cn, (List.getElem?_eq_some_iff.1 hx).2]
      have CA := hid fun o => (tb.below ((Below.refl _ _).alloc (Nat.le_refl _) o)).add hk
      have hA1 := hA.out
      rw [hdr] at hA1
      clear x0 x1 hx hA hdr hk T0
      by_cases e0 : addE x L = 0
      · rw [adds_ok e0] at hA1
        have hA2 := hid hA1
        rw [e0] at CA
        clear hA1 e0
        go_wp2_with fail
        refine (CA.out _).mono ?_
        rintro e w3 ⟨rfl, tb3⟩
        clear CA tb
        go_wp2
        go_roundw
        case rel => exact ⟨n + 1, _, cn, by go_num, hA2, tb3⟩
        case measure => simp [intOf]; omega
      · rw [adds_no e0] at hA1
        have e1 : (addE x L == 0) = false := by simpa using e0
        have e2 : decide (addE x L = 0) = false := decide_eq_false e0
        have hA2 := hid (And.intro (congrArg Prod.fst hA1) e0)
        clear hA1 e0
        go_wp2_with fail
        refine (CA.out _).mono ?_
        rintro e w3 ⟨rfl, tb3⟩
        have B3 := tb3.bel
        clear CA tb tb3
        go_wp2
        go_ret2
        obtain ⟨h1, h2⟩ := hA2.out
        exact ⟨B3, .inl ⟨by rw [h1]; exact h2, by rw [h1] <;> rfl⟩⟩
    · have hdr : l.drop n = [] := List.drop_of_length_le (by omega)
      have hA1 := hA.out
      rw [hdr] at hA1
      have hA2 := hid hA1
      have B3 := tb.bel
      clear hA1 hA hdr T0
      go_wp2
      go_ret2
      have h : adds [] l = (0, L) := hA2.out
      exact ⟨B3, .inr ⟨by rw [h], _, rfl, by rw [h]; exact tb⟩⟩

end Go.Proofs.Ytpbbamoeaalolaa.Wg
