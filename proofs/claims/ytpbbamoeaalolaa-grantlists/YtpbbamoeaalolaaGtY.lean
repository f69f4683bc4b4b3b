/-
  The contract of bothWays: each edge as it is and turned round, by their first numbers. Condition: at most 2^20 edges.
-/
import Derived.Test.YtpbbamoeaalolaaGtX
namespace Go.Proofs.Ytpbbamoeaalolaa.Wg
open Go.ChangeShapes Go.WideShapes Go.ChangeAt Go.RowKit Go.Proofs.Ytpbbamoeaalolaa.M Go.Maps

theorem infoE : (Try.prog.info? 52).map (fun i => (i.zero, i.size, i.bytes)) = some (some (.agg #[.int .i64 0, .int .i64 0]), 2, 16) := by kernel_rfl
/-- Both ways of each edge. -/
def tw (es : List Ed) : List Ed := es.flatMap fun e => [e, (e.2, e.1)]
theorem length_tw (es : List Ed) : (tw es).length = 2 * es.length := by
  unfold tw
  induction es with
  | nil => rfl
  | cons e r ih => rw [List.flatMap_cons, List.length_append, ih]; simp; omega
theorem mem_tw {es : List Ed} {w : Ed} : w ∈ tw es ↔ Adj es w.1 w.2 := by
  unfold tw Adj
  rw [List.mem_flatMap]
  constructor
  · rintro ⟨e, he, h⟩
    simp at h
    rcases h with rfl | rfl
    · exact ⟨w, he, .inl ⟨rfl, rfl⟩⟩
    · exact ⟨e, he, .inr ⟨rfl, rfl⟩⟩
  · rintro ⟨e, he, ⟨h1, h2⟩ | ⟨h1, h2⟩⟩
    · exact ⟨e, he, by simp; exact .inl (Prod.ext h1.symm h2.symm)⟩
    · exact ⟨e, he, by simp; exact .inr (Prod.ext h1.symm h2.symm)⟩
theorem tw_snoc {es : List Ed} {x : Ed} {n : Nat} (hx : es[n]? = some x) : tw (es.take (n + 1)) = tw (es.take n) ++ [x, (x.2, x.1)] := by
  unfold tw
  rw [List.take_add_one, hx, List.flatMap_append]
  simp
theorem four_newS {w : World} {B : Nat} (hB : w.heap.size = B) (a b c d : Value) (T : Nat) : ∀ (j : Nat) (u : Value), [a, b, c, d][j]? = some u → (w.alloc (.cells #[a, b, c, d] T)).cell? ((⟨B, 0, none⟩ : Addr).add j) = some u := by
  subst hB
  intro j u hu
  rw [add_none, Nat.zero_add]
  exact blk_cell (l := [a, b, c, d]) (heap_alloc_new w _) hu
theorem Rd.atE {w : World} {g off : Nat} {L : List Ed} (h : Rd eC w g off L) {i : Nat} {x : Ed} (hi : L[i]? = some x) : w.cell? ⟨g, off + i * 2, none⟩ = some (.int .i64 x.1) ∧ w.cell? ⟨g, off + i * 2 + 1, none⟩ = some (.int .i64 x.2) :=
  ⟨h i x hi 0 _ rfl, h i x hi 1 _ rfl⟩
/-- Edges that lie in memory. -/
def EdsAt (w : World) (a : Option Addr) (es : List Ed) : Prop := es = [] ∨ ∃ g off, a = some ⟨g, off, none⟩ ∧ g < w.heap.size ∧ Rd eC w g off es
theorem EdsAt.below {w w' : World} {a : Option Addr} {es : List Ed} (h : EdsAt w a es) (b : Below w.heap.size w w') : EdsAt w' a es := by
  rcases h with h | ⟨g, off, h1, h2, h3⟩
  · exact .inl h
  · exact .inr ⟨g, off, h1, Nat.lt_of_lt_of_le h2 b.size, fun i x hx t v hv => (b.cell (p := ⟨g, off + i * 2 + t, none⟩) h2).trans (h3 i x hx t v hv)⟩

set_option maxRecDepth 100000 in
set_option maxHeartbeats 1600000 in
theorem bothWays {w : World} {a : Option Addr} {es : List Ed} {cap : Nat} (hrd : EdsAt w a es) (hl : es.length ≤ 1048576) :
    Calls Try.prog 27 #[.slice a es.length cap] w fun e w' => ∃ g W cap', e = .returned (.slice (some ⟨g, 0, none⟩) W.length cap') ∧ W.Perm (tw es) ∧ W.Pairwise (fun a b => a.1 ≤ b.1) ∧ Rd eC w' g 0 W ∧ w.heap.size ≤ g ∧ g < w'.heap.size ∧ W.length ≤ cap' ∧ Below w.heap.size w w' := by
  obtain ⟨i0, hi, hz0, hz1, hz2⟩ := info_parts infoE
  go_enter Try.func27, Try.ntmps27
  go_wp2_with (first | (at_make; refine wpList_make_own _ rfl _ _ 50 rfl w.heap.size 52 i0 (.agg #[.int .i64 0, .int .i64 0]) 2 Try.underlying50 hi hz0 hz1 _ _ _ (2 * es.length) rfl rfl (by simp) (by rw [hz2]; omega) (by unfold maxLen; omega) (Nat.le_refl _) ?_; intro w1 hrow1 hg1; go_frame) | go_in)
  go_loopw [3, 12] (fun v i wr => ∃ n : Nat, n ≤ es.length ∧ i = .int .i64 n ∧ wr.ownsRow w.heap.size 52 2 v (tw (es.take n)).length ((tw (es.take n)).flatMap eC) ∧ v ≠ .slice none 0 0 ∧ Below w.heap.size w wr) (fun _ i _ => es.length - (intOf i).toNat)
  case atStart => exact ⟨0, Nat.zero_le _, rfl, hrow1, by simp, (Below.refl _ _).grown hg1 (Nat.le_refl _) (fun j hj => by cases hj)⟩
  case round =>
    obtain ⟨n, hn, rfl, own, hnn, bw⟩ := hrel
    by_cases cn : n < es.length
    · rcases hrd with h4 | ⟨g, off, rfl, q3, q4⟩
      · rw [h4] at cn; simp at cn
      obtain ⟨x, hx⟩ : ∃ x, es[n]? = some x := ⟨es[n], List.getElem?_eq_getElem cn⟩
      obtain ⟨x0, x1⟩ := q4.atE hx
      have y0 := (bw.cell (p := ⟨g, off + n * 2, none⟩) q3).trans x0
      have y1 := (bw.cell (p := ⟨g, off + n * 2 + 1, none⟩) q3).trans x1
      have hst := tw_snoc hx
      have hll : (tw (es.take n)).length = 2 * n := by rw [length_tw, List.length_take]; omega
      have own1 := fun o => own.alloc o
      have bz := bw.size
      clear x0 x1 hx hrow1 hg1
      go_wp2_with (first | (at_builtin; refine wpList_append_own _ rfl _ _ 50 rfl w.heap.size 52 i0 (.agg #[.int .i64 0, .int .i64 0]) 2 16 Try.underlying50 hi hz0 hz1 hz2 rfl (by decide) _ _ _ rfl ((own1 _).alloc _) ⟨wr.heap.size + 1, 0, none⟩ 2 2 (eC x ++ eC (x.2, x.1)) rfl rfl (four_newS (by simp) _ _ _ _ _) (fun u hu => by simp [eC] at hu; rcases hu with rfl | rfl | rfl | rfl <;> rfl) (by unfold maxLen; omega) (by omega) (by simp; omega) ?_; intro v4 w4 o4 g4 n4; go_frame) | go_in)
      have bw4 : Below w.heap.size w w4 := ((bw.alloc bw.size _).alloc (by simp; omega) _).grown g4 (by simp; omega) (fun j hj => (own.lt j hj).1)
      go_roundw
      case rel =>
        refine ⟨n + 1, cn, by go_num, ?_, fun e => ?_, bw4⟩
        · rw [hst, List.flatMap_append, List.length_append]
          simpa using o4
        · have := (n4.1 e).2
          omega
      case measure => simp [intOf]; omega
    · have ht : es.take n = es := List.take_of_length_le (by omega)
      rw [ht] at own
      have hl2 := length_tw es
      rcases own.2 with ⟨h0, _⟩ | ⟨g, cap', cur, rfl, hbase, hg, hnc, _⟩
      · exact absurd h0 hnn
      have SK := hid (sortEdges own (by omega))
      have hgl := own_blk own
      clear hrow1 hg1 hrd hl2
      go_wp2_with (go_at_call 38; refine SK.out.mono ?_; rintro e w' ⟨rfl, r1, L, r2, r3, r4⟩)
      go_ret
      exact ⟨g, L, cap', by rw [r2.length_eq]; rfl, r2, r3, r4, hbase, Nat.lt_of_lt_of_le hgl r1.size, by rw [r2.length_eq]; exact hnc, bw.grown r1 bw.size (fun j hj => by cases hj; exact hbase)⟩

end Go.Proofs.Ytpbbamoeaalolaa.Wg
