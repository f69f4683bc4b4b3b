/-
  The contract of clone: the same grant, and nothing that was in memory has turned. Condition: the flow's text is of at most 2^48 bytes.
-/
import Derived.Test.YtpbbamoeaalolaaGtD
import Derived.Test.YtpbbamoeaalolaaClone
namespace Go.Proofs.Ytpbbamoeaalolaa.Wg
open Go.ChangeShapes Go.WideShapes Go.ChangeAt Go.RowKit Go.Proofs.Ytpbbamoeaalolaa.M Go.Maps

theorem two_set {w : World} {g T : Nat} {a b : Value} (h : w.heap[g]? = some (Obj.cells #[a, b] T (0, 0))) (x y : Value) :
    ((w.setCell ⟨g, 0, none⟩ x).setCell ⟨g, 1, none⟩ y).cell? ⟨g, 0, none⟩ = some x ∧ ((w.setCell ⟨g, 0, none⟩ x).setCell ⟨g, 1, none⟩ y).cell? ⟨g, 1, none⟩ = some y :=
  ⟨blk_cell (blk_set (blk_set (l := [a, b]) h 0 x) 1 y) rfl, blk_cell (blk_set (blk_set (l := [a, b]) h 0 x) 1 y) rfl⟩

theorem clone_facts {w w2 : World} {k : Ky} {a b : Value} (bb : Below ((w.alloc (.cells #[.int .i64 k.1, .string k.2] 38)).alloc (.cells #[a, b] 38)).heap.size ((w.alloc (.cells #[.int .i64 k.1, .string k.2] 38)).alloc (.cells #[a, b] 38)).drew w2) :
    w2.cell? ⟨w.heap.size, 0, none⟩ = some (.int .i64 k.1) ∧ w2.cell? ⟨w.heap.size, 1, none⟩ = some (.string k.2) ∧ w2.cell? ⟨w.heap.size + 1, 0, none⟩ = some a ∧ w2.cell? ⟨w.heap.size + 1, 1, none⟩ = some b ∧ w2.frozen? ⟨w.heap.size + 1, 0, none⟩ = false ∧ w2.frozen? ⟨w.heap.size + 1, 1, none⟩ = false ∧ Below w.heap.size w w2 ∧ w.heap.size + 1 < w2.heap.size ∧ Hid (w2.heap[w.heap.size + 1]? = some (Obj.cells #[a, b] 38 (0, 0))) := by
  have z := bb.size
  have B0 : Below w.heap.size w w2 := (((Below.refl _ _).alloc (Nat.le_refl _) _).alloc (by simp) _).drew.trans (bb.mono (by simp; omega))
  have e0 : w2.heap[w.heap.size]? = some (Obj.cells #[.int .i64 k.1, .string k.2] 38 (0, 0)) := (bb.block _ (by simp; omega)).trans ((heap_alloc_old (w.alloc _) _ (by simp)).trans (heap_alloc_new w _))
  have e1 : w2.heap[w.heap.size + 1]? = some (Obj.cells #[a, b] 38 (0, 0)) := (bb.block _ (by simp)).trans (by
    have := heap_alloc_new (w.alloc (.cells #[.int .i64 k.1, .string k.2] 38)) (.cells #[a, b] 38)
    rw [World.size_alloc] at this
    exact this)
  exact ⟨blk_cell (l := [.int .i64 k.1, .string k.2]) e0 rfl, blk_cell (l := [.int .i64 k.1, .string k.2]) e0 rfl, blk_cell (l := [a, b]) e1 rfl, blk_cell (l := [a, b]) e1 rfl, blk_free e1 0, blk_free e1 1, B0, blk_lt e1, e1⟩

set_option maxRecDepth 100000 in
set_option maxHeartbeats 800000 in
theorem clone (k : Ky) (w : World) (hs : k.2.size ≤ 281474976710656) :
    Calls Try.prog 24 #[.agg #[.int .i64 k.1, .string k.2]] w fun e w' => e = .returned (.agg #[.int .i64 k.1, .string k.2]) ∧ Below w.heap.size w w' := by
  have C : Hid _ := hid fun W => Wc.clone k.2 W hs
  go_enter Try.func24, Try.ntmps24
  go_wp2
  go_region_with (go_at_call 32; refine (C.out _).mono ?_; rintro e w2 ⟨rfl, bb⟩; obtain ⟨f0, f1, f2, f3, f4, f5, B0, zz, E1⟩ := clone_facts bb; clear bb)
  all_goals
    go_wp2
    obtain ⟨g0, g1⟩ := two_set E1.out (.int .i64 k.1) (.string k.2)
    exact bodyPost_ret (v := .agg #[.int .i64 k.1, .string k.2]) (by simp [results, Try.results24, go_sem, g0, g1]) rfl ⟨rfl, (B0.setCell (by simp) _).setCell (by simp) _⟩

end Go.Proofs.Ytpbbamoeaalolaa.Wg
