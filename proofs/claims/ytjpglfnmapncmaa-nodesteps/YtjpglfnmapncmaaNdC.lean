/-
  What the laws of a node's steps share: the document's example.
-/
import Derived.Test.YtjpglfnmapncmaaNdB
namespace Go.Proofs.Ytjpglfnmapncmaa.Wnd
open Go.ChangeShapes Go.WideShapes Go.ChangeAt Go.RowKit Go.Proofs.Ytjpglfnmapncmaa.M

theorem lease5 (w : World) : Calls Try.prog 17 #[.agg #[.int .i64 1, .int .i64 0, .int .i64 0, .int .i64 0], .int .i64 5, .int .i64 3] w fun e w' => e = .returned (.tuple #[.agg #[.int .i64 2, .int .i64 1, .int .i64 8, .int .i64 5], .int .i64 0]) ∧ Below w.heap.size w w' :=
  lease 1 0 0 0 5 3 w (by unfold I6; omega) (by unfold I6; omega) (by unfold I6; omega)
theorem finish8 (w : World) : Calls Try.prog 21 #[.agg #[.int .i64 2, .int .i64 1, .int .i64 8, .int .i64 5], .int .i64 8, .int .i64 1, .int .i64 1, .bool true] w fun e w' => e = .returned (.tuple #[.agg #[.int .i64 4, .int .i64 1, .int .i64 0, .int .i64 8], .int .i64 0]) ∧ Below w.heap.size w w' :=
  finish 2 1 8 5 8 1 1 true w
theorem expire9 (w : World) : Calls Try.prog 23 #[.agg #[.int .i64 2, .int .i64 1, .int .i64 8, .int .i64 5], .int .i64 9, .int .i64 1] w fun e w' => e = .returned (.tuple #[.agg #[.int .i64 5, .int .i64 1, .int .i64 0, .int .i64 9], .bool true]) ∧ Below w.heap.size w w' :=
  expire 2 1 8 5 9 1 w
theorem over5 (w : World) : Calls Try.prog 12 #[.agg #[.int .i64 5, .int .i64 1, .int .i64 0, .int .i64 9]] w fun e w' => e = .returned (.bool true) ∧ Below w.heap.size w w' :=
  over 5 1 0 9 w

set_option maxRecDepth 100000 in
theorem wakes (w : World) : Calls Try.prog 11 #[] w fun e w' => e = .returned (.bool true) ∧ Below w.heap.size w w' := by
  go_enter Try.func11, Try.ntmps11
  go_wp2_with fail
  refine (lease5 _).mono ?_
  rintro e w1 ⟨rfl, b1⟩
  go_wp2_with fail
  refine (finish8 _).mono ?_
  rintro e w2 ⟨rfl, b2⟩
  have S2 := (Cel.new w1 2 1 8 5 28).below b2 (by simp)
  have B2 := (b1.alloc b1.size _).trans (b2.mono (by have := b1.size; simp; omega))
  obtain ⟨v0, v1, v2, v3, vf, vl⟩ := S2.cells
  clear b2
  go_wp2_with fail
  refine (expire9 _).mono ?_
  rintro e w3 ⟨rfl, b3⟩
  clear v0 v1 v2 v3 vf vl
  have S3 := (S2.al _).below b3 (by simp; exact Nat.lt_succ_of_lt S2.lt)
  have B3 := (B2.alloc B2.size _).trans (b3.mono (by have := B2.size; simp; omega))
  obtain ⟨v0, v1, v2, v3, vf, vl⟩ := S3.cells
  clear b3
  go_wp2_with fail
  refine (over5 _).mono ?_
  rintro e w4 ⟨rfl, b4⟩
  have B4 := (B3.alloc B3.size _).trans (b4.mono (by have := B3.size; simp; omega))
  clear v0 v1 v2 v3 vf vl b4
  go_wp2
  go_ret
  exact ⟨rfl, B4⟩
end Go.Proofs.Ytjpglfnmapncmaa.Wnd
