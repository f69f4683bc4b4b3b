/-
  The walk of the law DiskNil: of a nil disk nothing is there, and nothing can be done; the law returns true, and nothing that was in memory has turned. Condition: none but that the act lies in memory as acts do.
-/
import Derived.Test.YtffhnkljmalbiaaDkW
import Derived.Test.YtffhnkljmalbiaaActV
namespace Go.Proofs.Ytffhnkljmalbiaa.Wd
open Go.ChangeShapes Go.WideShapes Go.ChangeAt Go.RowKit Go.Proofs.Ytffhnkljmalbiaa.M Go.Proofs.Ytffhnkljmalbiaa.Wv

set_option maxRecDepth 100000 in
set_option maxHeartbeats 1600000 in
theorem lawNil (A : Av) (w : World) (_ : A.ok w) : Calls Try.prog 7 #[.agg A.cells.toArray] w fun e w' => e = .returned (.bool true) ∧ Below w.heap.size w w' := by
  obtain ⟨v0, v1, v2, v3, x, ka, K, kc⟩ := A
  have B0 := hid ((Below.refl w.heap.size w).alloc (Nat.le_refl _) (.cells #[.int .i64 v0, .int .i64 v1, .int .i64 v2, .int .i64 v3, .string x, .slice ka K.length kc] 33))
  have HB := hid (heap_alloc_last w (.cells #[.int .i64 v0, .int .i64 v1, .int .i64 v2, .int .i64 v3, .string x, .slice ka K.length kc] 33))
  have CR := hid (readN v1 v2)
  have CW := hid (writeN v1 v2 x)
  have CF := hid (flushN v1)
  have CC := hid (cutN v1 v3 (.slice ka K.length kc))
  have CX := hid (crashN (.slice ka K.length kc))
  have CO := hid onN
  have CL := hid (layN v1 x)
  have CS := hid (sectorsN v1)
  have CI := hid (imageN v1)
  have CV := hid offN
  show Calls Try.prog 7 #[.agg #[.int .i64 v0, .int .i64 v1, .int .i64 v2, .int .i64 v3, .string x, .slice ka K.length kc]] w _
  generalize K.length = kl at *
  go_enter Try.func7, Try.ntmps7
  go_wp2_with fail
  refine (CR.out _).mono ?_
  rintro e w1 ⟨rfl, rfl⟩
  go_wp2_with fail
  refine (CC.out _).mono ?_
  rintro e w1 ⟨rfl, rfl⟩
  go_wp2_with fail
  refine (CX.out _).mono ?_
  rintro e w1 ⟨rfl, rfl⟩
  go_wp2_with fail
  refine (CO.out _).mono ?_
  rintro e w1 ⟨rfl, rfl⟩
  go_wp2_with fail
  refine (CL.out _).mono ?_
  rintro e w1 ⟨rfl, rfl⟩
  go_wp2_with fail
  refine (wakes _).mono ?_
  rintro e w1 ⟨rfl, b1⟩
  have hb := (b1.block w.heap.size (by simp)).trans HB.out
  have c1 : w1.cell? ⟨w.heap.size, 1, none⟩ = some (.int .i64 v1) := blk_cell (l := [_, _, _, _, _, _]) hb rfl
  have c2 : w1.cell? ⟨w.heap.size, 2, none⟩ = some (.int .i64 v2) := blk_cell (l := [_, _, _, _, _, _]) hb rfl
  have c4 : w1.cell? ⟨w.heap.size, 4, none⟩ = some (.string x) := blk_cell (l := [_, _, _, _, _, _]) hb rfl
  have B1 := hid (B0.out.trans (b1.mono (by simp)))
  clear hb b1 B0 HB
  go_wp2_with fail
  refine (CW.out _).mono ?_
  rintro e w2 ⟨rfl, rfl⟩
  go_wp2_with fail
  refine (CF.out _).mono ?_
  rintro e w2 ⟨rfl, rfl⟩
  go_wp2_with fail
  refine (CS.out _).mono ?_
  rintro e w2 ⟨rfl, rfl⟩
  go_wp2_with fail
  refine (CI.out _).mono ?_
  rintro e w2 ⟨rfl, rfl⟩
  go_wp2_with fail
  refine (CV.out _).mono ?_
  rintro e w2 ⟨rfl, rfl⟩
  go_wp2
  go_ret
  exact ⟨rfl, B1.out⟩

end Go.Proofs.Ytffhnkljmalbiaa.Wd
