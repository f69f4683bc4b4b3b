/-
  The walk of the law AreaParses: it returns true, and nothing that was in memory has turned. Condition: the text's length is an int.
-/
import Derived.Test.YtfmgpglgppihoaaArE
namespace Go.Proofs.Ytfmgpglgppihoaa.War
open Go.ChangeShapes Go.WideShapes Go.ChangeAt Go.RowKit Go.Proofs.Ytfmgpglgppihoaa.M

set_option maxRecDepth 100000 in
theorem parses (s : ByteArray) (w : World) (hs : s.size ≤ 140737488355328) :
    Calls Try.prog 4 #[.string s] w fun e w' => e = .returned (.bool true) ∧ Below w.heap.size w w' := by
  have C : Hid _ := fun w => parse s w (by unfold maxLen; omega)
  have D : Hid _ := fun w => parseRef s w (by unfold maxLen; omega)
  generalize cG s = G at C D
  generalize cI s = I at C D
  generalize cD s = d at C D
  generalize pOk s = k at C D
  unfold cv at C D
  go_enter Try.func4, Try.ntmps4
  go_wp2_with fail
  refine (C.out _).mono ?_
  rintro e w1 ⟨rfl, b1⟩
  go_wp2_with fail
  refine (D.out _).mono ?_
  rintro e w2 ⟨rfl, b2⟩
  go_wp2_with fail
  refine (wakes _).mono ?_
  rintro e w3 ⟨rfl, b3⟩
  have z1 := b1.size
  have z2 := b2.size
  rw [World.size_alloc] at z2
  have R1 : w3.heap[w1.heap.size]? = some (.cells #[.int .i64 G, .int .i64 I, .string d] 27 (0, 0)) := (b3.block _ (by simp <;> omega)).trans ((heap_alloc_old w2 _ (by omega)).trans ((b2.block _ (by simp)).trans (heap_alloc_new w1 _)))
  have R2 : w3.heap[w2.heap.size]? = some (.cells #[.int .i64 G, .int .i64 I, .string d] 30 (0, 0)) := (b3.block _ (by simp)).trans (heap_alloc_new w2 _)
  obtain ⟨r0, r1, r2, rf⟩ := at3 R1
  obtain ⟨k0, k1, k2, kf⟩ := at3 R2
  have B : Hid (Below w.heap.size w w3) := (b1.alloc z1 _).trans (((b2.mono (by simp; omega)).alloc (by omega) _).trans (b3.mono (by simp; omega)))
  clear b1 b2 b3 R1 R2
  go_wp2
  go_ret
  exact ⟨rfl, B.out⟩

end Go.Proofs.Ytfmgpglgppihoaa.War
