/-
  The walk of the law PackPuts: it returns true. Nothing that was in memory has turned. Conditions: the items can be read.
-/
import Derived.Test.YtdmbpejoekeenaaLawEq
import Derived.Test.YtdmbpejoekeenaaRefOne
namespace Go.Proofs.Ytdmbpejoekeenaa.Wq
open Go.ChangeShapes Go.WideShapes Go.ChangeAt Go.RowKit Go.Proofs.Ytdmbpejoekeenaa.M Go.Proofs.Ytdmbpejoekeenaa.We Go.Proofs.Ytdmbpejoekeenaa.Wn Go.Proofs.Ytdmbpejoekeenaa.Wf Go.Proofs.Ytdmbpejoekeenaa.Wu

theorem wt1_le {k n : Int} {s : ByteArray} {f : F} (ho : (F.cons k n s f .nil).ok) (hn : f.nodes ≤ 400) : wt1 k n s f.wt ≤ 140737488355328 := by
  have h := wt_nodes ho
  simp only [F.wt, F.nodes] at h
  omega

set_option maxHeartbeats 4000000 in
set_option maxRecDepth 100000 in
theorem puts (p1 : Option Addr) (n1 cap1 : Nat) (w : World) (h1 : Its w p1 n1) :
    Calls Try.prog 3 #[.slice p1 n1 cap1] w fun e w' => e = .returned (.bool true) ∧ Below w.heap.size w w' := by
  have H1 : Hid _ := h1
  clear h1
  go_enter Try.func3, Try.ntmps3
  go_wp2_with fail
  refine (build _ _ _ _ H1.out).mono ?_
  rintro e w1 ⟨k, m, s, f, q1, q2, c1, c2, rfl, r1, r2, ho, hn, b1⟩
  have R1 : Hid _ := r1
  have R2 : Hid _ := r2
  have HO : Hid _ := ho
  have HW : Hid (wt1 k m s f.wt ≤ 140737488355328) := wt1_le ho (by omega)
  clear r1 r2 ho
  go_wp2_with fail
  obtain ⟨X, hX⟩ : ∃ X, X = (w1.alloc (.cells #[.int .i64 k, .int .i64 m, .string s, .slice q1 f.len c1] 26)).alloc (.cells #[.int .i64 k, .int .i64 m, .string s, .slice q2 f.len c2] 29) := ⟨_, rfl⟩
  rw [← hX]
  obtain ⟨x1, x2, x3, x4⟩ := alloc2 _ _ _ X hX
  have bX : Below w.heap.size w X := b1.trans (x4.mono b1.size)
  have X2 : Hid _ := x2
  have X3 : Hid _ := x3
  have X4 : Hid _ := x4
  clear hX x1 x2 x3 x4
  obtain ⟨U, hU⟩ : ∃ U, Hid (U = bytesB (encV k m s f)) := ⟨_, rfl⟩
  obtain ⟨C, hC⟩ : ∃ C, Hid (C = codeOf (encV k m s f)) := ⟨_, rfl⟩
  refine (Wu.put k m s f _ _ _ X HO.out (rd_below R1.out X4.out) HW.out).mono ?_
  rintro e w2 ⟨rfl, b2⟩
  rw [← hU.out, ← hC.out]
  obtain ⟨e0, e1, e2, e3⟩ := four ((b2.block _ (by have := X3.out; omega)).trans X2.out)
  go_wp2_with fail
  refine (Wo.putRef k m s f _ _ w2 HO.out (rd_below (rd_below R2.out X4.out) b2) HW.out).mono ?_
  rintro e w3 ⟨rfl, b3⟩
  rw [← hU.out, ← hC.out]
  clear e0 e1 e2 e3
  go_wp2_with fail
  refine (Wv.wakes w3).mono ?_
  rintro e w4 ⟨rfl, b4⟩
  go_wp2_with fail
  go_ret
  have s2 := b2.size
  have s3 := b3.size
  have sX := bX.size
  exact ⟨rfl, ((bX.trans (b2.mono sX)).trans (b3.mono (by omega))).trans (b4.mono (by omega))⟩

end Go.Proofs.Ytdmbpejoekeenaa.Wq
