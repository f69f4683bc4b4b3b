/-
  The walk of the law PackGets: it returns true. Nothing that was in memory has turned. Conditions: the text's length is at most 2^47.
-/
import Derived.Test.YtdmbpejoekeenaaRefGet
import Derived.Test.YtdmbpejoekeenaaWakes
import Derived.Test.YtdmbpejoekeenaaEqualR
namespace Go.Proofs.Ytdmbpejoekeenaa.Wq
open Go.ChangeShapes Go.WideShapes Go.ChangeAt Go.RowKit Go.Proofs.Ytdmbpejoekeenaa.M Go.Proofs.Ytdmbpejoekeenaa.We Go.Proofs.Ytdmbpejoekeenaa.Wf Go.Proofs.Ytdmbpejoekeenaa.Wr

theorem four' {w : World} {b : Nat} {x0 x1 x2 x3 : Value} {T : TypeId} (h : w.heap[b]? = some (.cells #[x0, x1, x2, x3] T (0, 0))) : w.cell? ⟨b, 0, none⟩ = some x0 ∧ w.cell? ⟨b, 1, none⟩ = some x1 ∧ w.cell? ⟨b, 2, none⟩ = some x2 ∧ w.cell? ⟨b, 3, none⟩ = some x3 := by
  simp [World.cell?, h]

set_option maxHeartbeats 1000000 in
theorem gets (s : ByteArray) (w : World) (hs : s.size ≤ 140737488355328) :
    Calls Try.prog 4 #[.string s] w fun e w' => e = .returned (.bool true) ∧ Below w.heap.size w w' := by
  have hs' : s.size ≤ maxLen := by unfold maxLen; omega
  have CG := hid (fun W => Wr.get s W hs')
  have CR := hid (fun W => Wr.getRef s W hs')
  generalize allR s = r at *
  obtain ⟨vk, vn, vs, vl, hv⟩ : ∃ vk vn vs vl, Wr.valOf r = (⟨vk, vn, vs, vl⟩ : V) := ⟨_, _, _, _, rfl⟩
  rw [hv] at CG CR
  simp only at CG CR
  generalize codeOf r = C at *
  clear hv hs hs'
  go_enter Try.func4, Try.ntmps4
  go_wp2_with fail
  refine (CG.out _).mono ?_
  rintro e w1 ⟨p1, c1, rfl, R1, b1⟩
  go_wp2_with fail
  refine (CR.out _).mono ?_
  rintro e w2 ⟨p2, c2, rfl, R2, b2⟩
  go_wp2_with fail
  refine (Wv.wakes _).mono ?_
  rintro e w3 ⟨rfl, b3⟩
  have s2 : w1.heap.size + 1 ≤ w2.heap.size := by have := b2.size; simpa using this
  have q1 := (b3.block w1.heap.size (by simp; omega)).trans ((Below.heap_alloc w2 (.cells #[.int .i64 vk, .int .i64 vn, .string vs, .slice p2 vl.len c2] 29) w1.heap.size (by omega)).trans ((b2.block w1.heap.size (by simp)).trans (heap_alloc_new w1 _)))
  have q2 := (b3.block w2.heap.size (by simp)).trans (heap_alloc_new w2 _)
  obtain ⟨a0, a1, a2, a3⟩ := four' q1
  obtain ⟨d0, d1, d2, d3⟩ := four' q2
  have A1 := hid (rd_below (rd_below (rd_below (rd_below R1.out ((Below.refl _ _).alloc (Nat.le_refl _) _)) b2) ((Below.refl _ _).alloc (Nat.le_refl _) _)) b3)
  have A2 := hid (rd_below (rd_below R2.out ((Below.refl _ _).alloc (Nat.le_refl _) _)) b3)
  have hB : Hid (Below w.heap.size w w3) := by
    have s1 := b1.size
    exact (((b1.alloc s1 _).trans (b2.mono (by simp; omega))).alloc (by omega) _).trans (b3.mono (by simp; omega))
  clear q1 q2 R1 R2
  go_wp2_with fail
  refine (We.same (vl.nodes + 1) vk vn vs vl _ _ w3 _ _ (Nat.lt_succ_self _) A1.out A2.out).mono ?_
  rintro e w4 ⟨rfl, b4⟩
  go_wp2_with fail
  go_ret
  exact ⟨rfl, hB.out.trans (b4.mono hB.out.size)⟩

end Go.Proofs.Ytdmbpejoekeenaa.Wq
