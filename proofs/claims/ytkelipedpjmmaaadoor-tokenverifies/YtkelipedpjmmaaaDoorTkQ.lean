/-
  The walk of the law TokenVerifies: it returns true; nothing that was in memory has turned. Conditions: texts that fit a machine, numbers that fit their kinds; the table of the rounds' numbers holds what it was laid with.
-/
import Derived.Test.YtkelipedpjmmaaaDoorRows
import Derived.Test.YtkelipedpjmmaaaDoorTkI
import Derived.Test.YtkelipedpjmmaaaDoorTkG
import Derived.Test.YtkelipedpjmmaaaDoorQe
import Derived.Lib.MinMax
namespace Go.Proofs.YtkelipedpjmmaaaDoor.Wtk
open Go.ChangeShapes Go.WideShapes Go.ChangeAt Go.RowKit Go.Proofs.YtkelipedpjmmaaaDoor.M Go.Proofs.YtkelipedpjmmaaaDoor.Wf Go.Proofs.YtkelipedpjmmaaaDoor.Wr Go.Proofs.YtkelipedpjmmaaaDoor.Wh

theorem least500 (l : Nat) : ∃ n : Nat, min (l : Int) 500 = (n : Int) ∧ n ≤ 500 ∧ n ≤ l := ⟨min l 500, by omega, by omega, by omega⟩
theorem least2000 (l : Nat) : ∃ n : Nat, min (l : Int) 2000 = (n : Int) ∧ n ≤ 2000 ∧ n ≤ l := ⟨min l 2000, by omega, by omega, by omega⟩
/-- What is asked lies in its cell. -/
def Xs (w : World) (K : ByteArray) (now ep : Int) (W : World) : Prop := W.heap[w.heap.size]? = some (.cells #[.string K, .int .i64 now, .int .i64 ep] 33 (0, 0)) ∧ Below w.heap.size w W
theorem xs_start (w : World) (K : ByteArray) (now ep : Int) : Xs w K now ep (w.alloc (.cells #[.string K, .int .i64 now, .int .i64 ep] 33)) := ⟨heap_alloc_new w _, (Below.refl w.heap.size w).alloc (Nat.le_refl _) _⟩
theorem Xs.below {w W W' : World} {K : ByteArray} {now ep : Int} (h : Xs w K now ep W) (b : Below W.heap.size W W') : Xs w K now ep W' := ⟨(b.block _ (lt_of_heap h.1)).trans h.1, h.2.trans (b.mono h.2.size)⟩
theorem Xs.alloc {w W : World} {K : ByteArray} {now ep : Int} (h : Xs w K now ep W) (o : Obj) : Xs w K now ep (W.alloc o) := h.below ((Below.refl _ _).alloc (Nat.le_refl _) _)
theorem Xs.cells {w W : World} {K : ByteArray} {now ep : Int} (h : Xs w K now ep W) : W.cell? ⟨w.heap.size, 0, none⟩ = some (.string K) ∧ W.cell? ⟨w.heap.size, 1, none⟩ = some (.int .i64 now) ∧ W.cell? ⟨w.heap.size, 2, none⟩ = some (.int .i64 ep) ∧ w.heap.size < W.heap.size := by
  obtain ⟨h, _⟩ := h
  exact ⟨by simp [World.cell?, h], by simp [World.cell?, h], by simp [World.cell?, h], lt_of_heap h⟩

set_option maxRecDepth 100000 in
set_option maxHeartbeats 4000000 in
theorem verifies (s K : ByteArray) (now ep : Int) (w : World) (_ : s.size ≤ 140737488351232) (_ : K.size ≤ 140737488351232) (_ : I6 now) (_ : I6 ep) (hT : Tab w) :
    Calls Tryd.prog 4 #[.string s, .agg #[.string K, .int .i64 now, .int .i64 ep]] w fun e w' => e = .returned (.bool true) ∧ Below w.heap.size w w' := by
  obtain ⟨n, hn, hn1, hn2⟩ := least500 K.size
  obtain ⟨m, hm, hm1, hm2⟩ := least2000 s.size
  have h1 : (K.extract 0 n).size = n := by simp; omega
  have h2 : (s.extract 0 m).size = m := by simp; omega
  have CP := hid (fun W h => verify (K.extract 0 n) (s.extract 0 m) now ep W (by omega) (by omega) h)
  have CR := hid (fun W => verifyRef (K.extract 0 n) (s.extract 0 m) now ep W (by omega) (by omega))
  have CW := hid (fun W h => wakes W h)
  have HT := hid hT
  clear hT h1 h2
  generalize vfN (K.extract 0 n) (s.extract 0 m) now ep 0 = m0 at *
  generalize vfN (K.extract 0 n) (s.extract 0 m) now ep 1 = m1 at *
  generalize vfN (K.extract 0 n) (s.extract 0 m) now ep 2 = m2 at *
  generalize vfN (K.extract 0 n) (s.extract 0 m) now ep 3 = m3 at *
  generalize vfE (K.extract 0 n) (s.extract 0 m) now ep = E at *
  go_enter Tryd.func4, Tryd.ntmps4
  have X0 := hid (xs_start w (K.extract 0 n) now ep)
  have T0 : Hid (Tab (w.alloc (.cells #[.string (K.extract 0 n), .int .i64 now, .int .i64 ep] 33))) := HT.out.below X0.out.2 HT.out.pos
  go_wp2_with fail
  refine (CP.out _ T0.out).mono ?_
  rintro e w1 ⟨rfl, b1⟩
  have X1 := hid ((X0.out.below b1).alloc (.cells #[.int .i64 m0, .int .i64 m1, .int .i64 m2, .int .i64 m3] 23))
  have bl0 := hid (heap_alloc_new w1 (.cells #[.int .i64 m0, .int .i64 m1, .int .i64 m2, .int .i64 m3] 23))
  obtain ⟨x0, x1, x2, xl⟩ := (X0.out.below b1).cells
  clear X0 T0 b1
  go_wp2_with fail
  refine (CR.out _).mono ?_
  rintro e w2 ⟨rfl, b2⟩
  have X2 := hid ((X1.out.below b2).alloc (.cells #[.int .i64 m0, .int .i64 m1, .int .i64 m2, .int .i64 m3] 27))
  have bl := hid ((b2.block w1.heap.size (by simp)).trans bl0.out)
  have T2 : Hid (Tab (w2.alloc (.cells #[.int .i64 m0, .int .i64 m1, .int .i64 m2, .int .i64 m3] 27))) := HT.out.below X2.out.2 HT.out.pos
  clear b2 bl0 X1 x0 x1 x2 xl
  go_wp2_with fail
  refine (CW.out _ T2.out).mono ?_
  rintro e w3 ⟨rfl, b3⟩
  have l1 := lt_of_heap bl.out
  obtain ⟨d0, d1, d2, d3⟩ := four_c ((b3.block w1.heap.size (by simp; omega)).trans ((Below.heap_alloc w2 _ _ l1).trans bl.out))
  obtain ⟨e0, e1, e2, e3⟩ := four_c ((b3.block w2.heap.size (by simp)).trans (heap_alloc_new w2 _))
  have c3 := hid ((X2.out.below b3).2)
  clear bl b3 CP CR CW T2 X2
  go_wp2_with fail
  go_ret
  exact ⟨rfl, c3.out⟩

end Go.Proofs.YtkelipedpjmmaaaDoor.Wtk
