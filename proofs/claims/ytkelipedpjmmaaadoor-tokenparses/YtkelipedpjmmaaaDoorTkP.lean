/-
  The walk of the law TokenParses: it returns true; nothing that was in memory has turned. Conditions: a text that fits a machine; the table of the rounds' numbers holds what it was laid with.
-/
import Derived.Test.YtkelipedpjmmaaaDoorRows
import Derived.Test.YtkelipedpjmmaaaDoorTkH
import Derived.Test.YtkelipedpjmmaaaDoorTkF
namespace Go.Proofs.YtkelipedpjmmaaaDoor.Wtk
open Go.ChangeShapes Go.WideShapes Go.ChangeAt Go.RowKit Go.Proofs.YtkelipedpjmmaaaDoor.M Go.Proofs.YtkelipedpjmmaaaDoor.Wf Go.Proofs.YtkelipedpjmmaaaDoor.Wr Go.Proofs.YtkelipedpjmmaaaDoor.Wh

set_option maxRecDepth 100000 in
set_option maxHeartbeats 4000000 in
theorem parses (s : ByteArray) (w : World) (hs : s.size ≤ 140737488351232) (hT : Tab w) :
    Calls Tryd.prog 3 #[.string s] w fun e w' => e = .returned (.bool true) ∧ Below w.heap.size w w' := by
  have CP := hid (fun W => parse s W (by omega))
  have CR := hid (fun W => parseRef s W (by omega))
  have CW := hid (fun W h => wakes W h)
  have HT := hid hT
  clear hT hs
  generalize tkT s = T at *
  generalize tkN s 0 = m0 at *
  generalize tkN s 1 = m1 at *
  generalize tkN s 2 = m2 at *
  generalize tkN s 3 = m3 at *
  generalize tkE s = E at *
  go_enter Tryd.func3, Tryd.ntmps3
  go_wp2_with fail
  refine (CP.out _).mono ?_
  rintro e w1 ⟨rfl, b1⟩
  go_wp2_with fail
  refine (CR.out _).mono ?_
  rintro e w2 ⟨rfl, b2⟩
  have c1 := hid ((b1.alloc b1.size (.cells #[.int .i64 m0, .int .i64 m1, .int .i64 m2, .int .i64 m3] 23)).trans (b2.mono (by simp; exact Nat.le_succ_of_le b1.size)))
  have bl := hid ((b2.block w1.heap.size (by simp)).trans (heap_alloc_new w1 _))
  have c2 := hid (c1.out.alloc c1.out.size (.cells #[.int .i64 m0, .int .i64 m1, .int .i64 m2, .int .i64 m3] 27))
  have T2 : Hid (Tab (w2.alloc (.cells #[.int .i64 m0, .int .i64 m1, .int .i64 m2, .int .i64 m3] 27))) := HT.out.below c2.out HT.out.pos
  clear b1 b2
  go_wp2_with fail
  refine (CW.out _ T2.out).mono ?_
  rintro e w3 ⟨rfl, b3⟩
  have l1 := lt_of_heap bl.out
  obtain ⟨d0, d1, d2, d3⟩ := four_c ((b3.block w1.heap.size (by simp; omega)).trans ((Below.heap_alloc w2 _ _ l1).trans bl.out))
  obtain ⟨e0, e1, e2, e3⟩ := four_c ((b3.block w2.heap.size (by simp)).trans (heap_alloc_new w2 _))
  have c3 := hid (c2.out.trans (b3.mono c2.out.size))
  clear bl b3 CP CR CW T2 c1 c2
  go_wp2_with fail
  go_ret
  exact ⟨rfl, c3.out⟩

end Go.Proofs.YtkelipedpjmmaaaDoor.Wtk
