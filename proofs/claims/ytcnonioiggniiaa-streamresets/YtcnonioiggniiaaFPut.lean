/-
  The walks of frame.Put and of the document's Put: each returns the frame and the error that 'frB', 'frE' say, and nothing that was in memory has turned. Condition: the text's length is an int.
-/
import Derived.Test.YtcnonioiggniiaaRows
import Derived.Test.YtcnonioiggniiaaPa
import Derived.Test.YtcnonioiggniiaaPut
import Derived.Test.YtcnonioiggniiaaSum
import Derived.WalkKit
import Derived.ProofKit
import Derived.OpenShut
import Derived.Laws.Closers25
namespace Go.Proofs.Ytcnonioiggniiaa.Wf
open Go.ChangeShapes Go.WideShapes Go.ChangeAt Go.RowKit Go.Proofs.Ytcnonioiggniiaa.M

theorem none_of {b : ByteArray} (h : b.size = 0) : b = ⟨#[]⟩ := by
  apply ByteArray.ext
  exact Array.eq_empty_of_size_eq_zero h

theorem full_of {b : ByteArray} (h : ¬ b.size = 0) : b.toList.isEmpty = false := by
  have e := decide_eq_emptyBytes b
  rw [← e]
  exact decide_eq_false fun h2 => h (by rw [h2]; rfl)

theorem put (b : ByteArray) (w : World) (hs : b.size ≤ maxLen) :
    Calls Try.prog 36 #[.string b] w fun e w' => e = .returned (.tuple #[.string (frB b), .int .i64 (frE b)]) ∧ Below w.heap.size w w' := by
  unfold maxLen at hs
  by_cases c0 : b.size = 0
  · obtain ⟨e1, e2⟩ := fr_none c0
    rw [e1, e2, none_of c0]
    clear e1 e2 c0 hs
    go_enter Try.func36, Try.ntmps36
    go_wp2
    go_ret2
    exact ⟨rfl, Below.refl _ _⟩
  · have hne := full_of c0
    by_cases c1 : 4096 < b.size
    · obtain ⟨e1, e2⟩ := fr_long c0 c1
      rw [e1, e2]
      clear e1 e2
      go_enter Try.func36, Try.ntmps36
      go_wp2
      go_ret2
      exact ⟨rfl, Below.refl _ _⟩
    · obtain ⟨e1, e2⟩ := fr_ok c0 c1
      rw [e1, e2]
      clear e1 e2
      have E : Hid (fr b = two b ++ beB 4 (crc (two b ++ b) : Int) ++ b) := rfl
      have C1 : Hid (∀ w, Calls Try.prog 53 #[.int .i64 2, .int .u64 (b.size : Int)] w fun e w' => e = .returned (.string (two b)) ∧ Below w.heap.size w w') := fun w => Wp.putAny 2 (b.size : Int) w (by omega) (by omega)
      have hz := two_size b
      generalize two b = t at E C1 hz
      have C2 : Hid _ := fun w => Ws.frameSum t b w (by unfold maxLen; omega) (by unfold maxLen; omega)
      have hk := crc_lt (t ++ b)
      generalize crc (t ++ b) = k at C2 hk E
      have C3 : Hid (∀ w, Calls Try.prog 53 #[.int .i64 4, .int .u64 (k : Int)] w fun e w' => e = .returned (.string (beB 4 (k : Int))) ∧ Below w.heap.size w w') := fun w => Wp.putAny 4 (k : Int) w (by omega) (by omega)
      have hz4 := beB_size 4 (k : Int)
      generalize beB 4 (k : Int) = u at C3 E hz4
      go_enter Try.func36, Try.ntmps36
      go_wp2_with fail
      refine (C1.out _).mono ?_
      rintro e w1 ⟨rfl, b1⟩
      go_wp2_with fail
      refine (C2.out _).mono ?_
      rintro e w2 ⟨rfl, rfl⟩
      go_wp2_with fail
      refine (C3.out _).mono ?_
      rintro e w3 ⟨rfl, b3⟩
      go_wp2
      go_ret2
      exact ⟨by rw [E.out]; rfl, b1.trans (b3.mono b1.size)⟩

end Go.Proofs.Ytcnonioiggniiaa.Wf
