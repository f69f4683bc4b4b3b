/-
  The walk of the law ShaSums: it returns true, and nothing that was in memory has turned. Conditions: the table of the rounds' numbers holds what it was laid with.
-/
import Derived.Test.YtoehnncepboboaaDoorRows
import Derived.Test.YtoehnncepboboaaDoorSWith
import Derived.WalkKit
import Derived.ProofKit
import Derived.OpenShut
namespace Go.Proofs.YtoehnncepboboaaDoor.Wh
open Go.ChangeShapes Go.WideShapes Go.ChangeAt Go.RowKit Go.Proofs.YtoehnncepboboaaDoor.M

theorem least5 (l : Nat) : ∃ n : Nat, min (l : Int) 5000 = (n : Int) ∧ n ≤ 5000 ∧ n ≤ l := ⟨min l 5000, by omega, by omega, by omega⟩

set_option maxRecDepth 100000 in
theorem sums (T : ByteArray) (w : World) (hT : Tab w) :
    Calls Tryd.prog 3 #[.string T] w fun e w' => e = .returned (.bool true) ∧ Below w.heap.size w w' := by
  obtain ⟨n, hn, hn1, hn2⟩ := least5 T.size
  have hes : (T.extract 0 n).size = n := by simp; omega
  have C1 : Hid (∀ w, Tab w → Calls Tryd.prog 7 #[.string (T.extract 0 n)] w fun e w' => e = .returned (.string (dig (T.extract 0 n))) ∧ Below w.heap.size w w') := fun w h => sum _ w (by omega) h
  have C2 : Hid (∀ w, Calls Tryd.prog 8 #[.string (T.extract 0 n)] w fun e w' => e = .returned (.string (dig (T.extract 0 n))) ∧ Below w.heap.size w w') := fun w => sumRef _ w (by omega)
  generalize dig (T.extract 0 n) = D at C1 C2
  have HT : Hid (Tab w) := hT
  clear hT hes
  go_enter Tryd.func3, Tryd.ntmps3
  go_wp2_with fail
  refine (wakes _ HT.out).mono ?_
  rintro e w1 ⟨rfl, b1⟩
  have hT1 : Hid (Tab w1) := HT.out.below b1 HT.out.pos
  go_wp2_with fail
  refine (C1.out _ hT1.out).mono ?_
  rintro e w2 ⟨rfl, b2⟩
  go_wp2_with fail
  refine (C2.out _).mono ?_
  rintro e w3 ⟨rfl, b3⟩
  go_wp2
  go_ret
  exact ⟨rfl, b1.trans ((b2.mono b1.size).trans (b3.mono (Nat.le_trans b1.size b2.size)))⟩

end Go.Proofs.YtoehnncepboboaaDoor.Wh
