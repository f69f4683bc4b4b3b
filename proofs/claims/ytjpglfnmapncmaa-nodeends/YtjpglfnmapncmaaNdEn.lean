/-
  The law NodeEnds returns true, and nothing that was in memory has turned. Conditions: the numbers fit their kinds; the slices lie in memory.
-/
import Derived.Test.YtjpglfnmapncmaaNdEF
import Derived.Test.YtjpglfnmapncmaaNdEG
namespace Go.Proofs.Ytjpglfnmapncmaa.Wnd
open Go.ChangeShapes Go.WideShapes Go.ChangeAt Go.RowKit Go.Proofs.Ytjpglfnmapncmaa.M Go.Proofs.Ytjpglfnmapncmaa.Wnv

theorem ends (tr : Int) (oa : Option Addr) (on oc : Nat) (ov : Nat → Bool) (ta : Option Addr) (tn tc : Nat) (tv : Nat → Int) (w : World) (h1 : -9223372036854775808 ≤ tr) (h2 : tr < 9223372036854775808) (h3 : on ≤ oc) (h4 : oc ≤ maxLen) (ho : Bls w oa on ov) (h5 : tn ≤ tc) (h6 : tc ≤ maxLen) (ht : Lgs w ta tn tv) :
    Calls Try.prog 6 #[.int .i64 tr, .slice oa on oc, .slice ta tn tc] w fun e w' => e = .returned (.bool true) ∧ Below w.heap.size w w' := by
  by_cases h0 : tr ≤ 0
  · exact ends_fe tr oa on oc ov ta tn tc tv w h0 h1 h2 h3 h4 ho h5 h6 ht
  · exact ends_ge tr oa on oc ov ta tn tc tv w h0 h1 h2 h3 h4 ho h5 h6 ht
end Go.Proofs.Ytjpglfnmapncmaa.Wnd
