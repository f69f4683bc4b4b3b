/-
  Two arrays of eight words that hold the same numbers are found alike. Nothing else is said.
-/
import Derived.Test.YtoehnncepboboaaDoorRows
import Derived.Test.YtoehnncepboboaaDoorMathQ
import Derived.WalkKit
import Derived.ProofKit
namespace Go.Proofs.YtoehnncepboboaaDoor.Wh
open Go.RowKit Go.Proofs.YtoehnncepboboaaDoor.M

theorem eqU (d : Nat) (x : Int) (u : World) : (Op.equalIn (d + 1) 25 (.int .u32 x) (.int .u32 x)).run Tryd.prog u = .ok true u := by
  simp [Op.equalIn, run_underlying Tryd.underlying25]

theorem partU (l : List Nat) (i : Nat) (hi : i < l.length) (u : World) : (part 25 (c32 l) i).run Tryd.prog u = .ok (.int .u32 ((l.getD i 0 : Nat) : Int)) u := by
  have h1 := c32_get l i hi
  simp [part, Tryd.isAgg25, h1]

theorem eqArr (d t : Nat) (hu : Tryd.prog.underlying t = some (.array 8 25)) (l : List Nat) (hl : l.length = 8) (u : World) :
    (Op.equalIn (d + 2) t (.agg (c32 l)) (.agg (c32 l))).run Tryd.prog u = .ok true u := by
  have p0 := fun u => partU l 0 (by omega) u
  have p1 := fun u => partU l 1 (by omega) u
  have p2 := fun u => partU l 2 (by omega) u
  have p3 := fun u => partU l 3 (by omega) u
  have p4 := fun u => partU l 4 (by omega) u
  have p5 := fun u => partU l 5 (by omega) u
  have p6 := fun u => partU l 6 (by omega) u
  have p7 := fun u => partU l 7 (by omega) u
  have q := eqU d
  have e8 : List.range' 0 8 = [0, 1, 2, 3, 4, 5, 6, 7] := rfl
  rw [show d + 2 = (d + 1) + 1 from rfl]
  unfold Op.equalIn
  simp [run_underlying hu, Result.andThen, Tryd.sizeOf25, e8, p0, p1, p2, p3, p4, p5, p6, p7, q]

theorem eqStates (l : List Nat) (hl : l.length = 8) (u : World) : (Op.equalIn 10000 28 (.agg (c32 l)) (.agg (c32 l))).run Tryd.prog u = .ok true u :=
  eqArr 9998 28 Tryd.underlying28 l hl u

end Go.Proofs.YtoehnncepboboaaDoor.Wh
