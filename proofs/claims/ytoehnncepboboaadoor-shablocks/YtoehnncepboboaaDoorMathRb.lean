/-
  The document's root of sixteen primes, reckoned. Nothing is asked.
-/
import Derived.Test.YtoehnncepboboaaDoorMathRt
namespace Go.Proofs.YtoehnncepboboaaDoor.M

theorem rtsb0 : [59, 61, 67, 71].map rt = [3835390401, 4022224774, 264347078, 604807628] := by decide +kernel
theorem rtsb1 : [73, 79, 83, 89].map rt = [770255983, 1249150122, 1555081692, 1996064986] := by decide +kernel
theorem rtsb2 : [97, 101, 103, 107].map rt = [2554220882, 2821834349, 2952996808, 3210313671] := by decide +kernel
theorem rtsb3 : [109, 113, 127, 131].map rt = [3336571891, 3584528711, 113926993, 338241895] := by decide +kernel

end Go.Proofs.YtoehnncepboboaaDoor.M
