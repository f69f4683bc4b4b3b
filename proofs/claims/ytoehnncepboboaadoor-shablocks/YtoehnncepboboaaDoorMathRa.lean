/-
  The document's root of sixteen primes, reckoned. Nothing is asked.
-/
import Derived.Test.YtoehnncepboboaaDoorMathRt
namespace Go.Proofs.YtoehnncepboboaaDoor.M

theorem rtsa0 : [2, 3, 5, 7].map rt = [1116352408, 1899447441, 3049323471, 3921009573] := by decide +kernel
theorem rtsa1 : [11, 13, 17, 19].map rt = [961987163, 1508970993, 2453635748, 2870763221] := by decide +kernel
theorem rtsa2 : [23, 29, 31, 37].map rt = [3624381080, 310598401, 607225278, 1426881987] := by decide +kernel
theorem rtsa3 : [41, 43, 47, 53].map rt = [1925078388, 2162078206, 2614888103, 3248222580] := by decide +kernel

end Go.Proofs.YtoehnncepboboaaDoor.M
