/-
  The document's root of sixteen primes, reckoned. Nothing is asked.
-/
import Derived.Test.YtoehnncepboboaaDoorMathRt
namespace Go.Proofs.YtoehnncepboboaaDoor.M

theorem rtsc0 : [137, 139, 149, 151].map rt = [666307205, 773529912, 1294757372, 1396182291] := by decide +kernel
theorem rtsc1 : [157, 163, 167, 173].map rt = [1695183700, 1986661051, 2177026350, 2456956037] := by decide +kernel
theorem rtsc2 : [179, 181, 191, 193].map rt = [2730485921, 2820302411, 3259730800, 3345764771] := by decide +kernel
theorem rtsc3 : [197, 199, 211, 223].map rt = [3516065817, 3600352804, 4094571909, 275423344] := by decide +kernel

end Go.Proofs.YtoehnncepboboaaDoor.M
