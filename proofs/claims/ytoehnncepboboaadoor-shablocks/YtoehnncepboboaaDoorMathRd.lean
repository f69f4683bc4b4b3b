/-
  The document's root of sixteen primes, reckoned. Nothing is asked.
-/
import Derived.Test.YtoehnncepboboaaDoorMathRt
namespace Go.Proofs.YtoehnncepboboaaDoor.M

theorem rtsd0 : [227, 229, 233, 239].map rt = [430227734, 506948616, 659060556, 883997877] := by decide +kernel
theorem rtsd1 : [241, 251, 257, 263].map rt = [958139571, 1322822218, 1537002063, 1747873779] := by decide +kernel
theorem rtsd2 : [269, 271, 277, 281].map rt = [1955562222, 2024104815, 2227730452, 2361852424] := by decide +kernel
theorem rtsd3 : [283, 293, 307, 311].map rt = [2428436474, 2756734187, 3204031479, 3329325298] := by decide +kernel

end Go.Proofs.YtoehnncepboboaaDoor.M
