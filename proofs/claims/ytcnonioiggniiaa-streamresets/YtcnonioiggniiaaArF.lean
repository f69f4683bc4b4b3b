/-
  The walk of the law AreaParses: it returns true, and nothing that was in memory has turned. Condition: the text's length is an int.
-/
import Derived.Test.YtcnonioiggniiaaArE
namespace Go.Proofs.Ytcnonioiggniiaa.War
open Go.ChangeShapes Go.WideShapes Go.ChangeAt Go.RowKit Go.Proofs.Ytcnonioiggniiaa.M

end Go.Proofs.Ytcnonioiggniiaa.War
