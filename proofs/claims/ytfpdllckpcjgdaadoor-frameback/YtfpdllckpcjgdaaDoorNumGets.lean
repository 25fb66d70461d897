/-
  the document's Get, Bytes
-/
import Derived.Test.YtfpdllckpcjgdaaDoorNumGet0
import Derived.Test.YtfpdllckpcjgdaaDoorSameBytes
namespace Go.Proofs.YtfpdllckpcjgdaaDoor
open Go.RowKit

end Go.Proofs.YtfpdllckpcjgdaaDoor
