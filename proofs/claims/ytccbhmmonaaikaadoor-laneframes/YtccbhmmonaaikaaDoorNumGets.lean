/-
  the document's Get, Bytes
-/
import Derived.Test.YtccbhmmonaaikaaDoorNumGet0
import Derived.Test.YtccbhmmonaaikaaDoorSameBytes
namespace Go.Proofs.YtccbhmmonaaikaaDoor
open Go.RowKit

end Go.Proofs.YtccbhmmonaaikaaDoor
