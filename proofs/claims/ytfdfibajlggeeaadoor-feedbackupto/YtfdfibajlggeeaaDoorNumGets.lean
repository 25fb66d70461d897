/-
  the document's Get, Bytes
-/
import Derived.Test.YtfdfibajlggeeaaDoorNumGet0
import Derived.Test.YtfdfibajlggeeaaDoorSameBytes
namespace Go.Proofs.YtfdfibajlggeeaaDoor
open Go.RowKit

end Go.Proofs.YtfdfibajlggeeaaDoor
