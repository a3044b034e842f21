/-
  What Needs, Group and Leaves answer, by the document's table; of what was there nothing has changed.
-/
import Derived.Test.YtkpomphjicoaeaaOpRow
namespace Go.Proofs.Ytkpomphjicoaeaa
open Go.RowKit

end Go.Proofs.Ytkpomphjicoaeaa
