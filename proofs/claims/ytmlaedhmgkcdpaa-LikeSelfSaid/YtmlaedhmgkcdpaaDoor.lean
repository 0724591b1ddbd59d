/-
  A seat that lists no tables: nothing is asked of them.
-/
import Derived.Test.YtmlaedhmgkcdpaaProg
import Derived.WalkKit
import Derived.Below
namespace Go.Proofs.Ytmlaedhmgkcdpaa
open Go.RowKit

/-- Nothing. -/
def Tabs (_w : World) : Prop := True
theorem Tabs.mono {w w' : World} (_h : Tabs w) (_hb : Below w.heap.size w w') : Tabs w' := trivial

end Go.Proofs.Ytmlaedhmgkcdpaa
