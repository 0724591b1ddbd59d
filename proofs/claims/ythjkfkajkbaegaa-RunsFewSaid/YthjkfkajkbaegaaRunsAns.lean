/-
  What the calls of layer 9 answer.
-/
import Derived.Test.YthjkfkajkbaegaaAnswers
import Derived.Test.YthjkfkajkbaegaaSpansMem
import Derived.Test.YthjkfkajkbaegaaRunsTakePure
namespace Go.Proofs.Ythjkfkajkbaegaa
open Go.ChangeAt Go.RowKit

/-- A call answers a number, a run, and whether they are. -/
def AnsAt (w : World) (r : Int × Int × Bool) (e : Ending) (w' : World) : Prop := e = .returned (.tuple #[.int .i64 r.1, .int .i64 r.2.1, .bool r.2.2]) ∧ Ext w w'

end Go.Proofs.Ythjkfkajkbaegaa
