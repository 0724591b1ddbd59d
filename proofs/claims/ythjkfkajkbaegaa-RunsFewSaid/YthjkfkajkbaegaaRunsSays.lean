/-
  All that the program's calls of layer 9 answer.
-/
import Derived.Test.YthjkfkajkbaegaaRunsP7
namespace Go.Proofs.Ythjkfkajkbaegaa

end Go.Proofs.Ythjkfkajkbaegaa
