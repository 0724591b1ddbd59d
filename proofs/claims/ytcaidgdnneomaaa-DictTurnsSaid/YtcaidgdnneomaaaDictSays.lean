/-
  All that the program's calls of layer 10 answer.
-/
import Derived.Test.YtcaidgdnneomaaaDictP6
