/-
  What the program's calls of layer 11 answer, all in one place.
-/
import Derived.Test.YtepbdlmpknegiaaDeltaP3
