/-
  The program's contracts of layer 5, all of them: New, Alloc, Free, Write, Read, Raw, Flip, Put, Get, Drop, Used, Most, Need.
-/
import Derived.Test.YthelgjoobckbaaaPagesGets
