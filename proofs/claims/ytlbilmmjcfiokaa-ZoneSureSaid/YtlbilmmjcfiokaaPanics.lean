/-
  'panics' of layer 4: what a function's panic is told as.
-/
import Derived.Test.YtlbilmmjcfiokaaProg
import Derived.Test.YtlbilmmjcfiokaaCan
import Derived.Test.YtlbilmmjcfiokaaBase
import Derived.WalkKit
import Derived.Laws.Pointers
import Derived.Defers
import Derived.Recover
namespace Go.Proofs.Ytlbilmmjcfiokaa
open Go.RowKit

theorem bool_block {w w2 : World} {b : Bool} (h : Ext (w.alloc (.cells #[.bool b] 4)) w2) : w2.heap[w.heap.size]? = some (.cells #[.bool b] 4 (0, 0)) := by
  rw [h.block w.heap.size (by simp)]
  exact heap_alloc_new w _

end Go.Proofs.Ytlbilmmjcfiokaa
