/-
  The walk of LikeSelf, where no tables are asked.
-/
import Derived.Test.YtmlaedhmgkcdpaaLikeSelf
namespace Go.Proofs.Ytmlaedhmgkcdpaa
open Go.RowKit

theorem likeSelf_walkN (s : ByteArray) (t : ByteArray) (w : World) (hs : s.size ≤ maxLen) (ht : t.size ≤ maxLen) :
    Calls Try.prog 3 #[.string s, .string t] w fun e w' => e = .returned (.bool true) ∧ Below w.heap.size w w' :=
  likeSelf_walk s t w hs ht trivial

end Go.Proofs.Ytmlaedhmgkcdpaa
