/-
  utf8.ValidString by the library's contract.
-/
import Derived.Test.YtmlaedhmgkcdpaaDoorLikeKit
import Derived.Test.YtmlaedhmgkcdpaaDoorDoor
import Derived.Shelf.Unicode.ValidAny
namespace Go.Proofs.YtmlaedhmgkcdpaaDoor
open Go.RowKit

theorem valid_any (l : List UInt8) (w : World) (hT : Tabs w) (hl : l.length ≤ 5000) :
    Calls Tryd.prog 22 #[sv l] w fun e w' => e = .returned (.bool (Lib.validD l)) ∧ Below w.heap.size w w' := by
  have e3 : Tryd.laysValid_ren.g 3 = Tryd.laysDecode_ren.g 3 := by kernel_rfl
  have e4 : Tryd.laysValid_ren.g 4 = Tryd.laysDecode_ren.g 4 := by kernel_rfl
  have hT' : Lib.Utf8Tabs (Tryd.laysValid_ren.g 3) (Tryd.laysValid_ren.g 4) w := by rw [e3, e4]; exact hT
  exact Any.utf8_ValidString Tryd.laysValid (⟨l.toArray⟩ : ByteArray) w (by show l.length ≤ _; omega) hT'

end Go.Proofs.YtmlaedhmgkcdpaaDoor
