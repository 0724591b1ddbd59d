/-
  The tables of unicode/utf8 that the rows list: what the walks ask of them, and a world that has them.
-/
import Derived.Test.YtmlaedhmgkcdpaaDoorProg
import Derived.Test.YtmlaedhmgkcdpaaDoorRows
import Derived.WalkKit
import Derived.Below
import Derived.Test.YtmlaedhmgkcdpaaDoorLay
import Derived.Shelf.Unicode.DecodeAny
import Derived.Lib.LaidU8
import Derived.Lib.LaidIn
import Derived.ProofKit
import Derived.LaidMore
namespace Go.Proofs.YtmlaedhmgkcdpaaDoor
open Go.RowKit Go.Shelf Go.Lib

/-- The two tables are there. -/
def Tabs (w : World) : Prop := Lib.Utf8Tabs (Tryd.laysDecode_ren.g 3) (Tryd.laysDecode_ren.g 4) w

def laidTwo : List (String × DataW Unit) := [("unicode/utf8.acceptRanges", Rows.laid_unicode_utf8_acceptRanges), ("unicode/utf8.first", Rows.laid_unicode_utf8_first)]
theorem laid_first : Rows.laid_unicode_utf8_first = Lib.firstData := by kernel_rfl
theorem laid_accept : (Rows.laid_unicode_utf8_acceptRanges : DataW Unit) = Lib.acceptData := by kernel_rfl
theorem laid_plain : (laidTwo.all fun x => x.2.handleName?.isNone) = true := by kernel_rfl

theorem tabs_of {w : World} (h : laidMetH Tryd.prog laidTwo w) : Tabs w := by
  rw [MakeChecks.laidMetH_plain _ _ _ laid_plain] at h
  have h1 := Lib.laidMet.reads h (.head _)
  have h2 := Lib.laidMet.reads h (.tail _ (.head _))
  rw [laid_accept] at h1
  rw [laid_first] at h2
  exact utf8Tabs_of_reads { Tryd.laysDecode with } ⟨by kernel_rfl, by kernel_rfl, by kernel_rfl, by kernel_rfl, by kernel_rfl, by kernel_rfl, by kernel_rfl⟩ h2 h1

/-- A world with the two tables. -/
noncomputable def laidWorld (os : Os) : World :=
  let w0 := World.holding Tryd.prog os ⟨#[], #[], []⟩
  let put (h : Array Obj) (g : Nat) (cs : Array Value) : Array Obj := h.modify g fun
    | .cells _ t frozen => .cells cs t frozen
    | o => o
  let h1 := put w0.heap (Tryd.laysDecode_ren.g 3) (Lib.firstTab.map fun z => Value.int .u8 z).toArray
  let h2 := put h1 (Tryd.laysDecode_ren.g 4) ((List.range 16).flatMap fun i => [Value.int .u8 (Lib.accLo i), Value.int .u8 (Lib.accHi i)]).toArray
  { w0 with heap := h2 }
theorem laid_met (os : Os) (args : Array Value) : laidMetH Tryd.prog laidTwo ((laidWorld os).forCall (fun _ _ => 0) ⟨#[], args, []⟩).memory := by
  rw [MakeChecks.laidMetH_plain _ _ _ laid_plain]
  exact laidMet_of_run' 8 (by kernel_rfl) (by kernel_rfl)

theorem Tabs.mono {w w' : World} (h : Tabs w) (hb : Below w.heap.size w w') : Tabs w' := Go.Proofs.Utf8Tabs_below h hb

end Go.Proofs.YtmlaedhmgkcdpaaDoor
