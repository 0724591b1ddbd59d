/-
  The contract of the document's own Open.
-/
import Derived.Test.YthelgjoobckbaaaCrcRef
import Derived.BigQuiet
import Derived.Lib.Strings
namespace Go.Proofs.Ythelgjoobckbaaa
open Go.RowKit Go.BigFrame

/-- What is opened. -/
def opens (l : List UInt8) : Bool := decide (4 ≤ l.length) && decide (sumOf l = 0#32)
def opened (l : List UInt8) : List UInt8 := if opens l = true then l.take (l.length - 4) else []
/-- A call that opens. -/
def Opened (w : World) (l : List UInt8) (e : Ending) (w' : World) : Prop := ∃ u, e = .returned (.tuple #[u, .int .i64 (if opens l = true then 0 else 6)]) ∧ Rd w' u (opened l) ∧ Ext w w'

theorem opened_no {w w' : World} {l : List UInt8} (h : opens l = false) (hb : Ext w w') : Opened w l (.returned (.tuple #[.slice none 0 0, .int .i64 6])) w' := by
  refine ⟨.slice none 0 0, ?_, ?_, hb⟩
  · rw [h]; rfl
  · unfold opened; rw [h]; exact Rd.nil _
theorem opened_yes {w w' : World} {l : List UInt8} {u : Value} (h : opens l = true) (hr : Rd w' u (l.take (l.length - 4))) (hb : Ext w w') : Opened w l (.returned (.tuple #[u, .int .i64 0])) w' := by
  refine ⟨u, ?_, ?_, hb⟩
  · rw [h]; rfl
  · unfold opened; rw [h]; exact hr

end Go.Proofs.Ythelgjoobckbaaa
