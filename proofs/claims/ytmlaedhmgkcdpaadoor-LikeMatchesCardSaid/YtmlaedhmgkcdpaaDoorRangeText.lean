/-
  A range over a text, letter by letter (valid UTF-8 or not). Over any program. The end: the library's run_next_end.
-/
import Derived.Test.YtmlaedhmgkcdpaaDoorChars
import Derived.Laws.RangeString
import Derived.Lib.OthersKept
namespace Go.Proofs.YtmlaedhmgkcdpaaDoor
open Go.RowKit

/-- The next letter of a text that is gone through. -/
theorem run_next_letter {P : Program} (w : World) (l : List UInt8) (pos : Nat) (h : pos < l.length) :
    ∃ r : Int, ∀ ty : TypeId, (Instr.next (.pointer (some ⟨w.heap.size, 0, none⟩)) true ty).run P (w.iter ⟨l.toArray⟩ pos) =
      .ok (.tuple #[.bool true, .int .i64 pos, .int .i32 r]) (w.iter ⟨l.toArray⟩ (pos + wid (l.drop pos))) := by
  have h' : pos < (⟨l.toArray⟩ : ByteArray).size := h
  refine ⟨(Lib.decodeL (l.drop pos)).1, fun ty => ?_⟩
  unfold wid
  simp only [Instr.next, getObj, setObj, Sem.run_bind, Sem.run, World.iter_heap, Result.andThen, h', if_true, decode_drop, World.iter_set]
  simp [goInt]

/-- .. in whatever world, the iterator in block k. -/
theorem run_next_letter_at {P : Program} (w : World) (k : Nat) (l : List UInt8) (pos : Nat) (hk : w.heap[k]? = some (.stringIter ⟨l.toArray⟩ pos)) (h : pos < l.length) :
    ∀ ty : TypeId, (Instr.next (.pointer (some ⟨k, 0, none⟩)) true ty).run P w =
      .ok (.tuple #[.bool true, .int .i64 pos, .int .i32 (Lib.decodeL (l.drop pos)).1]) (w.iterAt k ⟨l.toArray⟩ (pos + wid (l.drop pos))) := by
  intro ty
  have := Lib.run_next_any_at (P := P) w k ⟨l.toArray⟩ pos ty hk h
  rw [decode_drop] at this
  exact this

end Go.Proofs.YtmlaedhmgkcdpaaDoor
