/-
  What an argument that came in as a value of the document (a struct of a kind, a number, a text) is to a walk.
-/
import Derived.Test.YtlbilmmjcfiokaaOpen
import Derived.Test.YtlbilmmjcfiokaaVal
import Derived.Lib.SmallJoins
namespace Go.Proofs.Ytlbilmmjcfiokaa
open Go.ChangeShapes Go.WideShapes Go.ChangeAt Go.RowKit Go.Joins Go.Deep

section
variable {H : Type} {enc : TypeId × Value → H} {P : Program} {w : World} {base : Nat} {held : Bool}

theorem read_val {r : Reach} {b0 : Nat} {t : TypeId} {f0 f1 f2 : Field} {v : Value} {d : DataW H} {p : List MemPlace} (hs : P.underlying t = some (.struct #[f0, f1, f2])) (h0 : P.underlying f0.type = some (.int .u8)) (h1 : P.underlying f1.type = some (.int .i64)) (h2 : P.underlying f2.type = some .string)
    (hone : oneCellFields P #[f0, f1, f2] = true) (hC : P.cellsOf t = 3)
    (hv : Value.okWide P w r b0 t v) (h : DataW.Trod enc P w base (fun _ => true) held t v d p) :
    ∃ a : V, v = a.val ∧ a.fits ∧ a.s.length ≤ maxLen := by
  obtain ⟨v0, v1, v2, y0, y1, y2, n, rfl, _, _, t0, t1, t2⟩ := open_agg3 hs hone hC hv h
  obtain ⟨z0, e0, _, w0⟩ := DataW.trod_int h0 t0
  obtain ⟨z1, e1, _, w1⟩ := DataW.trod_int h1 t1
  obtain ⟨s, e2, _, w2⟩ := DataW.trod_string h2 t2
  simp only [List.cons.injEq, and_true] at e0 e1 e2
  subst e0 e1 e2
  have b0 := bounds_u8 w0
  have b1 := bounds_i64 w1
  refine ⟨⟨z0, z1, s.data.toList⟩, ?_, ⟨b0.1, b0.2, b1.1, b1.2⟩, ?_⟩
  · unfold V.val
    cases s
    simp
  · show s.data.toList.length ≤ maxLen
    cases s
    simpa [ByteArray.size] using w2

end
end Go.Proofs.Ytlbilmmjcfiokaa
