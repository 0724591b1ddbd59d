/-
  Two values held against each other by ==.
-/
import Derived.Test.YtlbilmmjcfiokaaCellRefC
namespace Go.Proofs.Ytlbilmmjcfiokaa
open Go.RowKit Go.BigFrame

theorem eq_val (a b : V) (w : World) : (binOp .eql 24 a.val b.val).run Try.prog w = .ok (.bool (decide (a = b))) w := by
  obtain ⟨k, n, s⟩ := a
  obtain ⟨k', n', s'⟩ := b
  unfold V.val
  simp only [V.mk.injEq]
  simp [go_sem]
  by_cases h1 : k = k' <;> by_cases h2 : n = n' <;> by_cases h3 : s = s' <;> simp [h1, h2, h3]

end Go.Proofs.Ytlbilmmjcfiokaa
