/-
  The contracts of the document's own Equal and Less.
-/
import Derived.Test.YtlbilmmjcfiokaaCellEq
namespace Go.Proofs.Ytlbilmmjcfiokaa
open Go.RowKit Go.BigFrame

theorem new_cell (w : World) (xs : List Value) (t : TypeId) : ∀ j u, xs[j]? = some u → (w.alloc (.cells xs.toArray t)).cell? ⟨w.heap.size, j, none⟩ = some u := by
  intro j u hj
  unfold World.cell?
  rw [heap_alloc_new]
  simpa using hj
theorem kept_cell {w w' : World} {b : Nat} {xs : List Value} (h : ∀ j u, xs[j]? = some u → w.cell? ⟨b, j, none⟩ = some u) (hb : Ext w w') : ∀ j u, xs[j]? = some u → w'.cell? ⟨b, j, none⟩ = some u := fun j u hj => by
  have hc := h j u hj
  rw [← hc]
  exact hb.cell (lt_of_cell hc)
theorem cells_two0 (w : World) (xs ys : List Value) (t : TypeId) : ∀ j u, xs[j]? = some u → ((w.alloc (.cells xs.toArray t)).alloc (.cells ys.toArray t)).cell? ⟨w.heap.size, j, none⟩ = some u :=
  kept_cell (new_cell w xs t) (ext_one _ _)
theorem cells_two1 (w : World) (xs ys : List Value) (t : TypeId) : ∀ j u, ys[j]? = some u → ((w.alloc (.cells xs.toArray t)).alloc (.cells ys.toArray t)).cell? ⟨w.heap.size + 1, j, none⟩ = some u := by
  have h := new_cell (w.alloc (.cells xs.toArray t)) ys t
  have e : (w.alloc (.cells xs.toArray t)).heap.size = w.heap.size + 1 := by simp
  rw [e] at h
  exact h
/-- What is there stays, in whatever later world of a statement. -/
theorem later_cell {w : World} {b : Nat} {xs : List Value} (h : ∀ j u, xs[j]? = some u → w.cell? ⟨b, j, none⟩ = some u) (j : Nat) (u : Value) (hj : xs[j]? = some u) : ∀ z : Later Ext w.drew, z.val.cell? ⟨b, j, none⟩ = some u :=
  fun z => kept_cell h (Ext.trans (Ext.drew w) z.ext) j u hj

theorem now_cell {w : World} {b : Nat} {xs : List Value} (h : ∀ j u, xs[j]? = some u → w.cell? ⟨b, j, none⟩ = some u) (j : Nat) (u : Value) (hj : xs[j]? = some u) : ∀ z : Later Ext w, z.val.cell? ⟨b, j, none⟩ = some u :=
  fun z => kept_cell h z.ext j u hj

theorem equalT_eq (a b : V) : equalT a b = knownT a b (decide (a = b)) := by
  unfold equalT
  rw [decide_eq_decide.2 cmpV_zero]

end Go.Proofs.Ytlbilmmjcfiokaa
