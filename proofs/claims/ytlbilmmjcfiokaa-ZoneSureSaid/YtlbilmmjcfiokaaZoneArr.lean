/-
  The walk of the law ZoneSure: the statement that makes three arrays.
-/
import Derived.Test.YtlbilmmjcfiokaaZoneEx
import Derived.Test.YtlbilmmjcfiokaaZoneP5
import Derived.Test.YtlbilmmjcfiokaaInv
namespace Go.Proofs.Ytlbilmmjcfiokaa
open Go.RowKit Go.BigFrame

def tripL (t : Bool × Bool × Bool) : List Value := [.bool t.1, .bool t.2.1, .bool t.2.2]
/-- An array made here, stored or not yet. -/
def Al (N : Nat) (b c : Bool) (x : Value) (t : Bool × Bool × Bool) (W : World) : Prop :=
  b = true → ∃ g, x = .pointer (some ⟨g, 0, none⟩) ∧ N ≤ g ∧ Blk W g (if c = true then tripL t else tripL (false, false, false)) 40
theorem Al.ext {N : Nat} {b c : Bool} {x : Value} {t : Bool × Bool × Bool} {W W' : World} (h : Al N b c x t W) (hx : Ext W W') : Al N b c x t W' := fun hb => by
  obtain ⟨g, h1, h2, h3⟩ := h hb
  exact ⟨g, h1, h2, h3.ext hx⟩
theorem Al.ne {N : Nat} {b c : Bool} {x : Value} {t : Bool × Bool × Bool} {W : World} (h : Al N b c x t W) (hb : b = true) : x ≠ .pointer (some ⟨W.heap.size, 0, none⟩) := fun e => by
  obtain ⟨g, h1, h2, h3⟩ := h hb
  rw [h1] at e
  simp only [Value.pointer.injEq, Option.some.injEq, Addr.mk.injEq, and_true] at e
  have := h3.lt
  omega
theorem Al.new {N : Nat} {c : Bool} {t : Bool × Bool × Bool} {W : World} (hN : N ≤ W.heap.size) (hc : c = false) : Al N true c (.pointer (some ⟨W.heap.size, 0, none⟩)) t (W.alloc (.cells #[.bool false, .bool false, .bool false] 40)) := fun _ => ⟨_, rfl, hN, by
  subst hc
  exact Blk.new W (tripL (false, false, false)) _⟩
def put3 (W : World) (g : Nat) (t : Bool × Bool × Bool) : World := ((W.setCell ⟨g, 0, none⟩ (.bool t.1)).setCell ⟨g, 1, none⟩ (.bool t.2.1)).setCell ⟨g, 2, none⟩ (.bool t.2.2)
theorem Al.beside {N : Nat} {b c : Bool} {x : Value} {t s : Bool × Bool × Bool} {W : World} {g : Nat} (h : Al N b c x t W) (hne : b = true → x ≠ .pointer (some ⟨g, 0, none⟩)) : Al N b c x t (put3 W g s) := fun hb => by
  obtain ⟨g', h1, h2, h3⟩ := h hb
  have hg : g' ≠ g := fun e => hne hb (by rw [h1, e])
  exact ⟨g', h1, h2, ((h3.beside hg _ _).beside hg _ _).beside hg _ _⟩
theorem Al.stored {N : Nat} {c : Bool} {t : Bool × Bool × Bool} {W : World} {g : Nat} (hN : N ≤ g) (h : Blk W g (if c = true then tripL t else tripL (false, false, false)) 40) : Al N true true (.pointer (some ⟨g, 0, none⟩)) t (put3 W g t) := fun _ => ⟨g, rfl, hN, by
  cases c
  · exact ((h.set 0 (.bool t.1)).set 1 (.bool t.2.1)).set 2 (.bool t.2.2)
  · exact ((h.set 0 (.bool t.1)).set 1 (.bool t.2.1)).set 2 (.bool t.2.2)⟩
theorem ext_put3 {N : Nat} {w W : World} {g : Nat} (h : Below N w W) (hg : N ≤ g) (t : Bool × Bool × Bool) : Below N w (put3 W g t) := Below.setCell (Below.setCell (Below.setCell h hg _) hg _) hg _

/-- What is true at each point of that statement. -/
def SureF (W0 : World) (Zv Vv : Value) (t1 t2 t3 : Bool × Bool × Bool) (ls : Array Bool) (xs : List Value) (W : World) : Prop :=
  ∃ (b0 b1 b2 b3 b4 b5 b6 b7 b8 b9 b10 b11 b12 b13 : Bool) (x0 x1 x2 x3 x4 x5 x6 x7 x8 x9 x10 : Value),
    ls = #[b0, b1, b2, b3, b4, b5, b6, b7, b8, b9, b10, b11, b12, b13] ∧ xs = [x0, x1, x2, x3, x4, x5, x6, x7, x8, x9, x10] ∧ Ext W0 W ∧ (b0 = true → x0 = Zv) ∧ (b1 = true → x1 = Vv) ∧ (b2 = true → x2 = tripV t1) ∧ (b3 = true → x3 = Zv) ∧ (b4 = true → x4 = Vv) ∧ (b5 = true → x5 = tripV t2) ∧ (b6 = true → x6 = Zv) ∧ (b7 = true → x7 = tripV t3) ∧
    Al W0.heap.size b8 b11 x8 t1 W ∧ Al W0.heap.size b9 b12 x9 t2 W ∧ Al W0.heap.size b10 b13 x10 t3 W ∧ ((b8 = true → b9 = true → x8 ≠ x9) ∧ (b8 = true → b10 = true → x8 ≠ x10) ∧ (b9 = true → b10 = true → x9 ≠ x10)) ∧ (b11 = true → b8 = true) ∧ (b12 = true → b9 = true) ∧ (b13 = true → b10 = true)

end Go.Proofs.Ytlbilmmjcfiokaa
