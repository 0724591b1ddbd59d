/-
  Rows of values of one's own, the first ones of a row. Over any program.
-/
import Derived.RegionTactic
import Derived.ChangeAlike
import Derived.Lib.SmallJoins
import Derived.Test.YtlbilmmjcfiokaaOnly
import Derived.Test.YtlbilmmjcfiokaaSlices
import Derived.Test.YtlbilmmjcfiokaaVal
namespace Go.Proofs.Ytlbilmmjcfiokaa
open Go.ChangeAt Go.RowKit

theorem Try.info_val : (Try.prog.info? 24).map (fun i => (i.zero, i.size, i.bytes)) = some (some (.agg #[.int .u8 0, .int .i64 0, .string ByteArray.empty]), 3, 32) := by kernel_rfl

theorem val_oneCell (v : V) : ∀ u ∈ v.cells, u.oneCell' = true := by
  intro u hu
  simp only [V.cells, List.mem_cons, List.not_mem_nil, or_false] at hu
  rcases hu with rfl | rfl | rfl <;> rfl
theorem valCells (l : List V) (j : Nat) (hj : j < l.length) (i : Nat) (hi : i < 3) : (l.flatMap V.cells)[j * 3 + i]? = (l[j].cells)[i]? := by
  induction l generalizing j with
  | nil => simp at hj
  | cons a t ih =>
    have hc : a.cells.length = 3 := rfl
    cases j with
    | zero =>
      rw [List.flatMap_cons, Nat.zero_mul, Nat.zero_add, List.getElem?_append_left (by omega)]
      rfl
    | succ j =>
      have h := ih j (by simpa using hj)
      rw [List.flatMap_cons, List.getElem?_append_right (by omega), hc, show (j + 1) * 3 + i - 3 = j * 3 + i by omega]
      exact h
theorem valCells_length (l : List V) : (l.flatMap V.cells).length = l.length * 3 := by
  induction l with
  | nil => rfl
  | cons a t ih => rw [List.flatMap_cons, List.length_append, ih, List.length_cons]; show 3 + _ = _; omega
theorem RdVals.of_owns {E : TypeId} {base : Nat} {w : World} {v : Value} {l : List V} (h : w.ownsRow base E 3 v l.length (l.flatMap V.cells)) : RdVals w v l := by
  rcases h.2 with ⟨h1, h2⟩ | ⟨g, cap, cur, rfl, h2, h3, h4, h5, _⟩
  · obtain rfl := List.length_eq_zero_iff.1 h2
    rw [h1]
    exact RdVals.nil w
  · have hc := fun i u hu => h.cells (g := g) rfl i u hu
    refine ⟨_, cap, rfl, h4, h5, fun j hj => ⟨g, 0, rfl, fun i y hy => ?_⟩⟩
    have hi : i < 3 := (List.getElem?_eq_some_iff.1 hy).1
    have c := hc _ _ ((valCells l j hj i hi).trans hy)
    rw [add_at] at c
    rw [Nat.add_assoc]
    exact c
/-- append(l, v) of a value. -/
theorem wpList_append_val {ops : Array Oper} {rest : List Oper} {o : Oper} {a : Act} {Q : Exit → Act → World → Prop} {w : World} (hgd : o.guard = none) (s x : Operand)
    (ho : o.op = .call { callee := .builtin .append, args := #[s, x], argTypes := #[22, 22] })
    (base : Nat) (v : Value) (ps : List V) (e : V) (hs : a.eval s = v) (hown : w.ownsRow base 24 3 v ps.length (ps.flatMap V.cells))
    (hx : a.eval x = .slice (some ⟨w.heap.size, 0, none⟩) 1 1) (hp : ps.length ≤ 100000000) (hbase : base ≤ w.heap.size)
    (h : ∀ v' w', w'.ownsRow base 24 3 v' (ps ++ [e]).length ((ps ++ [e]).flatMap V.cells) → Below base w w' → OnlyS (fun k => v.ownBlock = some k) w w' → wpList Try.prog ops Q rest (a.put o.dst v') w') :
    wpList Try.prog ops Q (o :: rest) a (w.alloc (.cells e.cells.toArray 24)) := by
  obtain ⟨i0, hi, hz0, hz1, hz2⟩ := info_parts Try.info_val
  have hc := row_new w e.cells 24
  refine wpList_append_own _ hgd s x 22 ho base 24 i0 _ 3 32 Try.underlying22 hi hz0 hz1 hz2 rfl (by decide) v ps.length _ hs (hown.alloc _) ⟨w.heap.size, 0, none⟩ 1 1 e.cells hx rfl hc (val_oneCell e) (by unfold maxLen; omega) (by omega) (by simp; omega) fun v' w' h1 h2 _ => h v' w' ?_ ?_ ?_
  · rw [List.length_append, List.flatMap_append]
    simpa using h1
  · exact (((Below.refl base w).alloc hbase _).grown h2 (by simp; omega) (fun b hb => (hown.lt b hb).1))
  · exact (OnlyS.of_ext (ext_new w _)).trans (OnlyS.of_grown h2) (fun _ _ h => h)
/-- The first ones. -/
theorem RdVals.take {w : World} {ao : Option Addr} {N cap : Nat} {l : List V} (h : RdVals w (.slice ao N cap) l) (K : Nat) (hK : K ≤ N) : RdVals w (.slice ao K cap) (l.take K) := by
  obtain ⟨a', cap', h1, h2, h3, h4⟩ := h
  simp only [Value.slice.injEq] at h1
  obtain ⟨rfl, rfl, rfl⟩ := h1
  have hl : (l.take K).length = K := by rw [List.length_take]; omega
  refine ⟨ao, cap, by rw [hl], by omega, h3, fun j hj => ?_⟩
  rw [List.getElem_take]
  exact h4 j (by omega)
/-- Each value's cells, with the address in parts. -/
theorem RdVals.plain {w : World} {ao : Option Addr} {N cap : Nat} {l : List V} (h : RdVals w (.slice ao N cap) l) : N = l.length ∧ N ≤ cap ∧ cap ≤ maxLen ∧ ∀ j, (hj : j < l.length) → ∃ g off, ao = some ⟨g, off, none⟩ ∧
    w.cell? ⟨g, off + j * 3, none⟩ = some (.int .u8 l[j].k) ∧ w.cell? ⟨g, off + j * 3 + 1, none⟩ = some (.int .i64 l[j].n) ∧ w.cell? ⟨g, off + j * 3 + 2, none⟩ = some (.string ⟨l[j].s.toArray⟩) := by
  obtain ⟨a', cap', h1, h2, h3, h4⟩ := h
  simp only [Value.slice.injEq] at h1
  obtain ⟨rfl, rfl, rfl⟩ := h1
  refine ⟨rfl, h2, h3, fun j hj => ?_⟩
  obtain ⟨g, off, e, hc⟩ := h4 j hj
  exact ⟨g, off, e, hc 0 _ rfl, hc 1 _ rfl, hc 2 _ rfl⟩

end Go.Proofs.Ytlbilmmjcfiokaa
