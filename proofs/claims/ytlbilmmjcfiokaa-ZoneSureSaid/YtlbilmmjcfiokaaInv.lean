/-
  A statement that leaves its order open, by what is true at each point of it: one step for each operation, not one walk for each order. Over any program.
-/
import Derived.Test.YtlbilmmjcfiokaaCan
namespace Go.Proofs.Ytlbilmmjcfiokaa
open Go.RowKit

section
variable {P : Program} {ops : Array Oper} {Q : Exit → Act → World → Prop} {md : Region.Mode}

theorem count_set_false (l : List Bool) (i : Nat) (h : l[i]? = some false) : (l.set i true).count false + 1 = l.count false := by
  induction l generalizing i with
  | nil => simp at h
  | cons b l ih =>
    cases i with
    | zero =>
      simp only [List.getElem?_cons_zero, Option.some.injEq] at h
      subst h
      simp [List.set]
    | succ i =>
      have e := ih i (by simpa using h)
      simp only [List.set, List.count_cons]
      omega
theorem ready_none {l : Array Bool} (h : l.toList.count false = 0) : Region.ready md ops l = [] := by
  refine List.eq_nil_iff_forall_not_mem.2 fun j hj => ?_
  have h0 := (mem_ready.1 hj).1
  by_cases hlt : j < l.size
  · rw [Array.getD_eq_getD_getElem?, Array.getElem?_eq_getElem hlt, Option.getD_some] at h0
    have hm : false ∈ l.toList := by
      rw [← h0]
      exact List.getElem_mem (by simpa using hlt)
    have := List.count_pos_iff.2 hm
    omega
  · rw [Array.getD_eq_getD_getElem?, Array.getElem?_eq_none (by omega), Option.getD_none] at h0
    cases h0
/-- What is true at each point (I), kept by each operation that may come up, whichever the order. -/
theorem any_inv (I : Array Bool → Act → World → Prop) (hend : ∀ l a w, I l a w → Region.ready md ops l = [] → Q .normal a w)
    (hstep : ∀ l a w i, I l a w → i ∈ Region.ready md ops l → wpOp P ops Q i (fun a' w' => I (l.setIfInBounds i true) a' w') a w) :
    ∀ (fuel : Nat) (l : Array Bool) (a : Act) (w : World), I l a w → l.toList.count false ≤ fuel → wpAny P md ops Q fuel l a w
  | 0, l, a, w, h, hc => by
    have hr : Region.ready md ops l = [] := ready_none (by omega)
    exact ⟨hr, hend l a w h hr⟩
  | fuel + 1, l, a, w, h, hc => ⟨fun hr => hend l a w h hr, fun i hi => wpOp_mono (fun a' w' h' => any_inv I hend hstep fuel _ a' w' h' (by
      have h0 := (mem_ready.1 hi).1
      have hlt : i < l.size := by
        rcases Nat.lt_or_ge i l.size with hlt | hge
        · exact hlt
        · rw [Array.getD_eq_getD_getElem?, Array.getElem?_eq_none hge, Option.getD_none] at h0
          cases h0
      rw [Array.getD_eq_getD_getElem?, Array.getElem?_eq_getElem hlt, Option.getD_some] at h0
      have e := count_set_false l.toList i (by rw [Array.getElem?_toList, Array.getElem?_eq_getElem hlt, h0])
      rw [Array.toList_setIfInBounds]
      omega)) (hstep l a w i h hi)⟩

/-- The slots ds hold xs. -/
def upd (a : Act) (ds : List Nat) (xs : List Value) : Act := { a with tmps := (ds.zip xs).foldl (fun t p => t.setIfInBounds p.1 p.2) a.tmps }

/-- A region that draws its order, by what is true at each point: F says it of the operations that have come up, of what the slots ds hold, of the world. -/
theorem wp_region_inv {id : Nat} {a : Act} {w : World} {l : List Oper} (ds : List Nat) (F : Array Bool → List Value → World → Prop) (xs0 : List Value) (hm : P.follows .mixedOrders = true)
    (h0 : upd a ds xs0 = a) (hstart : F (Array.replicate l.length false) xs0 w.drew)
    (hend : ∀ ls xs w', F ls xs w' → Region.ready .any l.toArray ls = [] → Q .normal (upd a ds xs) w')
    (hstep : ∀ ls xs w' i, F ls xs w' → i ∈ Region.ready .any l.toArray ls → wpOp P l.toArray Q i (fun a' w'' => ∃ xs', a' = upd a ds xs' ∧ F (ls.setIfInBounds i true) xs' w'') (upd a ds xs) w') :
    (Code.region id l.toArray true).wp P Q a w := by
  refine wp_region_any hm ?_
  refine any_inv (fun ls a' w' => ∃ xs, a' = upd a ds xs ∧ F ls xs w') ?_ ?_ _ _ _ _ ⟨xs0, h0.symm, ?_⟩ ?_
  · rintro ls a' w' ⟨xs, rfl, h⟩ hr
    exact hend ls xs w' h hr
  · rintro ls a' w' i ⟨xs, rfl, h⟩ hi
    exact hstep ls xs w' i h hi
  · have e : l.toArray.size = l.length := rfl
    rw [e]
    exact hstart
  · have e : l.toArray.size = l.length := rfl
    rw [e]
    simp

end
end Go.Proofs.Ytlbilmmjcfiokaa
