/-
  A map from numbers to bools that the call makes: the set of the numbers that it says true of.
-/
import Derived.Test.YthelgjoobckbaaaPagesBoth
import Derived.Maps.OwnOps
import Derived.Maps.Views
namespace Go.Proofs.Ythelgjoobckbaaa
open Go.RowKit Go.BigFrame Go.Maps

theorem plainElem_bool_inv {H : Type} {P : Program} {e : TypeId} (he : P.underlying e = some .bool) {v : Value} {z : DataW H × List MemPlace} (h : plainElem P e v = some z) : ∃ x, v = .bool x ∧ z.1 = .lit (.bool x) := by
  unfold plainElem at h
  rw [he] at h
  split at h
  · cases h; exact ⟨_, rfl, rfl⟩
  · rename_i h1; cases h1
  · rename_i h1; cases h1
  · cases h

theorem ikeyed : Keyed Try.prog 3 := int_keyed Try.underlying3
theorem wf_int {k : Int} (h : -9223372036854775808 ≤ k ∧ k ≤ 9223372036854775807) : (Lit.int .i64 k).wf = true := WalkArith.wf_i64 h
theorem zero_bool (w : World) : (zeroValue 4).run Try.prog w = .ok (.bool false) w := by kernel_rfl

/-- Block b is a map that says true of just these numbers. -/
def MSet (w : World) (b : Nat) (I : List Int) : Prop :=
  ∃ (n : Nat) (D : DataW Unit), w.ownsMap Try.prog 3 (plainElem Try.prog 4) b n D ∧ n ≤ I.length ∧ IsMap D ∧ ∀ k, -9223372036854775808 ≤ k ∧ k ≤ 9223372036854775807 → D.atKey (.int .i64 k) (.lit (.bool false)) = .lit (.bool (decide (k ∈ I)))

theorem MSet.made (w : World) : MSet (w.alloc (.map #[] 0)) w.heap.size [] :=
  ⟨0, .map [], World.ownsMap_made _ _ _ _, Nat.le_refl _, isMap_empty, fun _ _ => rfl⟩
theorem MSet.lt {w : World} {b : Nat} {I : List Int} (h : MSet w b I) : b < w.heap.size := by
  obtain ⟨n, D, h1, _⟩ := h
  exact h1.lt
theorem MSet.same {w w' : World} {b : Nat} {I : List Int} (h : MSet w b I) (hb : w'.heap[b]? = w.heap[b]?) : MSet w' b I := by
  obtain ⟨n, D, ⟨es, clock, h1, h2⟩, h3⟩ := h
  exact ⟨n, D, ⟨es, clock, hb.trans h1, h2⟩, h3⟩
theorem MSet.onlyS {X : Nat → Prop} {w w' : World} {b : Nat} {I : List Int} (h : MSet w b I) (ho : OnlyS X w w') (hx : ¬ X b) : MSet w' b I :=
  h.same (ho.block b h.lt hx)
theorem MSet.look {w : World} {b : Nat} {I : List Int} (h : MSet w b I) (k : Int) (hk : -9223372036854775808 ≤ k ∧ k ≤ 9223372036854775807) :
    (Instr.lookup 45 (.map (some b)) (.int .i64 k) false).run Try.prog w = .ok (.bool (decide (k ∈ I))) w := by
  obtain ⟨n, D, h1, _, _, h4⟩ := h
  obtain ⟨v, ps, hrun, hv⟩ := h1.lookup ikeyed Try.underlying45 (zero_bool w) (plainElem_bool Try.underlying4 false) (keyOf_int_mk Try.underlying3 (wf_int hk))
  obtain ⟨x, rfl, hx⟩ := plainElem_bool_inv Try.underlying4 hv
  rw [hrun]
  simp only at hx
  rw [h4 k hk] at hx
  cases hx
  rfl
theorem MSet.add {w : World} {b : Nat} {I : List Int} (h : MSet w b I) (k : Int) (hk : -9223372036854775808 ≤ k ∧ k ≤ 9223372036854775807) (hl : I.length < maxLen) :
    ∃ w', (Instr.mapUpdate 45 (.map (some b)) (.int .i64 k) (.bool true)).run Try.prog w = .ok () w' ∧ MSet w' b (I ++ [k]) ∧ OnlyS (fun x => x = b) w w' := by
  obtain ⟨n, D, h1, h2, h3, h4⟩ := h
  have hkey := keyOf_int_mk (P := Try.prog) Try.underlying3 (wf_int hk)
  obtain ⟨w', hrun, h5, h6⟩ := h1.update ikeyed Try.underlying45 (Nat.lt_of_le_of_lt h2 hl) hkey (plainElem_bool Try.underlying4 true)
  refine ⟨w', hrun, ⟨n + 1, _, h5, by simp; omega, h3.put _ _, fun j hj => ?_⟩, ⟨h6.os, h6.tape, h6.output, h6.size, fun i hi hx => h6.block i hi (fun e => hx (by cases e; rfl))⟩⟩
  by_cases hjk : j = k
  · subst hjk
    rw [atKey_put_same h3 (ikeyed.key hkey)]
    simp
  · rw [atKey_put_other (by intro e; cases e; exact hjk rfl), h4 j hj]
    simp [hjk]

end Go.Proofs.Ythelgjoobckbaaa
