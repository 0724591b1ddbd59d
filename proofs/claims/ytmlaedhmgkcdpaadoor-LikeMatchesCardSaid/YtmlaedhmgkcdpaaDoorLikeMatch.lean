/-
  The program's Match.
-/
import Derived.Test.YtmlaedhmgkcdpaaDoorLikeFixed
import Derived.Test.YtmlaedhmgkcdpaaDoorGreedy
import Derived.BigQuiet
namespace Go.Proofs.YtmlaedhmgkcdpaaDoor
open Go.RowKit Go.BigFrame

/-- A slice reads as these elements. -/
def RdE (w : World) (v : Value) (qs : List El) : Prop :=
  ∃ ao cap, v = .slice ao qs.length cap ∧ qs.length ≤ cap ∧ cap ≤ maxLen ∧ ∀ j, (hj : j < qs.length) → ∃ g off, ao = some ⟨g, off, none⟩ ∧ ∀ f, f < 2 → w.cell? ⟨g, off + j * 2 + f, none⟩ = (pC qs[j])[f]?

theorem takes_any (el : El) (he : el ≠ .any) (c : List UInt8) (w : World) :
    Calls Tryd.prog 36 #[.agg (pC el).toArray, sv c] w fun e w' => e = .returned (.bool (tk el c)) ∧ Ext w w' := by
  unfold sv
  cases el with
  | any => exact absurd rfl he
  | one =>
    clear he
    simp only [pC, tk]
    go_enter Tryd.func36, Tryd.ntmps36
    go_wp2_with fail
    go_ret
    exact ⟨rfl, (Below.refl _ w).alloc (Nat.le_refl _) _⟩
  | lit d =>
    clear he
    simp only [pC, tk, sv]
    by_cases hd : d = c
    · subst hd
      rw [decide_eq_true rfl]
      go_enter Tryd.func36, Tryd.ntmps36
      go_wp2_with fail
      go_ret
      exact ⟨rfl, (Below.refl _ w).alloc (Nat.le_refl _) _⟩
    · have q : (d == c) = false := beq_eq_false_iff_ne.2 hd
      rw [decide_eq_false hd]
      clear hd
      go_enter Tryd.func36, Tryd.ntmps36
      go_wp2_with fail
      go_ret
      exact ⟨rfl, (Below.refl _ w).alloc (Nat.le_refl _) _⟩

set_option maxRecDepth 100000 in
set_option maxHeartbeats 1000000 in
theorem onlyAnyMany_any (qs : List El) (v : Value) (w : World) (hv : RdE w v qs) (_hq : qs.length ≤ 5000) :
    Calls Tryd.prog 37 #[v] w fun e w' => e = .returned (.bool (allAny qs)) ∧ Ext w w' := by
  obtain ⟨ao, cap, rfl, hc1, hc2, hcells⟩ := hv
  have HC := Lib.hid hcells
  unfold maxLen at hc2
  clear hcells
  go_enter Tryd.func37, Tryd.ntmps37
  go_wp2_with fail
  go_loopw [4, 7] (fun _ i wr => ∃ j : Nat, j ≤ qs.length ∧ i = .int .i64 j ∧ allAny qs = allAny (qs.drop j) ∧ Ext w wr) (fun _ i _ => qs.length - (intOf i).toNat)
  case atStart => exact ⟨0, Nat.zero_le _, rfl, rfl, Ext.keeps.refl _⟩
  case round =>
    obtain ⟨j, hj, rfl, hall, hext⟩ := hrel
    have HALL := Lib.hid hall
    have HE := Lib.hid hext
    clear hall hext
    by_cases hlt : j < qs.length
    · obtain ⟨g, off, rfl, hf⟩ := HC.out j hlt
      have hf' : ∀ f, f < 2 → wr.cell? ⟨g, off + j * 2 + f, none⟩ = (pC qs[j])[f]? := fun f h => by
        have h0 := hf f h
        obtain ⟨u, hu⟩ : ∃ u, (pC qs[j])[f]? = some u := ⟨_, List.getElem?_eq_getElem (by rw [show (pC qs[j]).length = 2 by cases qs[j] <;> rfl]; exact h)⟩
        rw [hu] at h0 ⊢
        rw [← h0]
        exact HE.out.cell (lt_of_cell h0)
      have HDR := Lib.hid (List.drop_eq_getElem_cons hlt)
      clear hf
      generalize qs[j] = el at hf' HDR
      have hc0 := hf' 0 (by decide)
      have hc1 := hf' 1 (by decide)
      rw [Nat.add_zero] at hc0
      clear hf'
      cases el with
      | any =>
        simp only [pC, List.getElem?_cons_zero, List.getElem?_cons_succ] at hc0 hc1
        go_wp2_with fail
        go_roundw
        case rel => exact ⟨j + 1, by omega, by go_num, by rw [HALL.out, HDR.out]; rfl, HE.out.alloc HE.out.size _⟩
        case measure => simp [intOf]; omega
      | one =>
        simp only [pC, List.getElem?_cons_zero, List.getElem?_cons_succ] at hc0 hc1
        go_wp2_with fail
        go_ret
        exact ⟨by rw [HALL.out, HDR.out]; rfl, HE.out.alloc HE.out.size _⟩
      | lit c =>
        simp only [pC, List.getElem?_cons_zero, List.getElem?_cons_succ] at hc0 hc1
        unfold sv at hc1
        go_wp2_with fail
        go_ret
        exact ⟨by rw [HALL.out, HDR.out]; rfl, HE.out.alloc HE.out.size _⟩
    · have HDN := Lib.hid (show qs.drop j = [] from List.drop_eq_nil_of_le (by omega))
      have hjq : j = qs.length := by omega
      subst hjq
      go_wp2_with fail
      go_ret
      exact ⟨by rw [HALL.out, HDN.out]; rfl, HE.out⟩

/-- What is read there stays so. -/
theorem RdE.mono {w w' : World} {v : Value} {qs : List El} (h : RdE w v qs) (hb : Below w.heap.size w w') : RdE w' v qs := by
  obtain ⟨ao, cap, h1, h2, h3, h4⟩ := h
  refine ⟨ao, cap, h1, h2, h3, fun j hj => ?_⟩
  obtain ⟨g, off, h5, h6⟩ := h4 j hj
  refine ⟨g, off, h5, fun f hf => ?_⟩
  have h0 := h6 f hf
  obtain ⟨u, hu⟩ : ∃ u, (pC qs[j])[f]? = some u := ⟨_, List.getElem?_eq_getElem (by rw [show (pC qs[j]).length = 2 by cases qs[j] <;> rfl]; exact hf)⟩
  rw [hu] at h0 ⊢
  rw [← h0]
  exact hb.cell (lt_of_cell h0)

theorem RdE.of_owns {w : World} {base : Nat} {v : Value} {qs : List El} (h : w.ownsRow base 61 2 v qs.length (qs.flatMap pC)) : RdE w v qs := by
  rcases h.2 with ⟨h1, h2⟩ | ⟨g, cap, cur, h1, h3, h4, h5, h6, h7⟩
  · have : qs = [] := List.length_eq_zero_iff.1 h2
    subst this
    exact ⟨none, 0, h1, Nat.le_refl _, by simp [maxLen], fun j hj => by simp at hj⟩
  · refine ⟨_, cap, h1, h5, h6, fun j hj => ⟨g, 0, rfl, fun f hf => ?_⟩⟩
    subst h1
    rw [Nat.zero_add, h.cellAt _ (by omega), pC_at qs j f hj hf]

end Go.Proofs.YtmlaedhmgkcdpaaDoor
