/-
  What is in both, in one of both, in the first alone: the mathematics of the laws.
-/
import Derived.Test.YthiijhdgbnpihaaSpansTell
namespace Go.Proofs.Ythiijhdgbnpihaa

theorem bothS_right {a b : List Sp} (ha : rightSp a = true) (hb : rightSp b = true) (op : Bool → Bool → Bool) : bothS a b op = (normS fun k => op (inB a k) (inB b k), 0) := by
  unfold bothS
  rw [if_pos ⟨ha, hb⟩]
theorem bothS_wrong {a b : List Sp} (h : ¬ (rightSp a = true ∧ rightSp b = true)) (op : Bool → Bool → Bool) : bothS a b op = ([], 1) := by
  unfold bothS
  rw [if_neg h]
theorem listS_norm (f : Int → Bool) : listS (normS f) = places f := by
  unfold listS
  rw [if_pos (rightSp_norm f)]
  refine places_congr fun k h0 h1 => ?_
  rw [norm_mem]
  exact ⟨fun h => h.2.2, fun h => ⟨h0, h1, h⟩⟩
theorem listS_right {x : List Sp} (h : rightSp x = true) : listS x = places (inB x) := by
  unfold listS
  rw [if_pos h]
theorem inB_norm {f : Int → Bool} {k : Int} (h0 : 0 ≤ k) (h1 : k < 4096) : inB (normS f) k = f k := by
  have h := norm_mem f k
  cases hf : f k with
  | true => exact h.2 ⟨h0, h1, hf⟩
  | false =>
    cases hi : inB (normS f) k with
    | false => rfl
    | true => rw [(h.1 hi).2.2] at hf; cases hf
theorem norm_ext {f g : Int → Bool} (h : ∀ k, 0 ≤ k → k < 4096 → f k = g k) : normS f = normS g := norm_congr fun k h0 h1 => by rw [h k h0 h1]

/-- What the laws' calls answer of two lists that may be. -/
theorem laws_both {x y : List Sp} (hx : rightSp x = true) (hy : rightSp y = true) :
    ∃ b o r, andS x y = (b, 0) ∧ andS y x = (b, 0) ∧ orS x y = (o, 0) ∧ orS y x = (o, 0) ∧ minusS x y = (r, 0) ∧ orS b r = (x, 0) ∧ andS r y = ([], 0) ∧
      (listS b).length + (listS o).length = (listS x).length + (listS y).length ∧ (b = [] ∨ ∃ f, b = normS f) ∧ (o = [] ∨ ∃ f, o = normS f) ∧ (r = [] ∨ ∃ f, r = normS f) := by
  refine ⟨normS fun k => inB x k && inB y k, normS fun k => inB x k || inB y k, normS fun k => inB x k && !inB y k, bothS_right hx hy _, ?_, bothS_right hx hy _, ?_, bothS_right hx hy _, ?_, ?_, ?_, .inr ⟨_, rfl⟩, .inr ⟨_, rfl⟩, .inr ⟨_, rfl⟩⟩
  · unfold andS
    rw [bothS_right hy hx]
    exact congrArg (·, 0) (norm_ext fun k _ _ => Bool.and_comm _ _)
  · unfold orS
    rw [bothS_right hy hx]
    exact congrArg (·, 0) (norm_ext fun k _ _ => Bool.or_comm _ _)
  · unfold orS
    rw [bothS_right (rightSp_norm _) (rightSp_norm _)]
    refine congrArg (·, 0) ((norm_ext fun k h0 h1 => ?_).trans (norm_in (of_decide_eq_true hx)))
    rw [inB_norm h0 h1, inB_norm h0 h1]
    cases inB x k <;> cases inB y k <;> rfl
  · unfold andS
    rw [bothS_right (rightSp_norm _) hy]
    refine congrArg (·, 0) (norm_nil fun k h0 h1 => ?_)
    rw [inB_norm h0 h1]
    cases inB x k <;> cases inB y k <;> rfl
  · rw [listS_norm, listS_norm, listS_right hx, listS_right hy]
    exact places_count _ _

/-- What the laws' calls answer of a list that may be, turned about. -/
theorem laws_turn {x : List Sp} (hx : rightSp x = true) :
    ∃ y, minusS [⟨0, 4096⟩] x = (y, 0) ∧ minusS [⟨0, 4096⟩] y = (x, 0) ∧ andS x y = ([], 0) ∧ orS x y = ([⟨0, 4096⟩], 0) ∧ (listS x).length + (listS y).length = 4096 ∧ (y = [] ∨ ∃ f, y = normS f) := by
  have hall : rightSp [(⟨0, 4096⟩ : Sp)] = true := by decide
  have hin : ∀ k : Int, 0 ≤ k → k < 4096 → inB [(⟨0, 4096⟩ : Sp)] k = true := fun k h0 h1 => inB_iff.2 ⟨⟨0, 4096⟩, by simp, h0, h1⟩
  have hr := rightSp_norm (fun k => inB [(⟨0, 4096⟩ : Sp)] k && !inB x k)
  refine ⟨normS fun k => inB [⟨0, 4096⟩] k && !inB x k, bothS_right hall hx _, ?_, ?_, ?_, ?_, .inr ⟨_, rfl⟩⟩
  · unfold minusS
    rw [bothS_right hall hr]
    refine congrArg (·, 0) ((norm_ext fun k h0 h1 => ?_).trans (norm_in (of_decide_eq_true hx)))
    rw [inB_norm h0 h1, hin k h0 h1]
    cases inB x k <;> rfl
  · unfold andS
    rw [bothS_right hx hr]
    refine congrArg (·, 0) (norm_nil fun k h0 h1 => ?_)
    rw [inB_norm h0 h1, hin k h0 h1]
    cases inB x k <;> rfl
  · unfold orS
    rw [bothS_right hx hr]
    refine congrArg (·, 0) ((norm_ext fun k h0 h1 => ?_).trans (norm_in (of_decide_eq_true hall)))
    rw [inB_norm h0 h1, hin k h0 h1]
    cases inB x k <;> rfl
  · rw [listS_norm, listS_right hx]
    have e : (places fun k => inB [(⟨0, 4096⟩ : Sp)] k && !inB x k) = places fun k => !inB x k := places_congr fun k h0 h1 => by rw [hin k h0 h1, Bool.true_and]
    rw [e]
    exact places_both (inB x)

/-- What the laws' calls answer of places there and back. -/
theorem laws_back {x : List Sp} (hx : rightSp x = true) : ofS (listS x) = (x, 0) := by
  have hok : okPlaces (listS x) = true := by
    unfold okPlaces
    rw [List.all_eq_true]
    intro k hk
    have := listS_bounds x k hk
    simp [this.1, this.2]
  unfold ofS
  rw [if_pos hok]
  refine congrArg (·, 0) ((norm_ext fun k h0 h1 => ?_).trans (norm_in (of_decide_eq_true hx)))
  have h := mem_listS (l := x) (k := k)
  unfold hasS at h
  rw [hx, Bool.true_and] at h
  cases hi : inB x k with
  | true => exact List.contains_iff_mem.2 (h.2 hi)
  | false =>
    cases hc : (listS x).contains k with
    | false => rfl
    | true => rw [h.1 (List.contains_iff_mem.1 hc)] at hi; cases hi
theorem laws_of (xs : List Int) : ofS xs = ([], 1) ∨ ∃ s, ofS xs = (s, 0) ∧ rightSp s = true ∧ (∀ k ∈ xs, hasS s k = true) ∧ (listS s).length ≤ xs.length ∧ (listS s).Pairwise (· < ·) ∧ ∃ f, s = normS f := by
  unfold ofS
  by_cases hok : okPlaces xs = true
  · right
    rw [if_pos hok]
    refine ⟨_, rfl, rightSp_norm _, fun k hk => ?_, ?_, ?_, _, rfl⟩
    · unfold hasS
      rw [rightSp_norm, Bool.true_and, norm_mem]
      have h := List.all_eq_true.1 hok k hk
      simp only [Bool.and_eq_true, decide_eq_true_eq] at h
      exact ⟨h.1, h.2, List.contains_iff_mem.2 hk⟩
    · rw [listS_norm]
      exact rising_le (places_sorted _) fun k hk => List.contains_iff_mem.1 (mem_places.1 hk).2.2
    · rw [listS_norm]
      exact places_sorted _
  · left
    rw [if_neg hok]

end Go.Proofs.Ythiijhdgbnpihaa
