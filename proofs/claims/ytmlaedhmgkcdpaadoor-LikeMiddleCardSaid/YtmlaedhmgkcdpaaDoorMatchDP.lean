/-
  How far one can be: what is like some elements, letter by letter. No program.
-/
import Derived.Test.YtmlaedhmgkcdpaaDoorFacts
namespace Go.Proofs.YtmlaedhmgkcdpaaDoor

theorem bool_iff {a b : Bool} (h : a = true ↔ b = true) : a = b := by cases a <;> cases b <;> simp_all

theorem mt_any1 (l : List (List UInt8)) : mt [.any] l = true := by
  rw [mt_any]
  exact ⟨l.length, Nat.le_refl _, by rw [List.drop_length]; rfl⟩
theorem dp_any (qs : List El) (ls : List (List UInt8)) (k : Nat) (hk : k ≤ ls.length) :
    mt (qs ++ [.any]) (ls.take k) = (mt qs (ls.take k) || (decide (0 < k) && mt (qs ++ [.any]) (ls.take (k - 1)))) := by
  have key : ∀ k, k ≤ ls.length → (mt (qs ++ [.any]) (ls.take k) = true ↔ ∃ m, m ≤ k ∧ mt qs (ls.take m) = true) := fun k hk => by
    rw [mt_append]
    constructor
    · rintro ⟨m, hm, h1, _⟩
      rw [List.length_take] at hm
      rw [List.take_take, Nat.min_eq_left (by omega)] at h1
      exact ⟨m, by omega, h1⟩
    · rintro ⟨m, hm, h1⟩
      exact ⟨m, by rw [List.length_take]; omega, by rw [List.take_take, Nat.min_eq_left hm]; exact h1, mt_any1 _⟩
  apply bool_iff
  rw [Bool.or_eq_true, Bool.and_eq_true, key k hk, key (k - 1) (by omega), decide_eq_true_iff]
  constructor
  · rintro ⟨m, hm, h⟩
    by_cases e : m = k
    · subst e; exact .inl h
    · exact .inr ⟨by omega, m, by omega, h⟩
  · rintro (h | ⟨h0, m, hm, h⟩)
    · exact ⟨k, Nat.le_refl _, h⟩
    · exact ⟨m, by omega, h⟩
theorem dp_one (qs : List El) (ls : List (List UInt8)) (k : Nat) (hk : k ≤ ls.length) :
    mt (qs ++ [.one]) (ls.take k) = (decide (0 < k) && mt qs (ls.take (k - 1))) := by
  apply bool_iff
  rw [Bool.and_eq_true, decide_eq_true_iff, mt_append]
  constructor
  · rintro ⟨m, hm, h1, h2⟩
    rw [List.length_take] at hm
    obtain ⟨d, t, he, h3⟩ := (mt_one _ _).1 h2
    have ht := (mt_nil t).1 h3
    have hl := congrArg List.length he
    rw [ht, List.length_drop, List.length_take] at hl
    simp at hl
    rw [List.take_take, Nat.min_eq_left (by omega)] at h1
    exact ⟨by omega, by rw [show k - 1 = m by omega]; exact h1⟩
  · rintro ⟨h0, h⟩
    refine ⟨k - 1, by rw [List.length_take]; omega, by rw [List.take_take, Nat.min_eq_left (by omega)]; exact h, ?_⟩
    have hl : ((ls.take k).drop (k - 1)).length = 1 := by rw [List.length_drop, List.length_take]; omega
    obtain ⟨d, hd⟩ := List.length_eq_one_iff.1 hl
    rw [hd]
    rfl
theorem dp_lit (c : List UInt8) (qs : List El) (ls : List (List UInt8)) (k : Nat) (hk : k ≤ ls.length) :
    mt (qs ++ [.lit c]) (ls.take k) = (decide (0 < k) && (mt qs (ls.take (k - 1)) && decide (ls[k - 1]? = some c))) := by
  apply bool_iff
  rw [Bool.and_eq_true, Bool.and_eq_true, decide_eq_true_iff, decide_eq_true_iff, mt_append]
  constructor
  · rintro ⟨m, hm, h1, h2⟩
    rw [List.length_take] at hm
    obtain ⟨t, he, h3⟩ := (mt_lit _ _ _).1 h2
    have ht := (mt_nil t).1 h3
    have hl := congrArg List.length he
    rw [ht, List.length_drop, List.length_take] at hl
    simp at hl
    rw [List.take_take, Nat.min_eq_left (by omega)] at h1
    have e0 := congrArg (·[0]?) he
    simp only [List.getElem?_drop, Nat.add_zero, List.getElem?_cons_zero] at e0
    rw [List.getElem?_take_of_lt (by omega)] at e0
    exact ⟨by omega, by rw [show k - 1 = m by omega]; exact h1, by rw [show k - 1 = m by omega]; exact e0⟩
  · rintro ⟨h0, h, hc⟩
    refine ⟨k - 1, by rw [List.length_take]; omega, by rw [List.take_take, Nat.min_eq_left (by omega)]; exact h, ?_⟩
    have hl : ((ls.take k).drop (k - 1)).length = 1 := by rw [List.length_drop, List.length_take]; omega
    obtain ⟨d, hd⟩ := List.length_eq_one_iff.1 hl
    have e0 := congrArg (·[0]?) hd
    simp only [List.getElem?_drop, Nat.add_zero, List.getElem?_cons_zero] at e0
    rw [List.getElem?_take_of_lt (by omega), hc] at e0
    cases e0
    rw [hd, mt_lit]
    exact ⟨[], rfl, rfl⟩
theorem dp_start (ls : List (List UInt8)) (k : Nat) (hk : k ≤ ls.length) : mt [] (ls.take k) = decide (k = 0) := by
  apply bool_iff
  rw [mt_nil, decide_eq_true_iff, List.take_eq_nil_iff]
  constructor
  · rintro (h | h)
    · exact h
    · subst h; simpa using hk
  · exact fun h => .inl h

end Go.Proofs.YtmlaedhmgkcdpaaDoor
