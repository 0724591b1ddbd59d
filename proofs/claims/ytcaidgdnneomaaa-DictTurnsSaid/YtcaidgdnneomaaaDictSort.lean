/-
  Texts sorted, and each of them once: the words. Over lists. No program.
-/
import Derived.Lib.SlicesCompact
import Derived.Test.YtcaidgdnneomaaaDictPure
namespace Go.Proofs.Ytcaidgdnneomaaa
open Go.Lib

theorem rising_ext {a b : List T8} (ha : Rising a) (hb : Rising b) (h : ∀ x, x ∈ a ↔ x ∈ b) : a = b := by
  unfold Rising at ha hb
  induction a generalizing b with
  | nil =>
    cases b with
    | nil => rfl
    | cons y b => exact absurd ((h y).2 (by simp)) (by simp)
  | cons x a ih =>
    cases b with
    | nil => exact absurd ((h x).1 (by simp)) (by simp)
    | cons y b =>
      obtain ⟨a1, a2⟩ := List.pairwise_cons.1 ha
      obtain ⟨b1, b2⟩ := List.pairwise_cons.1 hb
      have hxy : x = y := by
        rcases List.mem_cons.1 ((h x).1 (by simp)) with e | e
        · exact e
        · rcases List.mem_cons.1 ((h y).2 (by simp)) with e2 | e2
          · exact e2.symm
          · exact absurd (b1 x e) (tless_asymm (a1 y e2))
      subst hxy
      rw [ih a2 b2 fun z => ?_]
      constructor
      · intro hz
        rcases List.mem_cons.1 ((h z).1 (by simp [hz])) with e | e
        · subst e
          exact absurd (a1 z hz) (tless_irrefl z)
        · exact e
      · intro hz
        rcases List.mem_cons.1 ((h z).2 (by simp [hz])) with e | e
        · subst e
          exact absurd (b1 z hz) (tless_irrefl z)
        · exact e

/-- What is kept of texts that stand in order. -/
theorem compact_upto {d : Array T8} (hs : ∀ i j, i ≤ j → j < d.size → d[i]! ≤ d[j]!) (m : Nat) (hm : m ≤ d.size) :
    Rising (compactUpTo d m) ∧ (∀ x ∈ compactUpTo d m, ∃ j, j < m ∧ x = d[j]!) ∧ ∀ j, j < m → d[j]! ∈ compactUpTo d m := by
  induction m with
  | zero => exact ⟨List.Pairwise.nil, fun x hx => by simp [compactUpTo] at hx, fun j hj => by omega⟩
  | succ m ih =>
    obtain ⟨h1, h2, h3⟩ := ih (by omega)
    rw [compactUpTo_succ]
    by_cases hk : keeps d m = true
    · rw [if_pos hk]
      refine ⟨?_, fun x hx => ?_, fun j hj => ?_⟩
      · unfold Rising at *
        refine List.pairwise_append.2 ⟨h1, List.pairwise_singleton _ _, fun x hx y hy => ?_⟩
        rw [List.mem_singleton] at hy
        subst hy
        obtain ⟨j, hj, rfl⟩ := h2 x hx
        unfold keeps at hk
        have hne : d[m]! ≠ d[m - 1]! := by
          rcases of_decide_eq_true hk with h | h
          · omega
          · exact h
        have e1 := hs j (m - 1) (by omega) (by omega)
        have e2 := hs (m - 1) m (by omega) (by omega)
        rcases tless_three d[m - 1]! d[m]! with h | h | h
        · rcases tless_three d[j]! d[m - 1]! with g | g | g
          · exact tless_trans g h
          · rw [g]; exact h
          · exact absurd g (List.not_lt.2 e1)
        · exact absurd h.symm hne
        · exact absurd h (List.not_lt.2 e2)
      · rcases List.mem_append.1 hx with hx | hx
        · obtain ⟨j, hj, e⟩ := h2 x hx
          exact ⟨j, by omega, e⟩
        · exact ⟨m, by omega, List.mem_singleton.1 hx⟩
      · by_cases e : j = m
        · subst e; simp
        · exact List.mem_append.2 (.inl (h3 j (by omega)))
    · rw [if_neg hk, List.append_nil]
      refine ⟨h1, fun x hx => ?_, fun j hj => ?_⟩
      · obtain ⟨j, hj, e⟩ := h2 x hx
        exact ⟨j, by omega, e⟩
      · by_cases e : j = m
        · subst e
          unfold keeps at hk
          have hk2 : ¬ (j = 0 ∨ d[j]! ≠ d[j - 1]!) := fun h => hk (decide_eq_true h)
          have hj0 : j ≠ 0 := fun h => hk2 (.inl h)
          have heq : d[j]! = d[j - 1]! := Classical.byContradiction fun h => hk2 (.inr h)
          rw [heq]
          exact h3 (j - 1) (by omega)
        · exact h3 j (by omega)

/-- Sorted, each once: the words. -/
theorem sorted_words (l : List T8) : compact (l.mergeSort fun x y => decide (x ≤ y)) = wordsOf l := by
  have hp := List.mergeSort_perm l (fun x y => decide (x ≤ y))
  have hs : (l.mergeSort fun x y => decide (x ≤ y)).Pairwise (fun x y => decide (x ≤ y) = true) :=
    List.pairwise_mergeSort (fun a b c h1 h2 => by simp only [decide_eq_true_eq] at *; exact List.le_trans h1 h2) (fun a b => by simp only [Bool.or_eq_true, decide_eq_true_eq]; exact List.le_total a b) l
  generalize (l.mergeSort fun x y => decide (x ≤ y)) = s at hp hs ⊢
  have hord : ∀ i j, i ≤ j → j < s.toArray.size → s.toArray[i]! ≤ s.toArray[j]! := fun i j hij hj => by
    have hj' : j < s.length := by simpa using hj
    rw [getElem!_pos s.toArray i (by simp; omega), getElem!_pos s.toArray j (by simpa using hj')]
    simp only [List.getElem_toArray]
    by_cases e : i = j
    · subst e; exact List.le_refl _
    · exact of_decide_eq_true ((List.pairwise_iff_getElem.1 hs) i j (by omega) hj' (by omega))
  obtain ⟨h1, h2, h3⟩ := compact_upto hord s.length (by simp)
  obtain ⟨w1, w2⟩ := words_ok l
  unfold compact
  refine rising_ext h1 w1 fun x => ?_
  rw [w2, ← hp.mem_iff]
  constructor
  · intro hx
    obtain ⟨j, hj, rfl⟩ := h2 x hx
    rw [getElem!_pos s.toArray j (by simpa using hj)]
    simp
  · intro hx
    obtain ⟨j, hj, rfl⟩ := List.mem_iff_getElem.1 hx
    have := h3 j hj
    rwa [getElem!_pos s.toArray j (by simpa using hj), List.getElem_toArray] at this

/-- What a search over words finds, if it tells those that are not less. -/
theorem less_found {ws : List T8} (h : Rising ws) {s : T8} {r : Nat} (hr : r ≤ ws.length) (h1 : 0 < r → ∃ (hi : r - 1 < ws.length), ws[r - 1] < s) (h2 : (hi : r < ws.length) → ¬ ws[r] < s) : lessN ws s = r := by
  have hh := List.pairwise_iff_getElem.1 h
  unfold lessN
  have e : ws = ws.take r ++ ws.drop r := (List.take_append_drop r ws).symm
  have ha : (ws.take r).filter (fun t => decide (t < s)) = ws.take r := List.filter_eq_self.2 fun t ht => by
    obtain ⟨i, hi, rfl⟩ := List.mem_iff_getElem.1 ht
    rw [List.length_take] at hi
    obtain ⟨hp, hps⟩ := h1 (by omega)
    rw [List.getElem_take, decide_eq_true_iff]
    by_cases e : i = r - 1
    · subst e; exact hps
    · exact tless_trans (hh i (r - 1) (by omega) hp (by omega)) hps
  have hb : (ws.drop r).filter (fun t => decide (t < s)) = [] := List.filter_eq_nil_iff.2 fun t ht => by
    obtain ⟨i, hi, rfl⟩ := List.mem_iff_getElem.1 ht
    rw [List.length_drop] at hi
    rw [List.getElem_drop, decide_eq_true_iff]
    have h0 := h2 (by omega)
    by_cases e : i = 0
    · subst e; exact h0
    · exact fun hc => h0 (tless_trans (hh r (r + i) (by omega) (by omega) (by omega)) hc)
  rw [e, List.filter_append, ha, hb, List.append_nil, List.length_take]
  omega

/-- Words that rise: a text that is less than one, or begins one, stands ahead of those that neither. -/
theorem behind_mono {a b s : T8} (hab : a < b) (h : b < s ∨ s.isPrefixOf b = true) : a < s ∨ s.isPrefixOf a = true := by
  rcases h with h | h
  · exact .inl (tless_trans hab h)
  · rcases tless_three a s with g | g | g
    · exact .inl g
    · subst g
      exact .inr (by rw [List.isPrefixOf_iff_prefix]; exact List.prefix_refl _)
    · rw [List.isPrefixOf_iff_prefix] at h ⊢
      obtain ⟨t, rfl⟩ := h
      refine .inr ?_
      induction s generalizing a with
      | nil => exact List.nil_prefix
      | cons x s ih =>
        cases a with
        | nil => exact absurd g (List.not_lt_nil _)
        | cons y a =>
          rw [List.cons_append] at hab
          rcases List.cons_lt_cons_iff.1 hab with e | ⟨rfl, e⟩
          · rcases List.cons_lt_cons_iff.1 g with e2 | ⟨rfl, e2⟩
            · exact absurd e2 (by
                have := UInt8.lt_iff_toNat_lt.1 e
                intro h2
                have := UInt8.lt_iff_toNat_lt.1 h2
                omega)
            · exact absurd e (UInt8.lt_irrefl _)
          · rcases List.cons_lt_cons_iff.1 g with e2 | ⟨-, e2⟩
            · exact absurd e2 (UInt8.lt_irrefl _)
            · exact List.cons_prefix_cons.2 ⟨rfl, ih e2 e⟩
theorem behind_found {ws : List T8} (h : Rising ws) {s : T8} {r : Nat} (hr : r ≤ ws.length) (h1 : 0 < r → ∃ (hi : r - 1 < ws.length), ws[r - 1] < s ∨ s.isPrefixOf ws[r - 1] = true) (h2 : (hi : r < ws.length) → ¬ (ws[r] < s ∨ s.isPrefixOf ws[r] = true)) : behindN ws s = r := by
  have hh := List.pairwise_iff_getElem.1 h
  unfold behindN
  have e : ws = ws.take r ++ ws.drop r := (List.take_append_drop r ws).symm
  have ha : (ws.take r).filter (fun t => decide (t < s) || s.isPrefixOf t) = ws.take r := List.filter_eq_self.2 fun t ht => by
    obtain ⟨i, hi, rfl⟩ := List.mem_iff_getElem.1 ht
    rw [List.length_take] at hi
    obtain ⟨hp, hps⟩ := h1 (by omega)
    rw [List.getElem_take, Bool.or_eq_true, decide_eq_true_iff]
    by_cases e : i = r - 1
    · subst e; exact hps
    · exact behind_mono (hh i (r - 1) (by omega) hp (by omega)) hps
  have hb : (ws.drop r).filter (fun t => decide (t < s) || s.isPrefixOf t) = [] := List.filter_eq_nil_iff.2 fun t ht => by
    obtain ⟨i, hi, rfl⟩ := List.mem_iff_getElem.1 ht
    rw [List.length_drop] at hi
    rw [List.getElem_drop, Bool.or_eq_true, decide_eq_true_iff]
    have h0 := h2 (by omega)
    by_cases e : i = 0
    · subst e; exact h0
    · exact fun hc => h0 (behind_mono (hh r (r + i) (by omega) (by omega) (by omega)) hc)
  rw [e, List.filter_append, ha, hb, List.append_nil, List.length_take]
  omega
/-- Whether a text is found where it would stand, and where that is. -/
theorem less_stands {ws : List T8} (h : Rising ws) (s : T8) : (∃ (hi : lessN ws s < ws.length), ws[lessN ws s] = s) ↔ s ∈ ws := by
  constructor
  · rintro ⟨hi, e⟩
    rw [← e]
    exact List.getElem_mem hi
  · intro hm
    have hh := List.pairwise_iff_getElem.1 h
    obtain ⟨i, hi, rfl⟩ := List.mem_iff_getElem.1 hm
    have e : lessN ws ws[i] = i := less_found h (by omega) (fun h0 => ⟨by omega, hh (i - 1) i (by omega) hi (by omega)⟩) (fun _ => tless_irrefl _)
    exact ⟨by omega, by simp only [e]⟩
theorem place_stands {ws : List T8} (h : Rising ws) {s : T8} (hm : s ∈ ws) : placeS ws s = (lessN ws s : Int) := by
  have hh := List.pairwise_iff_getElem.1 h
  obtain ⟨hi, e⟩ := (less_stands h s).2 hm
  refine placeS_found hi e fun i hi2 hlt heq => ?_
  have := hh i (lessN ws s) hi2 hi hlt
  rw [heq, e] at this
  exact tless_irrefl s this

end Go.Proofs.Ytcaidgdnneomaaa
