/-
  To go through a pattern's elements and a text's letters, giving the last % one letter more each time that what is behind it fails: that it tells what is like the pattern. No program.
-/
import Derived.Test.YtmlaedhmgkcdpaaDoorFacts
namespace Go.Proofs.YtmlaedhmgkcdpaaDoor

/-- An element of one letter takes this one. -/
def tk : El → List UInt8 → Bool
  | .any, _ => false
  | .one, _ => true
  | .lit d, c => decide (d = c)

def noAny (l : List El) : Prop := ∀ e ∈ l, e ≠ .any

theorem mt_single (e : El) (he : e ≠ .any) (t : List El) (s : List (List UInt8)) : mt (e :: t) s = true ↔ ∃ c r, s = c :: r ∧ tk e c = true ∧ mt t r = true := by
  cases e with
  | any => exact absurd rfl he
  | one =>
    rw [mt_one]
    exact ⟨fun ⟨c, r, h1, h2⟩ => ⟨c, r, h1, rfl, h2⟩, fun ⟨c, r, h1, _, h2⟩ => ⟨c, r, h1, h2⟩⟩
  | lit d =>
    rw [mt_lit]
    constructor
    · rintro ⟨r, rfl, h⟩
      exact ⟨d, r, rfl, by simp [tk], h⟩
    · rintro ⟨c, r, rfl, h1, h2⟩
      have : d = c := by simpa [tk] using h1
      exact ⟨r, by rw [this], h2⟩

theorem mt_cons (e : El) (he : e ≠ .any) (t : List El) (c : List UInt8) (r : List (List UInt8)) : mt (e :: t) (c :: r) = (tk e c && mt t r) := by
  apply Bool.eq_iff_iff.2
  rw [mt_single e he, Bool.and_eq_true]
  constructor
  · rintro ⟨c', r', h, h1, h2⟩
    cases h
    exact ⟨h1, h2⟩
  · rintro ⟨h1, h2⟩
    exact ⟨c, r, rfl, h1, h2⟩

/-- What elements of one letter each are like. -/
theorem mt_mid (mid : List El) (hm : noAny mid) (rest : List El) : ∀ s, mt (mid ++ rest) s = true ↔ mid.length ≤ s.length ∧ mt mid (s.take mid.length) = true ∧ mt rest (s.drop mid.length) = true := by
  induction mid with
  | nil =>
    intro s
    simp only [List.nil_append, List.length_nil, Nat.zero_le, List.take_zero, List.drop_zero, true_and]
    exact ⟨fun h => ⟨rfl, h⟩, fun h => h.2⟩
  | cons e t ih =>
    have he : e ≠ .any := hm e (by simp)
    have ht : noAny t := fun x hx => hm x (List.mem_cons_of_mem _ hx)
    intro s
    cases s with
    | nil =>
      rw [List.cons_append, mt_single e he]
      constructor
      · rintro ⟨c, r, h, _⟩; cases h
      · rintro ⟨h, _⟩; simp at h
    | cons c r =>
      rw [List.cons_append, mt_cons e he, Bool.and_eq_true, ih ht]
      simp only [List.length_cons, List.take_succ_cons, List.drop_succ_cons, Nat.add_le_add_iff_right]
      rw [mt_cons e he, Bool.and_eq_true]
      exact ⟨fun ⟨a, b, c, d⟩ => ⟨b, ⟨a, c⟩, d⟩, fun ⟨b, ⟨a, c⟩, d⟩ => ⟨a, b, c, d⟩⟩

/-- How far one has come: the element nx, the letter la, the element behind the last %, and where its letters end. -/
def Gr (L : List El) (S : List (List UInt8)) (nx la af en : Nat) : Prop :=
  nx ≤ L.length ∧ la ≤ S.length ∧ en ≤ la ∧ af ≤ nx ∧
  ((af = 0 ∧ en = 0 ∧ mt L S = mt (L.drop nx) (S.drop la)) ∨
   (0 < af ∧ ∃ mid, L.drop af = mid ++ L.drop nx ∧ noAny mid ∧ en + mid.length = la ∧ mt mid ((S.drop en).take mid.length) = true ∧
      (mt L S = true ↔ ∃ k, en ≤ k ∧ k ≤ S.length ∧ mt (L.drop af) (S.drop k) = true)))

theorem Gr_start (L : List El) (S : List (List UInt8)) : Gr L S 0 0 0 0 := ⟨Nat.zero_le _, Nat.zero_le _, Nat.le_refl _, Nat.le_refl _, .inl ⟨rfl, rfl, rfl⟩⟩

theorem Gr_any {L : List El} {S : List (List UInt8)} {nx la af en : Nat} (h : Gr L S nx la af en) (hn : nx < L.length) (he : L[nx] = .any) : Gr L S (nx + 1) la (nx + 1) la := by
  obtain ⟨h1, h2, h3, h4, h5⟩ := h
  have hd : L.drop nx = .any :: L.drop (nx + 1) := by rw [List.drop_eq_getElem_cons hn, he]
  refine ⟨hn, h2, Nat.le_refl _, Nat.le_refl _, .inr ⟨by omega, [], rfl, (fun x hx => by cases hx), by simp, rfl, ?_⟩⟩
  rcases h5 with ⟨_, _, h5⟩ | ⟨_, mid, m1, m2, m3, m4, m5⟩
  · rw [h5, hd, mt_any]
    constructor
    · rintro ⟨k, hk, h⟩
      rw [List.length_drop] at hk
      exact ⟨la + k, by omega, by omega, by rw [List.drop_drop] at h; exact h⟩
    · rintro ⟨k, hk1, hk2, h⟩
      obtain ⟨j, rfl⟩ : ∃ j, k = la + j := ⟨k - la, by omega⟩
      exact ⟨j, by rw [List.length_drop]; omega, by rw [List.drop_drop]; exact h⟩
  · rw [m5, m1, hd]
    constructor
    · rintro ⟨k, hk1, hk2, h⟩
      obtain ⟨n1, _, n3⟩ := (mt_mid mid m2 _ _).1 h
      rw [List.length_drop] at n1
      obtain ⟨j, hj, h⟩ := (mt_any _ _).1 n3
      rw [List.length_drop, List.length_drop] at hj
      refine ⟨k + mid.length + j, by omega, by omega, ?_⟩
      rw [List.drop_drop, List.drop_drop, ← Nat.add_assoc] at h
      exact h
    · rintro ⟨k, hk1, hk2, h⟩
      obtain ⟨j, rfl⟩ : ∃ j, k = la + j := ⟨k - la, by omega⟩
      refine ⟨en, Nat.le_refl _, by omega, (mt_mid mid m2 _ _).2 ⟨by rw [List.length_drop]; omega, m4, (mt_any _ _).2 ⟨j, by rw [List.length_drop, List.length_drop]; omega, ?_⟩⟩⟩
      rw [List.drop_drop, List.drop_drop, ← Nat.add_assoc, m3]
      exact h

theorem Gr_take {L : List El} {S : List (List UInt8)} {nx la af en : Nat} (h : Gr L S nx la af en) (hn : nx < L.length) (ha : la < S.length) (he : L[nx] ≠ .any) (ht : tk L[nx] S[la] = true) : Gr L S (nx + 1) (la + 1) af en := by
  obtain ⟨h1, h2, h3, h4, h5⟩ := h
  have hd : L.drop nx = L[nx] :: L.drop (nx + 1) := List.drop_eq_getElem_cons hn
  have hs : S.drop la = S[la] :: S.drop (la + 1) := List.drop_eq_getElem_cons ha
  generalize L[nx] = x at he ht hd
  generalize S[la] = c at ht hs
  refine ⟨hn, ha, by omega, by omega, ?_⟩
  rcases h5 with ⟨a1, a2, h5⟩ | ⟨a1, mid, m1, m2, m3, m4, m5⟩
  · refine .inl ⟨a1, a2, ?_⟩
    rw [h5, hd, hs, mt_cons _ he, ht, Bool.true_and]
  · refine .inr ⟨a1, mid ++ [x], by rw [m1, hd, List.append_assoc]; rfl, ?_, by rw [List.length_append, List.length_singleton]; omega, ?_, m5⟩
    · intro y hy
      rcases List.mem_append.1 hy with hy | hy
      · exact m2 y hy
      · rw [List.mem_singleton.1 hy]; exact he
    · have hl : (mid ++ [x]).length = mid.length + 1 := by simp
      rw [hl, mt_mid mid m2]
      refine ⟨by rw [List.length_take, List.length_drop]; omega, ?_, ?_⟩
      · rw [List.take_take, Nat.min_eq_left (by omega)]; exact m4
      · rw [List.drop_take, List.drop_drop, m3, show mid.length + 1 - mid.length = 1 by omega, hs, List.take_succ_cons, List.take_zero, mt_cons _ he, ht]
        rfl

/-- Where neither goes, the last % takes one letter more. -/
theorem Gr_back {L : List El} {S : List (List UInt8)} {nx la af en : Nat} (h : Gr L S nx la af en) (ha : la < S.length) (hf : 0 < af) (hno : ∀ (hn : nx < L.length), L[nx] ≠ .any ∧ tk L[nx] S[la] = false) : Gr L S af (en + 1) af (en + 1) := by
  obtain ⟨h1, h2, h3, h4, h5⟩ := h
  have hs : S.drop la = S[la] :: S.drop (la + 1) := List.drop_eq_getElem_cons ha
  refine ⟨by omega, by omega, Nat.le_refl _, Nat.le_refl _, .inr ⟨hf, [], rfl, (fun x hx => by cases hx), by simp, rfl, ?_⟩⟩
  rcases h5 with ⟨a1, _⟩ | ⟨a1, mid, m1, m2, m3, m4, m5⟩
  · omega
  · rw [m5]
    constructor
    · rintro ⟨k, hk1, hk2, h⟩
      rcases Nat.lt_or_ge en k with hk | hk
      · exact ⟨k, hk, hk2, h⟩
      · exfalso
        have : k = en := by omega
        subst this
        rw [m1, mt_mid mid m2, List.drop_drop, show k + mid.length = la by omega, hs] at h
        have h := h.2.2
        rcases Nat.lt_or_ge nx L.length with hn | hn
        · rw [List.drop_eq_getElem_cons hn, mt_cons _ (hno hn).1, (hno hn).2] at h
          cases h
        · rw [List.drop_eq_nil_of_le hn, mt_nil] at h
          cases h
    · rintro ⟨k, hk1, hk2, h⟩
      exact ⟨k, by omega, hk2, h⟩

/-- Where neither goes and there is no %, it is not like the pattern. -/
theorem Gr_no {L : List El} {S : List (List UInt8)} {nx la af en : Nat} (h : Gr L S nx la af en) (ha : la < S.length) (hf : af = 0) (hno : ∀ (hn : nx < L.length), L[nx] ≠ .any ∧ tk L[nx] S[la] = false) : mt L S = false := by
  obtain ⟨h1, h2, h3, h4, h5⟩ := h
  have hs : S.drop la = S[la] :: S.drop (la + 1) := List.drop_eq_getElem_cons ha
  rcases h5 with ⟨_, _, h5⟩ | ⟨a1, _⟩
  · rw [h5, hs]
    rcases Nat.lt_or_ge nx L.length with hn | hn
    · rw [List.drop_eq_getElem_cons hn, mt_cons _ (hno hn).1, (hno hn).2, Bool.false_and]
    · rw [List.drop_eq_nil_of_le hn]
      rfl
  · omega

def allAny (l : List El) : Bool := l.all fun e => decide (e = .any)
theorem mt_allAny (l : List El) : mt l [] = allAny l := by
  induction l with
  | nil => rfl
  | cons e t ih =>
    unfold allAny at ih ⊢
    rw [List.all_cons, ← ih]
    cases e with
    | any =>
      apply Bool.eq_iff_iff.2
      rw [mt_any, Bool.and_eq_true]
      constructor
      · rintro ⟨k, _, h⟩
        exact ⟨rfl, by simpa using h⟩
      · rintro ⟨_, h⟩
        exact ⟨0, Nat.le_refl _, h⟩
    | one => rfl
    | lit c => rfl

/-- Where the letters are at an end, what is left must be %. -/
theorem Gr_end {L : List El} {S : List (List UInt8)} {nx la af en : Nat} (h : Gr L S nx la af en) (ha : S.length ≤ la) : mt L S = allAny (L.drop nx) := by
  obtain ⟨h1, h2, h3, h4, h5⟩ := h
  have hs : S.drop la = [] := List.drop_eq_nil_of_le ha
  rcases h5 with ⟨_, _, h5⟩ | ⟨a1, mid, m1, m2, m3, m4, m5⟩
  · rw [h5, hs, mt_allAny]
  · apply Bool.eq_iff_iff.2
    rw [m5, ← mt_allAny, m1]
    constructor
    · rintro ⟨k, hk1, hk2, h⟩
      obtain ⟨n1, _, n3⟩ := (mt_mid mid m2 _ _).1 h
      rw [List.length_drop] at n1
      rw [List.drop_drop, List.drop_eq_nil_of_le (as := S) (by omega)] at n3
      exact n3
    · intro h
      exact ⟨en, Nat.le_refl _, by omega, (mt_mid mid m2 _ _).2 ⟨by rw [List.length_drop]; omega, m4, by rw [List.drop_drop, List.drop_eq_nil_of_le (as := S) (by omega)]; exact h⟩⟩

end Go.Proofs.YtmlaedhmgkcdpaaDoor
