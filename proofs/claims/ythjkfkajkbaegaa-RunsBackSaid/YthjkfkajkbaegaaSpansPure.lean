/-
  Spans as sets of places: over numbers and lists. No program.
-/
import Derived.WalkKit
namespace Go.Proofs.Ythjkfkajkbaegaa

/-- A span. -/
structure Sp where
  f : Int
  t : Int
deriving DecidableEq

/-- The spans may be, if all stand from lo on. -/
def rightFrom (lo : Int) : List Sp → Prop
  | [] => True
  | s :: l => lo ≤ s.f ∧ s.f < s.t ∧ s.t ≤ 4096 ∧ rightFrom (s.t + 1) l
instance rightFromDec : (lo : Int) → (l : List Sp) → Decidable (rightFrom lo l)
  | _, [] => .isTrue trivial
  | lo, s :: l => by
    unfold rightFrom
    have := rightFromDec (s.t + 1) l
    exact inferInstance
def rightSp (l : List Sp) : Bool := decide (rightFrom 0 l)
/-- A place is in one of them. -/
def inB (l : List Sp) (k : Int) : Bool := l.any fun s => decide (s.f ≤ k) && decide (k < s.t)

theorem inB_nil (k : Int) : inB [] k = false := rfl
theorem inB_iff {l : List Sp} {k : Int} : inB l k = true ↔ ∃ s ∈ l, s.f ≤ k ∧ k < s.t := by
  unfold inB
  simp [List.any_eq_true]
theorem inB_cons {s : Sp} {l : List Sp} {k : Int} : inB (s :: l) k = true ↔ (s.f ≤ k ∧ k < s.t) ∨ inB l k = true := by
  simp [inB_iff]
theorem inB_append {a b : List Sp} {k : Int} : inB (a ++ b) k = true ↔ inB a k = true ∨ inB b k = true := by
  unfold inB
  rw [List.any_append, Bool.or_eq_true]

theorem rightFrom_mono {lo lo' : Int} (h : lo' ≤ lo) {l : List Sp} (hr : rightFrom lo l) : rightFrom lo' l := by
  cases l with
  | nil => trivial
  | cons s l => exact ⟨by have := hr.1; omega, hr.2⟩
theorem inB_lo {lo : Int} {l : List Sp} (hr : rightFrom lo l) {k : Int} (hk : inB l k = true) : lo ≤ k ∧ k < 4096 := by
  induction l generalizing lo with
  | nil => cases hk
  | cons s l ih =>
    obtain ⟨h1, h2, h3, h4⟩ := hr
    rcases inB_cons.1 hk with ⟨h5, h6⟩ | h5
    · omega
    · have := ih h4 h5
      omega

/-- Spans that may be are told by their places. -/
theorem right_ext {lo : Int} {l l' : List Sp} (h : rightFrom lo l) (h' : rightFrom lo l') (he : ∀ k, inB l k = true ↔ inB l' k = true) : l = l' := by
  induction l generalizing lo l' with
  | nil =>
    cases l' with
    | nil => rfl
    | cons s l' =>
      have := (he s.f).2 (inB_cons.2 (.inl ⟨Int.le_refl _, h'.2.1⟩))
      cases this
  | cons s l ih =>
    cases l' with
    | nil =>
      have := (he s.f).1 (inB_cons.2 (.inl ⟨Int.le_refl _, h.2.1⟩))
      cases this
    | cons s' l' =>
      obtain ⟨h1, h2, h3, h4⟩ := h
      obtain ⟨g1, g2, g3, g4⟩ := h'
      have ef : s.f = s'.f := by
        have e1 := (he s.f).1 (inB_cons.2 (.inl ⟨Int.le_refl _, h2⟩))
        have e2 := (he s'.f).2 (inB_cons.2 (.inl ⟨Int.le_refl _, g2⟩))
        have k1 : s'.f ≤ s.f := by
          rcases inB_cons.1 e1 with ⟨h5, _⟩ | h5
          · exact h5
          · have := inB_lo g4 h5; omega
        have k2 : s.f ≤ s'.f := by
          rcases inB_cons.1 e2 with ⟨h5, _⟩ | h5
          · exact h5
          · have := inB_lo h4 h5; omega
        omega
      have et : s.t = s'.t := by
        rcases Int.lt_trichotomy s.t s'.t with hlt | heq | hgt
        · have e1 := (he s.t).2 (inB_cons.2 (.inl ⟨by omega, hlt⟩))
          rcases inB_cons.1 e1 with ⟨_, h5⟩ | h5
          · omega
          · have := inB_lo h4 h5; omega
        · exact heq
        · have e1 := (he s'.t).1 (inB_cons.2 (.inl ⟨by omega, hgt⟩))
          rcases inB_cons.1 e1 with ⟨_, h5⟩ | h5
          · omega
          · have := inB_lo g4 h5; omega
      have es : s = s' := by
        cases s; cases s'
        simp only at ef et
        rw [ef, et]
      subst es
      rw [ih h4 g4 fun k => ?_]
      constructor
      · intro hk
        have hlo := inB_lo h4 hk
        rcases inB_cons.1 ((he k).1 (inB_cons.2 (.inr hk))) with ⟨_, h5⟩ | h5
        · omega
        · exact h5
      · intro hk
        have hlo := inB_lo g4 hk
        rcases inB_cons.1 ((he k).2 (inB_cons.2 (.inr hk))) with ⟨_, h5⟩ | h5
        · omega
        · exact h5

theorem rightFrom_snoc {lo : Int} {m : List Sp} {s : Sp} : rightFrom lo (m ++ [s]) ↔ rightFrom lo m ∧ (∀ x ∈ m, x.t < s.f) ∧ lo ≤ s.f ∧ s.f < s.t ∧ s.t ≤ 4096 := by
  induction m generalizing lo with
  | nil => simp [rightFrom]
  | cons a m ih =>
    simp only [List.cons_append, rightFrom, ih, List.mem_cons, forall_eq_or_imp]
    constructor
    · rintro ⟨h1, h2, h3, h4, h5, h6, h7, h8⟩
      exact ⟨⟨h1, h2, h3, h4⟩, ⟨by omega, h5⟩, by omega, h7, h8⟩
    · rintro ⟨⟨h1, h2, h3, h4⟩, ⟨h5, h6⟩, h7, h8, h9⟩
      exact ⟨h1, h2, h3, h4, h6, by omega, h8, h9⟩

/-- The spans of the places below n that are on. -/
def spansTo (on : Int → Bool) : Nat → List Sp
  | 0 => []
  | n + 1 => if on n = true then (if 0 < n ∧ on ((n : Int) - 1) = true then (spansTo on n).dropLast ++ [⟨((spansTo on n).getLastD ⟨0, 0⟩).f, (n : Int) + 1⟩] else spansTo on n ++ [⟨n, (n : Int) + 1⟩]) else spansTo on n
def normS (on : Int → Bool) : List Sp := spansTo on 4096

/-- What they are. -/
structure SpOk (on : Int → Bool) (n : Nat) (l : List Sp) : Prop where
  right : rightFrom 0 l
  mem : ∀ k : Int, inB l k = true ↔ 0 ≤ k ∧ k < n ∧ on k = true
  top : ∀ s ∈ l, s.t ≤ n
  last : 0 < n → on ((n : Int) - 1) = true → ∃ m a, l = m ++ [⟨a, n⟩]
  gap : ¬ (0 < n ∧ on ((n : Int) - 1) = true) → ∀ s ∈ l, s.t < n ∨ n = 0

theorem spansTo_ok (on : Int → Bool) (n : Nat) (hn : n ≤ 4096) : SpOk on n (spansTo on n) := by
  induction n with
  | zero => exact ⟨trivial, fun k => ⟨fun h => (by cases h), fun h => by omega⟩, fun s hs => (by cases hs), fun h => absurd h (Nat.lt_irrefl 0), fun _ s hs => (by cases hs)⟩
  | succ n ih =>
    obtain ⟨h1, h2, h3, h4, h5⟩ := ih (by omega)
    have e1 : ((n + 1 : Nat) : Int) - 1 = (n : Int) := by omega
    by_cases hon : on n = true
    · by_cases hp : 0 < n ∧ on ((n : Int) - 1) = true
      · obtain ⟨m, a, hl⟩ := h4 hp.1 hp.2
        have e : spansTo on (n + 1) = m ++ [⟨a, (n : Int) + 1⟩] := by
          show (if on n = true then _ else _) = _
          rw [if_pos hon, if_pos hp, hl]
          simp
        rw [e]
        rw [hl] at h1 h2 h3
        obtain ⟨r1, r2, r3, r4, r5⟩ := rightFrom_snoc.1 h1
        simp only at r3 r4 r5
        refine ⟨rightFrom_snoc.2 ⟨r1, r2, r3, by simp only; omega, by simp only; omega⟩, fun k => ?_, fun s hs => ?_, fun _ _ => ⟨m, a, by simp⟩, fun hc => absurd ⟨by omega, by rw [e1]; exact hon⟩ hc⟩
        · have h2k := h2 k
          rw [inB_append] at h2k ⊢
          have es : ∀ b : Int, inB [⟨a, b⟩] k = true ↔ a ≤ k ∧ k < b := fun b => by simp [inB_iff]
          rw [es] at h2k ⊢
          by_cases hkn : k = n
          · subst hkn
            constructor
            · intro _; exact ⟨by omega, by omega, hon⟩
            · intro _; exact .inr ⟨by omega, by omega⟩
          · constructor
            · intro h
              have := h2k.1 (h.imp id fun ⟨x, y⟩ => ⟨x, by omega⟩)
              exact ⟨this.1, by omega, this.2.2⟩
            · rintro ⟨x, y, z⟩
              exact (h2k.2 ⟨x, by omega, z⟩).imp id fun ⟨x, y⟩ => ⟨x, by omega⟩
        · rcases List.mem_append.1 hs with hs | hs
          · have := h3 s (List.mem_append.2 (.inl hs)); omega
          · have : s = ⟨a, (n : Int) + 1⟩ := by simpa using hs
            subst this
            simp only
            omega
      · have e : spansTo on (n + 1) = spansTo on n ++ [⟨n, (n : Int) + 1⟩] := by
          show (if on n = true then _ else _) = _
          rw [if_pos hon, if_neg hp]
        rw [e]
        refine ⟨rightFrom_snoc.2 ⟨h1, fun x hx => ?_, by simp only; omega, by simp only; omega, by simp only; omega⟩, fun k => ?_, fun s hs => ?_, fun _ _ => ⟨spansTo on n, n, by simp⟩, fun hc => absurd ⟨by omega, by rw [e1]; exact hon⟩ hc⟩
        · rcases h5 hp x hx with h | h
          · exact h
          · subst h
            cases hx
        · rw [inB_append, h2]
          have es : inB [⟨n, (n : Int) + 1⟩] k = true ↔ (n : Int) ≤ k ∧ k < (n : Int) + 1 := by simp [inB_iff]
          rw [es]
          constructor
          · rintro (⟨x, y, z⟩ | ⟨x, y⟩)
            · exact ⟨x, by omega, z⟩
            · have : k = n := by omega
              subst this
              exact ⟨by omega, by omega, hon⟩
          · rintro ⟨x, y, z⟩
            by_cases hkn : k < n
            · exact .inl ⟨x, hkn, z⟩
            · exact .inr ⟨by omega, by omega⟩
        · rcases List.mem_append.1 hs with hs | hs
          · have := h3 s hs; omega
          · have : s = ⟨n, (n : Int) + 1⟩ := by simpa using hs
            subst this
            simp only
            omega
    · have e : spansTo on (n + 1) = spansTo on n := by
        show (if on n = true then _ else _) = _
        rw [if_neg hon]
      rw [e]
      refine ⟨h1, fun k => ?_, fun s hs => by have := h3 s hs; omega, fun _ h => absurd (by rw [e1] at h; exact h) hon, fun _ s hs => .inl (by have := h3 s hs; omega)⟩
      rw [h2]
      constructor
      · rintro ⟨x, y, z⟩; exact ⟨x, by omega, z⟩
      · rintro ⟨x, y, z⟩
        refine ⟨x, ?_, z⟩
        rcases Int.lt_or_le k n with h | h
        · exact h
        · exfalso
          have : k = n := by omega
          subst this
          exact hon z

theorem norm_right (on : Int → Bool) : rightFrom 0 (normS on) := (spansTo_ok on 4096 (Nat.le_refl _)).right
theorem rightSp_norm (on : Int → Bool) : rightSp (normS on) = true := decide_eq_true (norm_right on)
theorem norm_mem (on : Int → Bool) (k : Int) : inB (normS on) k = true ↔ 0 ≤ k ∧ k < 4096 ∧ on k = true := (spansTo_ok on 4096 (Nat.le_refl _)).mem k
theorem norm_congr {f g : Int → Bool} (h : ∀ k, 0 ≤ k → k < 4096 → (f k = true ↔ g k = true)) : normS f = normS g :=
  right_ext (norm_right f) (norm_right g) fun k => by
    rw [norm_mem, norm_mem]
    constructor
    · rintro ⟨a, b, c⟩; exact ⟨a, b, (h k a b).1 c⟩
    · rintro ⟨a, b, c⟩; exact ⟨a, b, (h k a b).2 c⟩
/-- Spans that may be are those of their places. -/
theorem norm_in {l : List Sp} (h : rightFrom 0 l) : normS (inB l) = l :=
  right_ext (norm_right _) h fun k => by
    rw [norm_mem]
    constructor
    · exact fun h => h.2.2
    · exact fun hk => ⟨(inB_lo h hk).1, (inB_lo h hk).2, hk⟩
theorem norm_nil {f : Int → Bool} (h : ∀ k, 0 ≤ k → k < 4096 → f k = false) : normS f = [] :=
  right_ext (norm_right f) trivial fun k => by
    rw [norm_mem]
    constructor
    · rintro ⟨a, b, c⟩; rw [h k a b] at c; cases c
    · intro h; cases h

/-! ### The places, in their order -/

def places (on : Int → Bool) : List Int := ((List.range 4096).map fun n : Nat => (n : Int)).filter on
def listS (l : List Sp) : List Int := if rightSp l = true then places (inB l) else []
theorem mem_places {on : Int → Bool} {k : Int} : k ∈ places on ↔ 0 ≤ k ∧ k < 4096 ∧ on k = true := by
  unfold places
  rw [List.mem_filter, List.mem_map]
  constructor
  · rintro ⟨⟨n, hn, rfl⟩, h⟩
    have := List.mem_range.1 hn
    exact ⟨Int.natCast_nonneg n, by omega, h⟩
  · rintro ⟨h0, h1, h2⟩
    exact ⟨⟨k.toNat, List.mem_range.2 (by omega), by omega⟩, h2⟩
theorem places_congr {f g : Int → Bool} (h : ∀ k, 0 ≤ k → k < 4096 → (f k = true ↔ g k = true)) : places f = places g := by
  unfold places
  refine List.filter_congr fun k hk => ?_
  obtain ⟨n, hn, rfl⟩ := List.mem_map.1 hk
  have := List.mem_range.1 hn
  have := h (n : Int) (Int.natCast_nonneg n) (by omega)
  cases hf : f (n : Int) <;> cases hg : g (n : Int) <;> simp_all
theorem places_sorted (on : Int → Bool) : (places on).Pairwise (· < ·) := by
  refine List.Pairwise.filter _ ?_
  rw [List.pairwise_map]
  refine List.pairwise_lt_range.imp fun h => ?_
  simpa using h
theorem places_le (on : Int → Bool) : (places on).length ≤ 4096 := by
  refine Nat.le_trans (List.length_filter_le _ _) ?_
  simp
/-- Of two sets: both, and one of both, are as many as the first and the second. -/
theorem places_count (f g : Int → Bool) : (places fun k => f k && g k).length + (places fun k => f k || g k).length = (places f).length + (places g).length := by
  unfold places
  generalize ((List.range 4096).map fun n : Nat => (n : Int)) = l
  induction l with
  | nil => rfl
  | cons a t ih =>
    simp only [List.filter_cons]
    cases f a <;> cases g a <;> simp <;> omega
theorem places_both (f : Int → Bool) : (places f).length + (places fun k => !f k).length = 4096 := by
  have h : ∀ l : List Int, (l.filter f).length + (l.filter fun k => !f k).length = l.length := fun l => by
    induction l with
    | nil => rfl
    | cons a t ih =>
      simp only [List.filter_cons]
      cases f a <;> simp <;> omega
  unfold places
  rw [h]
  simp
/-- Numbers that rise are no more than those among which they all are. -/
theorem rising_le {l : List Int} (h : l.Pairwise (· < ·)) : ∀ {m : List Int}, (∀ k ∈ l, k ∈ m) → l.length ≤ m.length := by
  induction l with
  | nil => intro m _; exact Nat.zero_le _
  | cons a t ih =>
    intro m hm
    obtain ⟨h1, h2⟩ := List.pairwise_cons.1 h
    have ha := hm a (by simp)
    have := ih h2 (m := m.erase a) fun k hk => by
      have hne : k ≠ a := by have := h1 k hk; omega
      exact (List.mem_erase_of_ne hne).2 (hm k (by simp [hk]))
    rw [List.length_erase_of_mem ha] at this
    have hpos : 0 < m.length := List.length_pos_of_mem ha
    rw [List.length_cons]
    omega

/-! ### What the calls answer -/

def okPlaces (l : List Int) : Bool := l.all fun k => decide (0 ≤ k) && decide (k < 4096)
def ofS (l : List Int) : List Sp × Int := if okPlaces l = true then (normS fun k => l.contains k, 0) else ([], 1)
def bothS (a b : List Sp) (op : Bool → Bool → Bool) : List Sp × Int := if rightSp a = true ∧ rightSp b = true then (normS fun k => op (inB a k) (inB b k), 0) else ([], 1)
def andS (a b : List Sp) : List Sp × Int := bothS a b fun x y => x && y
def orS (a b : List Sp) : List Sp × Int := bothS a b fun x y => x || y
def minusS (a b : List Sp) : List Sp × Int := bothS a b fun x y => x && !y
def hasS (l : List Sp) (k : Int) : Bool := rightSp l && inB l k

end Go.Proofs.Ythjkfkajkbaegaa
