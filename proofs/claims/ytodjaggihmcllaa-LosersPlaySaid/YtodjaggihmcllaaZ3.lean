/-
  Texts of this proof, merged: OrdPure, OrdCmp, OrdKeys, CellRefC, Blk, OrdRef1.
-/
import Derived.WalkKit
import Derived.Lib.SmallJoins
import Derived.Deep.SlicePairs
import Derived.Deep.Fields
import Derived.BigQuiet
import Derived.Deep.Cut
import Derived.Test.YtodjaggihmcllaaZ1
import Derived.Test.YtodjaggihmcllaaProg
/-
  A stable sort, as lists: by a way to hold two against each other. No program.
-/
namespace Go.Proofs.Ytodjaggihmcllaa.OrdPure

/-- A way to hold two against each other that is an order of some. -/
structure Pre {α : Type} (f : α → α → Int) : Prop where
  neg : ∀ a b, f b a = -f a b
  trans : ∀ a b c, f a b ≤ 0 → f b c ≤ 0 → f a c ≤ 0

variable {α : Type} {f : α → α → Int}

theorem Pre.refl (h : Pre f) (a : α) : f a a = 0 := by have := h.neg a a; omega
theorem Pre.flip (h : Pre f) {a b : α} (h1 : 0 < f a b) : f b a ≤ 0 := by have := h.neg a b; omega
theorem Pre.alike (h : Pre f) {a b c : α} (h1 : f a b = 0) (h2 : f b c = 0) : f a c = 0 := by
  have h3 := h.trans a b c (by omega) (by omega)
  have h4 := h.trans c b a (by have := h.neg b c; omega) (by have := h.neg a b; omega)
  have := h.neg a c
  omega
theorem Pre.sym (h : Pre f) {a b : α} (h1 : f a b = 0) : f b a = 0 := by have := h.neg a b; omega
theorem Pre.swap (h : Pre f) {a b c : α} (h1 : f a b = 0) : f a c ≤ 0 ↔ f b c ≤ 0 := by
  constructor
  · intro h2; exact h.trans b a c (by have := h.sym h1; omega) h2
  · intro h2; exact h.trans a b c (by omega) h2

/-- One behind the other. -/
def Rising (f : α → α → Int) (l : List α) : Prop := l.Pairwise fun a b => f a b ≤ 0

/-- Those that stand like x. -/
def same (f : α → α → Int) (x : α) (l : List α) : List α := l.filter fun y => decide (f y x = 0)

theorem same_append (x : α) (a b : List α) : same f x (a ++ b) = same f x a ++ same f x b := List.filter_append ..

/-- The same ones, those alike in the same order. -/
def Stable (f : α → α → Int) (l l' : List α) : Prop := ∀ x, same f x l = same f x l'

theorem Stable.refl (l : List α) : Stable f l l := fun _ => rfl
theorem Stable.symm {l l' : List α} (h : Stable f l l') : Stable f l' l := fun x => (h x).symm
theorem Stable.trans {a b c : List α} (h : Stable f a b) (h' : Stable f b c) : Stable f a c := fun x => (h x).trans (h' x)
theorem Stable.append {a b c d : List α} (h : Stable f a b) (h' : Stable f c d) : Stable f (a ++ c) (b ++ d) := fun x => by rw [same_append, same_append, h x, h' x]

theorem Stable.mem (hf : Pre f) {l l' : List α} (h : Stable f l l') {x : α} (hx : x ∈ l) : x ∈ l' := by
  have h1 : x ∈ same f x l := List.mem_filter.2 ⟨hx, by simp [hf.refl]⟩
  rw [h x] at h1
  exact (List.mem_filter.1 h1).1

/-- Two that stand apart may change places. -/
theorem Stable.swap (hf : Pre f) {a b : α} (h : 0 < f a b) : Stable f [a, b] [b, a] := fun x => by
  unfold same
  by_cases ha : f a x = 0
  · have hb : f b x ≠ 0 := fun hb => by have := hf.alike ha (hf.sym hb); omega
    simp [ha, hb]
  · by_cases hb : f b x = 0 <;> simp [ha, hb]

/-- Each of these stands behind each of those: they may change places. -/
theorem Stable.blocks (hf : Pre f) {u v : List α} (h : ∀ a ∈ u, ∀ b ∈ v, 0 < f a b) : Stable f (u ++ v) (v ++ u) := fun x => by
  rw [same_append, same_append]
  by_cases hu : same f x u = []
  · rw [hu]; simp
  · by_cases hv : same f x v = []
    · rw [hv]; simp
    · obtain ⟨a, ha⟩ := List.exists_mem_of_ne_nil _ hu
      obtain ⟨b, hb⟩ := List.exists_mem_of_ne_nil _ hv
      unfold same at ha hb
      rw [List.mem_filter] at ha hb
      have h1 := h a ha.1 b hb.1
      have h2 := hf.alike (of_decide_eq_true ha.2) (hf.sym (of_decide_eq_true hb.2))
      omega

theorem Stable.length (hf : Pre f) : ∀ {l l' : List α}, Stable f l l' → l.length = l'.length := by
  intro l
  induction l with
  | nil =>
    intro l' h
    cases l' with
    | nil => rfl
    | cons b t => have := h b; simp [same, hf.refl] at this
  | cons a t ih =>
    intro l' h
    have ha : a ∈ l' := Stable.mem hf h (by simp)
    obtain ⟨p, q, rfl, hp⟩ : ∃ p q, l' = p ++ a :: q ∧ ∀ y ∈ p, f y a ≠ 0 := by
      have h1 := h a
      clear ih ha
      have h2 : same f a (a :: t) = a :: same f a t := by simp [same, hf.refl]
      rw [h2] at h1
      clear h h2
      induction l' with
      | nil => simp [same] at h1
      | cons b q ih2 =>
        by_cases hb : f b a = 0
        · have h3 : same f a (b :: q) = b :: same f a q := by simp [same, hb]
          rw [h3] at h1
          injection h1 with h4 h5
          subst h4
          exact ⟨[], q, rfl, by simp⟩
        · have h3 : same f a (b :: q) = same f a q := by simp [same, hb]
          rw [h3] at h1
          obtain ⟨p, q', rfl, hp⟩ := ih2 h1
          exact ⟨b :: p, q', rfl, fun y hy => by
            rcases List.mem_cons.1 hy with rfl | hy
            · exact hb
            · exact hp y hy⟩
    have h2 : Stable f t (p ++ q) := fun x => by
      have h1 := h x
      rw [same_append]
      by_cases hx : f a x = 0
      · have hpx : same f x p = [] := by
          unfold same
          rw [List.filter_eq_nil_iff]
          intro y hy hyx
          exact hp y hy (hf.alike (of_decide_eq_true hyx) (hf.sym hx))
        have e1 : same f x (a :: t) = a :: same f x t := by simp [same, hx]
        have e2 : same f x (p ++ a :: q) = a :: same f x q := by rw [same_append, hpx]; simp [same, hx]
        rw [e1, e2] at h1
        rw [hpx]
        simpa using h1
      · have e1 : same f x (a :: t) = same f x t := by simp [same, hx]
        have e2 : same f x (p ++ a :: q) = same f x p ++ same f x q := by rw [same_append]; simp [same, hx]
        rw [e1, e2] at h1
        exact h1
    have := ih h2
    simp only [List.length_cons, List.length_append] at this ⊢
    omega

/-- There is but one such. -/
theorem stable_unique (hf : Pre f) : ∀ {l l' : List α}, Rising f l → Rising f l' → Stable f l l' → l = l' := by
  intro l
  induction l with
  | nil =>
    intro l' _ _ h
    have := Stable.length hf h
    simp only [List.length_nil] at this
    exact (List.eq_nil_of_length_eq_zero this.symm).symm
  | cons a t ih =>
    intro l' h1 h2 h
    cases l' with
    | nil =>
      have := Stable.length hf h
      simp at this
    | cons b s =>
      have hab : f a b ≤ 0 := by
        rcases List.mem_cons.1 (Stable.mem hf h.symm (List.mem_cons_self (a := b) (l := s))) with e | e
        · rw [e, hf.refl]; omega
        · exact (List.pairwise_cons.1 h1).1 b e
      have hba : f b a ≤ 0 := by
        rcases List.mem_cons.1 (Stable.mem hf h (List.mem_cons_self (a := a) (l := t))) with e | e
        · rw [e, hf.refl]; omega
        · exact (List.pairwise_cons.1 h2).1 a e
      have h0 : f b a = 0 := by have := hf.neg a b; omega
      have h3 := h a
      have e1 : same f a (a :: t) = a :: same f a t := by simp [same, hf.refl]
      have e2 : same f a (b :: s) = b :: same f a s := by simp [same, h0]
      rw [e1, e2] at h3
      injection h3 with h4 _
      subst h4
      have h5 : Stable f t s := fun x => by
        have h6 := h x
        by_cases hx : f a x = 0
        · have e3 : ∀ l : List α, same f x (a :: l) = a :: same f x l := fun l => by simp [same, hx]
          rw [e3, e3] at h6
          injection h6
        · have e3 : ∀ l : List α, same f x (a :: l) = same f x l := fun l => by simp [same, hx]
          rwa [e3, e3] at h6
      rw [ih (List.pairwise_cons.1 h1).2 (List.pairwise_cons.1 h2).2 h5]



/-! ### Putting one into its place -/

theorem rising_iff (l : List α) : Rising f l ↔ ∀ i j, (hi : i < j) → (hj : j < l.length) → f (l[i]'(by omega)) l[j] ≤ 0 := by
  unfold Rising
  rw [List.pairwise_iff_getElem]
  exact ⟨fun h i j hi hj => h i j (by omega) hj hi, fun h i j hi hj hij => h i j hij hj⟩

/-- Neighbours suffice. -/
theorem rising_of_next (hf : Pre f) {l : List α} (h : ∀ i, (hi : i + 1 < l.length) → f (l[i]'(by omega)) l[i + 1] ≤ 0) : Rising f l := by
  rw [rising_iff]
  intro i j hi
  obtain ⟨d, rfl⟩ : ∃ d, j = i + 1 + d := ⟨j - (i + 1), by omega⟩
  induction d with
  | zero => intro hj; exact h i hj
  | succ d ih =>
    intro hj
    exact hf.trans _ _ _ (ih (by omega) (by omega)) (h (i + 1 + d) hj)

/-- Where one is put: behind all up to the last that is not behind it. -/
def IsPlace (f : α → α → Int) (l : List α) (x : α) (k : Nat) : Prop :=
  k ≤ l.length ∧ (∀ y ∈ l.drop k, 0 < f y x) ∧ ∀ j, (hj : j < l.length) → j + 1 = k → f l[j] x ≤ 0

theorem IsPlace.rising (hf : Pre f) {l : List α} {x : α} {k : Nat} (hl : Rising f l) (h : IsPlace f l x k) : Rising f (l.take k ++ x :: l.drop k) := by
  obtain ⟨hk, hd, hp⟩ := h
  unfold Rising at hl ⊢
  rw [← List.take_append_drop k l, List.pairwise_append] at hl
  rw [List.pairwise_append, List.pairwise_cons]
  have hx : ∀ a ∈ l.take k, f a x ≤ 0 := fun a ha => by
    obtain ⟨i, hi, rfl⟩ := List.mem_iff_getElem.1 ha
    rw [List.length_take] at hi
    have h1 := hp (k - 1) (by omega) (by omega)
    by_cases hik : i = k - 1
    · subst hik
      rwa [List.getElem_take]
    · have h2 : Rising f (l.take k) := hl.1
      rw [rising_iff] at h2
      have h3 := h2 i (k - 1) (by omega) (by rw [List.length_take]; omega)
      simp only [List.getElem_take] at h3 ⊢
      exact hf.trans _ _ _ h3 h1
  refine ⟨hl.1, ⟨fun b hb => ?_, hl.2.1⟩, fun a ha b hb => ?_⟩
  · have := hd b hb
    have := hf.neg b x
    omega
  · rcases List.mem_cons.1 hb with rfl | hb
    · exact hx a ha
    · exact hl.2.2 a ha b hb

theorem IsPlace.stable (hf : Pre f) {l : List α} {x : α} {k : Nat} (h : IsPlace f l x k) : Stable f (l ++ [x]) (l.take k ++ x :: l.drop k) := by
  have h1 : Stable f (l.drop k ++ [x]) ([x] ++ l.drop k) := Stable.blocks hf fun a ha b hb => by
    rw [List.mem_singleton] at hb
    subst hb
    exact h.2.1 a ha
  have h2 := Stable.append (Stable.refl (f := f) (l.take k)) h1
  rw [← List.append_assoc, List.take_append_drop] at h2
  exact h2

/-- Is it sorted? As what stands so; there is but one. -/
def IsSort (f : α → α → Int) (l s : List α) : Prop := Rising f s ∧ Stable f l s

theorem IsSort.unique (hf : Pre f) {l s s' : List α} (h : IsSort f l s) (h' : IsSort f l s') : s = s' :=
  stable_unique hf h.1 h'.1 (h.2.symm.trans h'.2)
theorem IsSort.nil : IsSort f ([] : List α) [] := ⟨List.Pairwise.nil, Stable.refl _⟩
theorem IsSort.snoc (hf : Pre f) {l s : List α} {x : α} {k : Nat} (h : IsSort f l s) (hk : IsPlace f s x k) : IsSort f (l ++ [x]) (s.take k ++ x :: s.drop k) :=
  ⟨hk.rising hf h.1, (Stable.append h.2 (Stable.refl [x])).trans (hk.stable hf)⟩

theorem place_exists (l : List α) (x : α) : ∃ k, IsPlace f l x k := by
  have key : ∀ n, n ≤ l.length → (∀ y ∈ l.drop n, 0 < f y x) → ∃ k, IsPlace f l x k := by
    intro n
    induction n with
    | zero => intro h1 h2; exact ⟨0, h1, h2, fun j _ h => by omega⟩
    | succ n ih =>
      intro h1 h2
      by_cases h : f (l[n]'(by omega)) x ≤ 0
      · refine ⟨n + 1, h1, h2, fun j _ hj => ?_⟩
        obtain rfl : j = n := by omega
        exact h
      · refine ih (by omega) fun y hy => ?_
        rw [List.drop_eq_getElem_cons (by omega)] at hy
        rcases List.mem_cons.1 hy with rfl | hy
        · omega
        · exact h2 y hy
  exact key l.length (Nat.le_refl _) (by simp)

/-- It can be sorted. -/
theorem sort_exists (hf : Pre f) (l : List α) : ∃ s, IsSort f l s := by
  have key : ∀ (t l s : List α), IsSort f l s → ∃ s', IsSort f (l ++ t) s' := by
    intro t
    induction t with
    | nil => intro l s h; exact ⟨s, by simpa using h⟩
    | cons a t ih =>
      intro l s h
      obtain ⟨k, hk⟩ := place_exists (f := f) s a
      have := ih (l ++ [a]) _ (h.snoc hf hk)
      simpa using this
  simpa using key l [] [] IsSort.nil

/-- What is sorted stays. -/
theorem IsSort.self {l : List α} (h : Rising f l) : IsSort f l l := ⟨h, Stable.refl _⟩
theorem IsSort.again (hf : Pre f) {l s s' : List α} (h : IsSort f l s) (h' : IsSort f s s') : s' = s := IsSort.unique hf h' (IsSort.self h.1)

theorem IsSort.length (hf : Pre f) {l s : List α} (h : IsSort f l s) : s.length = l.length := (Stable.length hf h.2).symm
theorem IsSort.mem (hf : Pre f) {l s : List α} (h : IsSort f l s) {x : α} : x ∈ s ↔ x ∈ l := ⟨Stable.mem hf h.2.symm, Stable.mem hf h.2⟩

/-! ### Two lists as one -/

/-- As long as both have some, the first of them that stands ahead. -/
def mergeS (f : α → α → Int) : List α → List α → List α
  | [], b => b
  | a, [] => a
  | x :: a, y :: b => if f x y ≤ 0 then x :: mergeS f a (y :: b) else y :: mergeS f (x :: a) b
termination_by a b => a.length + b.length

theorem mergeS_nil_left (b : List α) : mergeS f [] b = b := by unfold mergeS; rfl
theorem mergeS_nil_right (a : List α) : mergeS f a [] = a := by cases a <;> (unfold mergeS; rfl)
theorem mergeS_le {x y : α} {a b : List α} (h : f x y ≤ 0) : mergeS f (x :: a) (y :: b) = x :: mergeS f a (y :: b) := by
  conv => lhs; unfold mergeS
  rw [if_pos h]
theorem mergeS_gt {x y : α} {a b : List α} (h : ¬ f x y ≤ 0) : mergeS f (x :: a) (y :: b) = y :: mergeS f (x :: a) b := by
  conv => lhs; unfold mergeS
  rw [if_neg h]

theorem mergeS_length (a b : List α) : (mergeS f a b).length = a.length + b.length := by
  fun_induction mergeS f a b <;> simp_all <;> omega

theorem mergeS_mem (a b : List α) (z : α) : z ∈ mergeS f a b ↔ z ∈ a ∨ z ∈ b := by
  fun_induction mergeS f a b with
  | case1 b => simp
  | case2 a _ => simp
  | case3 x a y b h ih =>
    rw [List.mem_cons, ih]
    simp only [List.mem_cons]
    constructor
    · rintro (h | h | h | h) <;> simp [h]
    · rintro ((h | h) | h | h) <;> simp [h]
  | case4 x a y b h ih =>
    rw [List.mem_cons, ih]
    simp only [List.mem_cons]
    constructor
    · rintro (h | (h | h) | h) <;> simp [h]
    · rintro ((h | h) | h | h) <;> simp [h]

theorem mergeS_sort (hf : Pre f) {a b : List α} (ha : Rising f a) (hb : Rising f b) : IsSort f (a ++ b) (mergeS f a b) := by
  fun_induction mergeS f a b with
  | case1 b => exact IsSort.self hb
  | case2 a _ => rw [List.append_nil]; exact IsSort.self ha
  | case3 x a y b h ih =>
    have h1 := List.pairwise_cons.1 ha
    have h2 := List.pairwise_cons.1 hb
    have hi := ih h1.2 hb
    refine ⟨List.pairwise_cons.2 ⟨fun z hz => ?_, hi.1⟩, Stable.append (Stable.refl [x]) hi.2⟩
    rcases (mergeS_mem _ _ _).1 hz with hz | hz
    · exact h1.1 z hz
    · rcases List.mem_cons.1 hz with rfl | hz
      · exact h
      · exact hf.trans _ _ _ h (h2.1 z hz)
  | case4 x a y b h ih =>
    have h1 := List.pairwise_cons.1 ha
    have h2 := List.pairwise_cons.1 hb
    have hi := ih ha h2.2
    have hyx : ∀ z ∈ x :: a, 0 < f z y := fun z hz => by
      rcases List.mem_cons.1 hz with rfl | hz
      · omega
      · have h3 := h1.1 z hz
        have h4 := hf.trans x z y h3
        omega
    refine ⟨List.pairwise_cons.2 ⟨fun z hz => ?_, hi.1⟩, ?_⟩
    · rcases (mergeS_mem _ _ _).1 hz with hz | hz
      · have := hyx z hz
        have := hf.neg y z
        omega
      · exact h2.1 z hz
    · have h5 : Stable f ((x :: a) ++ [y]) ([y] ++ (x :: a)) := Stable.blocks hf fun p hp q hq => by
        rw [List.mem_singleton] at hq
        subst hq
        exact hyx p hp
      have h6 := Stable.append h5 (Stable.refl (f := f) b)
      rw [List.append_assoc, List.append_assoc] at h6
      exact Stable.trans h6 (Stable.append (Stable.refl [y]) hi.2)

/-- To merge what is sorted is to sort both. -/
theorem merge_sorts (hf : Pre f) {a b s t : List α} (ha : IsSort f a s) (hb : IsSort f b t) : IsSort f (a ++ b) (mergeS f s t) := by
  have h := mergeS_sort hf ha.1 hb.1
  exact ⟨h.1, (Stable.append ha.2 hb.2).trans h.2⟩

/-! ### Two sorted blocks, side by side -/

theorem Rising.take {l : List α} (h : Rising f l) (n : Nat) : Rising f (l.take n) := List.Pairwise.sublist (List.take_sublist n l) h
theorem Rising.drop {l : List α} (h : Rising f l) (n : Nat) : Rising f (l.drop n) := List.Pairwise.sublist (List.drop_sublist n l) h

theorem split_sort (hf : Pre f) {u v : List α} {i j : Nat} (hi : i ≤ u.length) (hj : j ≤ v.length) (hu : Rising f u) (hv : Rising f v)
    (h1 : ∀ (h : 0 < i) (h' : j < v.length), f (u[i - 1]'(by omega)) v[j] ≤ 0) (h2 : ∀ (h : i < u.length) (h' : 0 < j), 0 < f u[i] (v[j - 1]'(by omega)))
    {s t : List α} (hs : IsSort f (u.take i ++ v.take j) s) (ht : IsSort f (u.drop i ++ v.drop j) t) : IsSort f (u ++ v) (s ++ t) := by
  rw [rising_iff] at hu hv
  have uu : ∀ a ∈ u.take i, ∀ b ∈ u.drop i, f a b ≤ 0 := fun a ha b hb => by
    obtain ⟨k, hk, rfl⟩ := List.mem_iff_getElem.1 ha
    obtain ⟨l, hl, rfl⟩ := List.mem_iff_getElem.1 hb
    rw [List.length_take] at hk
    rw [List.length_drop] at hl
    rw [List.getElem_take, List.getElem_drop]
    exact hu _ _ (by omega) (by omega)
  have vv : ∀ a ∈ v.take j, ∀ b ∈ v.drop j, f a b ≤ 0 := fun a ha b hb => by
    obtain ⟨k, hk, rfl⟩ := List.mem_iff_getElem.1 ha
    obtain ⟨l, hl, rfl⟩ := List.mem_iff_getElem.1 hb
    rw [List.length_take] at hk
    rw [List.length_drop] at hl
    rw [List.getElem_take, List.getElem_drop]
    exact hv _ _ (by omega) (by omega)
  have uv : ∀ a ∈ u.take i, ∀ b ∈ v.drop j, f a b ≤ 0 := fun a ha b hb => by
    obtain ⟨k, hk, rfl⟩ := List.mem_iff_getElem.1 ha
    obtain ⟨l, hl, rfl⟩ := List.mem_iff_getElem.1 hb
    rw [List.length_take] at hk
    rw [List.length_drop] at hl
    rw [List.getElem_take, List.getElem_drop]
    have e0 := h1 (by omega) (by omega)
    have e1 : f (u[k]'(by omega)) (u[i - 1]'(by omega)) ≤ 0 := by
      by_cases e : k = i - 1
      · subst e; rw [hf.refl]; omega
      · exact hu k (i - 1) (by omega) (by omega)
    have e2 : f (v[j]'(by omega)) (v[j + l]'(by omega)) ≤ 0 := by
      by_cases e : l = 0
      · subst e; simp only [Nat.add_zero]; rw [hf.refl]; omega
      · exact hv j (j + l) (by omega) (by omega)
    exact hf.trans _ _ _ (hf.trans _ _ _ e1 e0) e2
  have vu : ∀ a ∈ u.drop i, ∀ b ∈ v.take j, 0 < f a b := fun b hb a ha => by
    obtain ⟨k, hk, rfl⟩ := List.mem_iff_getElem.1 ha
    obtain ⟨l, hl, rfl⟩ := List.mem_iff_getElem.1 hb
    rw [List.length_take] at hk
    rw [List.length_drop] at hl
    rw [List.getElem_take, List.getElem_drop]
    have e0 := h2 (by omega) (by omega)
    have e1 : f (v[k]'(by omega)) (v[j - 1]'(by omega)) ≤ 0 := by
      by_cases e : k = j - 1
      · subst e; rw [hf.refl]; omega
      · exact hv k (j - 1) (by omega) (by omega)
    have e2 : f (u[i]'(by omega)) (u[i + l]'(by omega)) ≤ 0 := by
      by_cases e : l = 0
      · subst e; simp only [Nat.add_zero]; rw [hf.refl]; omega
      · exact hu i (i + l) (by omega) (by omega)
    by_cases e : 0 < f (u[i + l]'(by omega)) (v[k]'(by omega))
    · exact e
    · exfalso
      have e3 := hf.trans _ _ _ (hf.trans _ _ _ e2 (by omega)) e1
      omega
  constructor
  · unfold Rising
    rw [List.pairwise_append]
    refine ⟨hs.1, ht.1, fun a ha b hb => ?_⟩
    rw [hs.mem hf, List.mem_append] at ha
    rw [ht.mem hf, List.mem_append] at hb
    rcases ha with ha | ha <;> rcases hb with hb | hb
    · exact uu a ha b hb
    · exact uv a ha b hb
    · exact hf.flip (vu b hb a ha)
    · exact vv a ha b hb
  · have h3 : Stable f (u.drop i ++ v.take j) (v.take j ++ u.drop i) := Stable.blocks hf vu
    have h4 : u ++ v = u.take i ++ ((u.drop i ++ v.take j) ++ v.drop j) := by
      rw [List.append_assoc, List.take_append_drop, ← List.append_assoc, List.take_append_drop]
    have h5 := Stable.append (Stable.refl (f := f) (u.take i)) (Stable.append h3 (Stable.refl (f := f) (v.drop j)))
    rw [← h4] at h5
    rw [List.append_assoc, ← List.append_assoc (u.take i)] at h5
    exact h5.trans (Stable.append hs.2 ht.2)

/-- One ahead of many: it is put behind those that are ahead of it. -/
theorem one_ahead (hf : Pre f) {x : α} {v : List α} {j : Nat} (hj : j ≤ v.length) (hv : Rising f v) (h1 : ∀ (h : j < v.length), f x v[j] ≤ 0) (h2 : ∀ (h : 0 < j), 0 < f x (v[j - 1]'(by omega))) :
    IsSort f (x :: v) (v.take j ++ x :: v.drop j) := by
  refine split_sort (u := [x]) (v := v) (i := 0) (j := j) hf (by simp) hj (List.pairwise_singleton ..) hv (fun h => by omega) (fun _ h' => h2 h') (by simpa using IsSort.self (hv.take j)) ?_
  show IsSort f (x :: v.drop j) (x :: v.drop j)
  refine IsSort.self (List.pairwise_cons.2 ⟨fun b hb => ?_, hv.drop j⟩)
  obtain ⟨l, hl, rfl⟩ := List.mem_iff_getElem.1 hb
  rw [List.length_drop] at hl
  rw [List.getElem_drop]
  have e0 := h1 (by omega)
  by_cases e : l = 0
  · subst e; simpa using e0
  · rw [rising_iff] at hv
    exact hf.trans _ _ _ e0 (hv j (j + l) (by omega) (by omega))

/-- One behind many: it is put ahead of those that are behind it. -/
theorem one_behind (hf : Pre f) {x : α} {u : List α} {i : Nat} (hi : i ≤ u.length) (hu : Rising f u) (h1 : ∀ (h : 0 < i), f (u[i - 1]'(by omega)) x ≤ 0) (h2 : ∀ (h : i < u.length), 0 < f u[i] x) :
    IsSort f (u ++ [x]) (u.take i ++ x :: u.drop i) := by
  refine IsSort.snoc hf (IsSort.self hu) ⟨hi, fun y hy => ?_, fun j hj h => ?_⟩
  · obtain ⟨l, hl, rfl⟩ := List.mem_iff_getElem.1 hy
    rw [List.length_drop] at hl
    rw [List.getElem_drop]
    have e0 := h2 (by omega)
    by_cases e : l = 0
    · subst e; simpa using e0
    · rw [rising_iff] at hu
      have e1 := hu i (i + l) (by omega) (by omega)
      by_cases e2 : 0 < f (u[i + l]'(by omega)) x
      · exact e2
      · have := hf.trans _ _ _ e1 (Int.not_lt.1 e2)
        omega
  · have := h1 (by omega)
    obtain rfl : j = i - 1 := by omega
    exact this

/-! ### Blocks of one length -/

/-- A part. -/
def seg (l : List α) (a n : Nat) : List α := (l.drop a).take n

theorem seg_length (l : List α) (a n : Nat) : (seg l a n).length = min n (l.length - a) := by simp [seg]
theorem seg_three (l : List α) (a n : Nat) : l = l.take a ++ seg l a n ++ l.drop (a + n) := by
  unfold seg
  rw [List.append_assoc, ← List.drop_drop, List.take_append_drop, List.take_append_drop]
theorem seg_four (l : List α) (a n m : Nat) : l = l.take a ++ (seg l a n ++ seg l (a + n) m) ++ l.drop (a + n + m) := by
  unfold seg
  rw [← List.drop_drop (i := n), ← List.drop_drop (i := m), ← List.drop_drop (i := n)]
  rw [List.append_assoc, List.append_assoc, List.take_append_drop, List.take_append_drop, List.take_append_drop]
theorem seg_ahead {p s q : List α} {a n : Nat} (h : a + n ≤ p.length) (s' : List α) (q' : List α) : seg (p ++ s ++ q) a n = seg (p ++ s' ++ q') a n := by
  unfold seg
  rw [List.append_assoc, List.append_assoc, List.drop_append_of_le_length (by omega), List.drop_append_of_le_length (by omega), List.take_append_of_le_length (by rw [List.length_drop]; omega), List.take_append_of_le_length (by rw [List.length_drop]; omega)]
theorem seg_behind {p s s' q : List α} {a n : Nat} (h : p.length + s.length ≤ a) (hs : s.length = s'.length) : seg (p ++ s ++ q) a n = seg (p ++ s' ++ q) a n := by
  unfold seg
  have e : ∀ r : List α, r.length = s.length → (p ++ r ++ q).drop a = q.drop (a - (p.length + s.length)) := fun r hr => by
    rw [List.drop_append, List.drop_of_length_le (by rw [List.length_append]; omega), List.nil_append, List.length_append, hr]
  rw [e s rfl, e s' hs.symm]
theorem seg_mid {p s q : List α} {n : Nat} (hn : s.length = n) : seg (p ++ s ++ q) p.length n = s := by
  unfold seg
  rw [List.append_assoc, List.drop_left, ← hn, List.take_left]
theorem seg_end {p s : List α} {n : Nat} (hn : s.length ≤ n) : seg (p ++ s) p.length n = s := by
  unfold seg
  rw [List.drop_left, List.take_of_length_le hn]
theorem seg_past {l : List α} {a n : Nat} (h : l.length ≤ a) : seg l a n = [] := by
  unfold seg
  rw [List.drop_of_length_le h, List.take_nil]
theorem rising_nil : Rising f ([] : List α) := List.Pairwise.nil
theorem seg_all {l : List α} {n : Nat} (h : l.length ≤ n) : seg l 0 n = l := by unfold seg; rw [List.drop_zero, List.take_of_length_le h]

/-! ### Two that change places -/

theorem swap_next {A B : List α} {x y : α} {k : Nat} (hk : k = A.length) : ((A ++ y :: x :: B).set k x).set (k + 1) y = A ++ x :: y :: B ∧ ((A ++ y :: x :: B).set (k + 1) y).set k x = A ++ x :: y :: B := by
  subst hk
  constructor
  · rw [List.set_append_right _ _ (Nat.le_refl _), Nat.sub_self, List.set_cons_zero, List.set_append_right _ _ (by omega)]
    rw [show A.length + 1 - A.length = 1 by omega]
    rfl
  · rw [List.set_append_right _ _ (by omega), show A.length + 1 - A.length = 1 by omega, List.set_append_right _ _ (by omega), Nat.sub_self]
    rfl
theorem at_next {A B : List α} {x y : α} {k : Nat} (hk : k = A.length) : (A ++ y :: x :: B)[k]? = some y ∧ (A ++ y :: x :: B)[k + 1]? = some x := by
  subst hk
  simp

/-! ### The same ones -/

theorem Stable.count [BEq α] [LawfulBEq α] (hf : Pre f) {l l' : List α} (h : Stable f l l') (a : α) : l.count a = l'.count a := by
  have key : ∀ l : List α, (same f a l).count a = l.count a := fun l => by
    unfold same
    rw [List.count_filter]
    simp [hf.refl]
  rw [← key l, ← key l', h a]
theorem Stable.perm [BEq α] [LawfulBEq α] (hf : Pre f) {l l' : List α} (h : Stable f l l') : l.Perm l' := List.perm_iff_count.2 (h.count hf)

/-- Of those alike what stood ahead stands ahead. -/
theorem Stable.order (hf : Pre f) {l p q : List α} {a b : α} {R : α → α → Prop} (hR : l.Pairwise R) (h : Stable f l (p ++ a :: b :: q)) (hab : f a b = 0) : R a b := by
  have h1 : (same f b (p ++ a :: b :: q)).Pairwise R := by
    rw [← h b]
    exact List.Pairwise.sublist List.filter_sublist hR
  have h2 : same f b (p ++ a :: b :: q) = same f b p ++ a :: b :: same f b q := by
    rw [same_append]
    simp [same, hab, hf.refl]
  rw [h2, List.pairwise_append] at h1
  exact (List.pairwise_cons.1 h1.2.1).1 b (by simp)

/-! ### By what they stand for -/

theorem Pre.on {β : Type} (hf : Pre f) (g : β → α) : Pre fun x y => f (g x) (g y) := ⟨fun a b => hf.neg (g a) (g b), fun a b c => hf.trans (g a) (g b) (g c)⟩
theorem IsSort.map {β : Type} (hf : Pre f) {g : β → α} {l s : List β} (h : IsSort (fun x y => f (g x) (g y)) l s) : IsSort f (l.map g) (s.map g) := by
  constructor
  · have h1 := h.1
    unfold Rising at h1 ⊢
    rw [List.pairwise_map]
    exact h1
  · intro x
    have hp := hf.on g
    have key : ∀ l : List β, same f x (l.map g) = (l.filter fun y => decide (f (g y) x = 0)).map g := fun l => by
      unfold same
      rw [List.filter_map]
      rfl
    rw [key, key]
    congr 1
    by_cases he : ∃ y ∈ l, f (g y) x = 0
    · obtain ⟨y0, hy0, hx0⟩ := he
      have hc : ∀ y, decide (f (g y) x = 0) = decide (f (g y) (g y0) = 0) := fun y => decide_eq_decide.2 ⟨fun h => hf.alike h (hf.sym hx0), fun h => hf.alike h hx0⟩
      have h2 := h.2 y0
      unfold same at h2
      simp only [hc]
      exact h2
    · have h1 : l.filter (fun y => decide (f (g y) x = 0)) = [] := List.filter_eq_nil_iff.2 fun y hy hd => he ⟨y, hy, of_decide_eq_true hd⟩
      have h2 : s.filter (fun y => decide (f (g y) x = 0)) = [] := List.filter_eq_nil_iff.2 fun y hy hd => he ⟨y, (h.mem hp).1 hy, of_decide_eq_true hd⟩
      rw [h1, h2]

end Go.Proofs.Ytodjaggihmcllaa.OrdPure

/-
  Rows in order by keys: how two rows stand, as lists. No program.
-/
namespace Go.Proofs.Ytodjaggihmcllaa

/-- A key: a column, and whether it goes down. -/
structure Ky where
  col : Int
  down : Bool
deriving DecidableEq

def Ky.cells (k : Ky) : List Value := [.int .i64 k.col, .bool k.down]
def Ky.val (k : Ky) : Value := .agg #[.int .i64 k.col, .bool k.down]
/-- What may come in. -/
def Ky.fits (k : Ky) : Prop := -9223372036854775808 ≤ k.col ∧ k.col ≤ 9223372036854775807

/-- A row's value there; nothing, if it has none. -/
def atV (r : List V) (c : Int) : V := if 0 ≤ c then match r[c.toNat]? with | some v => if v.k ≤ 0 then V.zero else v | none => V.zero else V.zero

theorem atV_null {r : List V} {c : Int} (h : (atV r c).k ≤ 0) : atV r c = V.zero := by
  unfold atV at h ⊢
  split
  · rename_i h0
    rw [if_pos h0] at h
    split
    · rename_i v hv
      rw [hv] at h
      simp only at h
      split
      · rfl
      · rename_i hk
        rw [if_neg hk] at h
        omega
    · rfl
  · rfl
theorem atV_kind (r : List V) (c : Int) : 0 ≤ (atV r c).k := by
  by_cases h : (atV r c).k ≤ 0
  · rw [atV_null h]; simp [V.zero]
  · omega
theorem atV_out {r : List V} {c : Int} (h : c < 0 ∨ (r.length : Int) ≤ c) : atV r c = V.zero := by
  unfold atV
  split
  · rw [List.getElem?_eq_none (by omega)]
  · rfl
theorem atV_in {r : List V} {c : Nat} (h : c < r.length) : atV r c = if r[c].k ≤ 0 then V.zero else r[c] := by
  unfold atV
  rw [if_pos (by omega), Int.toNat_natCast, List.getElem?_eq_getElem h]

/-- How two rows stand by one key. -/
def cmpK (k : Ky) (a b : List V) : Int :=
  let x := atV a k.col
  let y := atV b k.col
  if k.down = true ∧ x.k ≠ 0 ∧ y.k ≠ 0 then -cmpV x y else cmpV x y
/-- How two rows stand. -/
def cmpR : List Ky → List V → List V → Int
  | [], _, _ => 0
  | k :: t, a, b => if cmpK k a b = 0 then cmpR t a b else cmpK k a b

theorem cmpK_three (k : Ky) (a b : List V) : cmpK k a b = -1 ∨ cmpK k a b = 0 ∨ cmpK k a b = 1 := by
  unfold cmpK
  simp only
  have := cmpV_three (atV a k.col) (atV b k.col)
  split <;> omega
theorem cmpR_three (ks : List Ky) (a b : List V) : cmpR ks a b = -1 ∨ cmpR ks a b = 0 ∨ cmpR ks a b = 1 := by
  induction ks with
  | nil => exact .inr (.inl rfl)
  | cons k t ih =>
    unfold cmpR
    split
    · exact ih
    · exact cmpK_three k a b

theorem cmpV_le_trans {a b c : V} (h1 : cmpV a b ≤ 0) (h2 : cmpV b c ≤ 0) : cmpV a c ≤ 0 := by
  rcases cmpV_law a b c with (h | h) | h
  · omega
  · omega
  · exact h.1
theorem cmpV_null_left {b : V} (h : 0 ≤ b.k) (hb : b.k = 0 → b = V.zero) : cmpV V.zero b ≤ 0 := by
  by_cases h0 : b.k = 0
  · rw [hb h0, cmpV_zero.2 rfl]; omega
  · unfold cmpV
    rw [if_neg (fun e => h0 e.symm)]
    have := (cmpN_lt (a := V.zero.k) (b := b.k)).2 (by show (0 : Int) < b.k; omega)
    omega
theorem cmpV_null_strict {b : V} (h : 0 < b.k) : cmpV V.zero b = -1 := by
  unfold cmpV
  rw [if_neg (fun e => by have : (0 : Int) = b.k := e; omega)]
  exact (cmpN_lt (a := V.zero.k) (b := b.k)).2 (by show (0 : Int) < b.k; omega)

theorem cmpK_pre (k : Ky) : OrdPure.Pre (cmpK k) := by
  constructor
  · intro a b
    unfold cmpK
    simp only
    rw [cmpV_neg (atV a k.col) (atV b k.col)]
    by_cases h : k.down = true ∧ (atV a k.col).k ≠ 0 ∧ (atV b k.col).k ≠ 0
    · rw [if_pos h, if_pos ⟨h.1, h.2.2, h.2.1⟩]
    · rw [if_neg h, if_neg (fun h' => h ⟨h'.1, h'.2.2, h'.2.1⟩)]
  · intro a b c
    unfold cmpK
    simp only
    have ha := atV_kind a k.col
    have hb := atV_kind b k.col
    have hc := atV_kind c k.col
    have na := fun h => @atV_null a k.col h
    have nb := fun h => @atV_null b k.col h
    have nc := fun h => @atV_null c k.col h
    generalize atV a k.col = x at *
    generalize atV b k.col = y at *
    generalize atV c k.col = z at *
    by_cases hd : k.down = true
    · simp only [hd, true_and]
      by_cases hx : x.k = 0
      · intro _ _
        rw [if_neg (fun h => h.1 hx), na (by omega)]
        exact cmpV_null_left hc fun h => nc (by omega)
      · by_cases hy : y.k = 0
        · rw [if_neg (fun h => h.2 hy), nb (by omega)]
          intro h1
          have := cmpV_null_strict (b := x) (by omega)
          have := cmpV_neg V.zero x
          omega
        · by_cases hz : z.k = 0
          · rw [if_pos ⟨hx, hy⟩, if_neg (fun h => h.2 hz), if_neg (fun h => h.2 hz), nc (by omega)]
            intro _ h1
            have := cmpV_null_strict (b := y) (by omega)
            have := cmpV_neg V.zero y
            omega
          · rw [if_pos ⟨hx, hy⟩, if_pos ⟨hy, hz⟩, if_pos ⟨hx, hz⟩]
            intro h1 h2
            have e1 := cmpV_neg x y
            have e2 := cmpV_neg y z
            have e3 := cmpV_neg x z
            have := cmpV_le_trans (a := z) (b := y) (c := x) (by omega) (by omega)
            omega
    · rw [if_neg (fun h => hd h.1), if_neg (fun h => hd h.1), if_neg (fun h => hd h.1)]
      exact cmpV_le_trans

theorem pre_then {α : Type} {f g : α → α → Int} (hf : OrdPure.Pre f) (hg : OrdPure.Pre g) : OrdPure.Pre fun a b => if f a b = 0 then g a b else f a b := by
  constructor
  · intro a b
    try simp only
    have := hf.neg a b
    by_cases h : f a b = 0
    · rw [if_pos h, if_pos (by omega), hg.neg]
    · rw [if_neg h, if_neg (by omega), this]
  · intro a b c
    try simp only
    have t1 := hf.trans a b c
    have t2 := hf.trans b c a
    have t3 := hf.trans c a b
    have n1 := hf.neg a b
    have n2 := hf.neg b c
    have n3 := hf.neg a c
    have u1 := hg.trans a b c
    by_cases h1 : f a b = 0
    · by_cases h2 : f b c = 0
      · rw [if_pos h1, if_pos h2, if_pos (hf.alike h1 h2)]
        exact u1
      · rw [if_pos h1, if_neg h2]
        intro _ h3
        split <;> omega
    · rw [if_neg h1]
      intro h3 h4
      by_cases h2 : f b c = 0
      · split <;> omega
      · rw [if_neg h2] at h4
        split <;> omega

theorem cmpR_pre (ks : List Ky) : OrdPure.Pre (cmpR ks) := by
  induction ks with
  | nil => exact ⟨fun _ _ => rfl, fun _ _ _ _ _ => Int.le_refl _⟩
  | cons k t ih => exact pre_then (cmpK_pre k) ih

/-- The first ones of these keys are less particular. -/
theorem cmpR_take (ks : List Ky) (n : Nat) {a b : List V} (h : cmpR ks a b ≤ 0) : cmpR (ks.take n) a b ≤ 0 := by
  induction ks generalizing n with
  | nil => simpa using h
  | cons k t ih =>
    cases n with
    | zero => simp [cmpR]
    | succ n =>
      rw [List.take_succ_cons]
      unfold cmpR at h ⊢
      by_cases h0 : cmpK k a b = 0
      · rw [if_pos h0] at h ⊢
        exact ih n h
      · rw [if_neg h0] at h ⊢
        exact h

/-- Why rows of so many columns can't be ordered so. -/
def rightK (cols : Int) (ks : List Ky) : Int :=
  if cols < 0 then 1 else if 8 < ks.length then 3 else if (∀ i, (hi : i < ks.length) → 0 ≤ ks[i].col ∧ ks[i].col < cols ∧ ∀ j, (hj : j < i) → (ks[j]'(by omega)).col ≠ ks[i].col) then 0 else 1

/-- Do the keys begin with these? -/
def beginsK (ks bs : List Ky) : Bool := decide (bs = ks.take bs.length ∧ bs.length ≤ ks.length)

/-- Are they in order? -/
instance (ks : List Ky) (rs : List (List V)) : Decidable (OrdPure.Rising (cmpR ks) rs) := inferInstanceAs (Decidable (rs.Pairwise fun a b => cmpR ks a b ≤ 0))
def sortedR (ks : List Ky) (rs : List (List V)) : Bool := decide (OrdPure.Rising (cmpR ks) rs)

theorem sortedR_iff (ks : List Ky) (rs : List (List V)) : OrdPure.Rising (cmpR ks) rs ↔ ∀ i, (hi : i + 1 < rs.length) → cmpR ks (rs[i]'(by omega)) rs[i + 1] ≤ 0 :=
  ⟨fun h i hi => (OrdPure.rising_iff rs).1 h i (i + 1) (by omega) hi, OrdPure.rising_of_next (cmpR_pre ks)⟩

/-- The rows in order. -/
noncomputable def sortS (ks : List Ky) (rs : List (List V)) : List (List V) := Classical.choose (OrdPure.sort_exists (cmpR_pre ks) rs)
theorem sortS_is (ks : List Ky) (rs : List (List V)) : OrdPure.IsSort (cmpR ks) rs (sortS ks rs) := Classical.choose_spec (OrdPure.sort_exists (cmpR_pre ks) rs)
theorem sortS_eq {ks : List Ky} {rs s : List (List V)} (h : OrdPure.IsSort (cmpR ks) rs s) : s = sortS ks rs := OrdPure.IsSort.unique (cmpR_pre ks) h (sortS_is ks rs)
theorem sortS_merge (ks : List Ky) (a b : List (List V)) : OrdPure.mergeS (cmpR ks) (sortS ks a) (sortS ks b) = sortS ks (a ++ b) := sortS_eq (OrdPure.merge_sorts (cmpR_pre ks) (sortS_is ks a) (sortS_is ks b))
theorem sortS_again (ks : List Ky) (rs : List (List V)) : sortS ks (sortS ks rs) = sortS ks rs := (sortS_eq (OrdPure.IsSort.self (sortS_is ks rs).1)).symm

theorem cmpR_of {rowOf : Value → List V} (ks : List Ky) : OrdPure.Pre fun x y => cmpR ks (rowOf x) (rowOf y) :=
  ⟨fun a b => (cmpR_pre ks).neg (rowOf a) (rowOf b), fun a b c => (cmpR_pre ks).trans (rowOf a) (rowOf b) (rowOf c)⟩

end Go.Proofs.Ytodjaggihmcllaa

/-
  Keys in memory: what reads as keys; an argument of them.
-/
namespace Go.Proofs.Ytodjaggihmcllaa
open Go.ChangeShapes Go.WideShapes Go.ChangeAt Go.RowKit Go.Joins Go.Deep

/-- A slice reads as these keys. -/
def RdKs (w : World) (u : Value) (l : List Ky) : Prop :=
  ∃ ao cap, u = .slice ao l.length cap ∧ l.length ≤ cap ∧ cap ≤ maxLen ∧ (∀ j, (hj : j < l.length) → ∃ g off, ao = some ⟨g, off, none⟩ ∧ w.cell? ⟨g, off + j * 2, none⟩ = some (.int .i64 l[j].col) ∧ w.cell? ⟨g, off + j * 2 + 1, none⟩ = some (.bool l[j].down)) ∧ (ao = none → cap = 0)

theorem RdKs.mono {w w' : World} {u : Value} {l : List Ky} (h : RdKs w u l) (hb : Below w.heap.size w w') : RdKs w' u l := by
  obtain ⟨ao, cap, h1, h2, h3, h4, h0⟩ := h
  refine ⟨ao, cap, h1, h2, h3, fun j hj => ?_, h0⟩
  obtain ⟨g, off, h5, h6, h7⟩ := h4 j hj
  exact ⟨g, off, h5, (hb.cell (lt_of_cell h6)).trans h6, (hb.cell (lt_of_cell h7)).trans h7⟩
theorem RdKs.shape {w : World} {u : Value} {l : List Ky} (h : RdKs w u l) : ∃ a cap, u = .slice a l.length cap ∧ l.length ≤ cap ∧ cap ≤ maxLen := by
  obtain ⟨a, cap, h1, h2, h3, _⟩ := h
  exact ⟨a, cap, h1, h2, h3⟩
theorem RdKs.plain {w : World} {ao : Option Addr} {N cap : Nat} {l : List Ky} (h : RdKs w (.slice ao N cap) l) : N = l.length ∧ N ≤ cap ∧ cap ≤ maxLen ∧ ∀ j, (hj : j < l.length) → ∃ g off, ao = some ⟨g, off, none⟩ ∧
    w.cell? ⟨g, off + j * 2, none⟩ = some (.int .i64 l[j].col) ∧ w.cell? ⟨g, off + j * 2 + 1, none⟩ = some (.bool l[j].down) := by
  obtain ⟨a', cap', h1, h2, h3, h4, h0⟩ := h
  simp only [Value.slice.injEq] at h1
  obtain ⟨rfl, rfl, rfl⟩ := h1
  exact ⟨rfl, h2, h3, h4⟩
theorem RdKs.nil (w : World) : RdKs w (.slice none 0 0) [] := ⟨none, 0, rfl, Nat.le_refl _, by simp [maxLen], fun j hj => (by simp at hj), fun _ => rfl⟩
/-- The first ones. -/
theorem RdKs.take {w : World} {ao : Option Addr} {N cap : Nat} {l : List Ky} (h : RdKs w (.slice ao N cap) l) (K : Nat) (hK : K ≤ N) : RdKs w (.slice ao K cap) (l.take K) := by
  obtain ⟨a', cap', h1, h2, h3, h4, h0⟩ := h
  simp only [Value.slice.injEq] at h1
  obtain ⟨rfl, rfl, rfl⟩ := h1
  have hl : (l.take K).length = K := by rw [List.length_take]; omega
  refine ⟨ao, cap, by rw [hl], by omega, h3, fun j hj => ?_, h0⟩
  rw [List.getElem_take]
  exact h4 j (by omega)
/-- One key, or more, of a call's own. -/
theorem RdKs.lit (w : World) (l : List Ky) (t : TypeId) (hl : l.length ≤ maxLen) : RdKs (w.alloc (.cells (l.flatMap Ky.cells).toArray t)) (.slice (some ⟨w.heap.size, 0, none⟩) l.length l.length) l := by
  refine ⟨_, l.length, rfl, Nat.le_refl _, hl, fun j hj => ⟨w.heap.size, 0, rfl, ?_⟩, fun h => by cases h⟩
  have key : ∀ (l : List Ky) (j : Nat) (hj : j < l.length), (l.flatMap Ky.cells)[j * 2]? = some (.int .i64 l[j].col) ∧ (l.flatMap Ky.cells)[j * 2 + 1]? = some (.bool l[j].down) := by
    intro l
    induction l with
    | nil => intro j hj; simp at hj
    | cons a t ih =>
      intro j hj
      cases j with
      | zero => exact ⟨rfl, rfl⟩
      | succ j =>
        have h := ih j (by simpa using hj)
        have hc : a.cells.length = 2 := rfl
        rw [List.flatMap_cons, List.getElem?_append_right (by omega), List.getElem?_append_right (by omega), hc, show (j + 1) * 2 - 2 = j * 2 by omega, show (j + 1) * 2 + 1 - 2 = j * 2 + 1 by omega]
        exact h
  obtain ⟨k1, k2⟩ := key l j hj
  have r1 := row_new w (l.flatMap Ky.cells) t _ _ k1
  have r2 := row_new w (l.flatMap Ky.cells) t _ _ k2
  rw [add_at] at r1 r2
  exact ⟨r1, by rw [Nat.add_assoc]; exact r2⟩

section
variable {H : Type} {enc : TypeId × Value → H} {P : Program} {w : World} {base : Nat} {held : Bool}

theorem read_keys {t e : TypeId} {f0 f1 : Field} {v : Value} {d : DataW H} {ps : List MemPlace} (ht : P.underlying t = some (.slice e)) (hs : P.underlying e = some (.struct #[f0, f1])) (h0 : P.underlying f0.type = some (.int .i64)) (h1 : P.underlying f1.type = some .bool)
    (hone : oneCellFields P #[f0, f1] = true) (hC : P.cellsOf e = 2) (hv : v.cells.toList = [v]) (h : DataW.Trod enc P w base (fun _ => true) held t v d ps) :
    ∃ ss : List Ky, RdKs w v ss ∧ ∀ a ∈ ss, a.fits := by
  obtain ⟨fuel, hf⟩ := h
  rw [hv] at hf
  obtain ⟨o0, q0⟩ := hone_of hone 0 f0 rfl
  obtain ⟨o1, q1⟩ := hone_of hone 1 f1 rfl
  rcases open_slice_pairs ht hs hC o0 o1 q0 q1 hf with ⟨hcs, _⟩ | ⟨a, len, cap, m, n, V0, V1, D0, D1, P0, P1, hcs, _, hl, hm, hmm, _, hi⟩
  · obtain rfl : v = .slice none 0 0 := by simpa using hcs
    exact ⟨[], RdKs.nil w, by simp⟩
  · obtain rfl : v = .slice (some a) len cap := by simpa using hcs
    have hmc : m = cap := by simpa using hmm
    have key : ∀ i, i < len → ∃ x : Ky, x.fits ∧ w.cell? (a.add (i * 2)) = some (.int .i64 x.col) ∧ w.cell? (a.add (i * 2 + 1)) = some (.bool x.down) := fun i hi' => by
      obtain ⟨c0, c1, t0, t1⟩ := hi i (by omega)
      obtain ⟨y, e0, _, w0⟩ := DataW.trod_int h0 t0
      obtain ⟨z, e1, _⟩ := DataW.trod_bool h1 t1
      have e0' : V0 i = .int .i64 y := by simpa using e0
      have e1' : V1 i = .bool z := by simpa using e1
      exact ⟨⟨y, z⟩, bounds_i64 w0, by rw [c0, e0'], by rw [c1, e1']⟩
    have hall : ∃ ss : List Ky, ss.length = len ∧ ∀ i, (hi : i < ss.length) → ss[i].fits ∧ w.cell? (a.add (i * 2)) = some (.int .i64 ss[i].col) ∧ w.cell? (a.add (i * 2 + 1)) = some (.bool ss[i].down) := by
      refine ⟨(List.range len).map fun i => if h : i < len then (key i h).choose else ⟨0, false⟩, by simp, fun i hi' => ?_⟩
      have hil : i < len := by simpa using hi'
      rw [List.getElem_map, List.getElem_range, dif_pos hil]
      exact (key i hil).choose_spec
    obtain ⟨ss, hlen, has⟩ := hall
    refine ⟨ss, ⟨some a, cap, by rw [hlen], by omega, hm, fun j hj => ?_, fun h => by cases h⟩, fun x hx => ?_⟩
    · obtain ⟨b, off, spot⟩ := a
      have h00 := (has 0 (by omega)).2.1
      have hsp : spot = none := by
        have h := World.cell?_spot h00
        cases spot with
        | none => rfl
        | some x =>
          exfalso
          simp [Addr.add] at h
      subst hsp
      obtain ⟨_, ha, hb⟩ := has j hj
      rw [add_at] at ha hb
      exact ⟨b, off, rfl, ha, by rw [← Nat.add_assoc] at hb; exact hb⟩
    · obtain ⟨i, hi', rfl⟩ := List.mem_iff_getElem.1 hx
      exact (has i hi').1

end
end Go.Proofs.Ytodjaggihmcllaa

/-
  The contracts of the document's own Right, Compare, Equal, Less.
-/
namespace Go.Proofs.Ytodjaggihmcllaa
open Go.RowKit Go.BigFrame

theorem ext_one (w : World) (o : Obj) : Ext w (w.alloc o) := (Below.refl _ w).alloc (Nat.le_refl _) _

theorem ext_two (w : World) (o o' : Obj) : Ext w ((w.alloc o).alloc o') := ((Below.refl _ w).alloc (Nat.le_refl _) _).alloc (by simp) _

set_option maxRecDepth 100000 in
theorem refCompare_any (a b : V) (ha : a.fits) (hb : b.fits) (w : World) :
    Calls Try.prog 34 #[a.val, b.val] w fun e w' => e = .returned (.int .i64 (cmpV a b)) ∧ Ext w w' := by
  obtain ⟨k, n, s⟩ := a
  obtain ⟨k', n', s'⟩ := b
  unfold cmpV cmpN cmpB V.val
  simp only
  clear ha hb
  by_cases hk : k = k'
  · subst hk
    rw [if_pos rfl]
    by_cases hn : n = n'
    · subst hn
      rw [if_pos rfl]
      by_cases hs : s = s'
      · subst hs
        rw [if_pos rfl]
        go_enter Try.func34, Try.ntmps34
        go_wp2_with fail
        go_ret
        exact ⟨rfl, ext_two w _ _⟩
      · have q : (s == s') = false := beq_eq_false_iff_ne.2 hs
        rw [if_neg hs]
        clear hs
        by_cases hl : Op.bytesLess s s' = true
        · rw [if_pos hl]
          go_enter Try.func34, Try.ntmps34
          go_wp2_with fail
          go_ret
          exact ⟨rfl, ext_two w _ _⟩
        · have hl' : Op.bytesLess s s' = false := by simpa using hl
          rw [if_neg hl]
          clear hl
          go_enter Try.func34, Try.ntmps34
          go_wp2_with fail
          go_ret
          exact ⟨rfl, ext_two w _ _⟩
    · have q : (n == n') = false := beq_eq_false_iff_ne.2 hn
      rw [if_neg hn]
      by_cases hl : n < n'
      · rw [if_neg hn, if_pos hl]
        clear hn
        go_enter Try.func34, Try.ntmps34
        go_wp2_with fail
        go_ret
        exact ⟨rfl, ext_two w _ _⟩
      · rw [if_neg hn, if_neg hl]
        clear hn
        go_enter Try.func34, Try.ntmps34
        go_wp2_with fail
        go_ret
        exact ⟨rfl, ext_two w _ _⟩
  · have q : (k == k') = false := beq_eq_false_iff_ne.2 hk
    rw [if_neg hk]
    by_cases hl : k < k'
    · rw [if_neg hk, if_pos hl]
      clear hk
      by_cases hn : n = n'
      · subst hn
        go_enter Try.func34, Try.ntmps34
        go_wp2_with fail
        go_ret
        exact ⟨rfl, ext_two w _ _⟩
      · have qn : (n == n') = false := beq_eq_false_iff_ne.2 hn
        clear hn
        go_enter Try.func34, Try.ntmps34
        go_wp2_with fail
        go_ret
        exact ⟨rfl, ext_two w _ _⟩
    · rw [if_neg hk, if_neg hl]
      clear hk
      by_cases hn : n = n'
      · subst hn
        go_enter Try.func34, Try.ntmps34
        go_wp2_with fail
        go_ret
        exact ⟨rfl, ext_two w _ _⟩
      · have qn : (n == n') = false := beq_eq_false_iff_ne.2 hn
        clear hn
        go_enter Try.func34, Try.ntmps34
        go_wp2_with fail
        go_ret
        exact ⟨rfl, ext_two w _ _⟩

end Go.Proofs.Ytodjaggihmcllaa

/-
  A block with these cells: what a call has laid. Over any program.
-/
namespace Go.Proofs.Ytodjaggihmcllaa
open Go.RowKit Go.BigFrame

/-- A block with these cells. -/
def Blk (W : World) (b : Nat) (xs : List Value) (t : TypeId) : Prop := W.heap[b]? = some (.cells xs.toArray t (0, 0))
theorem Blk.cell {W : World} {b : Nat} {xs : List Value} {t : TypeId} (h : Blk W b xs t) (j : Nat) (u : Value) (hj : xs[j]? = some u) : W.cell? ⟨b, j, none⟩ = some u := by
  unfold World.cell?
  rw [show W.heap[b]? = _ from h]
  simpa using hj
theorem Blk.free {W : World} {b : Nat} {xs : List Value} {t : TypeId} (h : Blk W b xs t) (j : Nat) : W.frozen? ⟨b, j, none⟩ = false := by
  unfold World.frozen?
  rw [show W.heap[b]? = _ from h]
  simp
theorem Blk.lt {W : World} {b : Nat} {xs : List Value} {t : TypeId} (h : Blk W b xs t) : b < W.heap.size := (Array.getElem?_eq_some_iff.1 h).1
theorem Blk.ext {W W' : World} {b : Nat} {xs : List Value} {t : TypeId} (h : Blk W b xs t) (hx : Ext W W') : Blk W' b xs t := (hx.block b h.lt).trans h
theorem Blk.new (W : World) (xs : List Value) (t : TypeId) : Blk (W.alloc (.cells xs.toArray t)) W.heap.size xs t := heap_alloc_new _ _
theorem Blk.set {W : World} {b : Nat} {xs : List Value} {t : TypeId} (h : Blk W b xs t) (j : Nat) (u : Value) : Blk (W.setCell ⟨b, j, none⟩ u) b (xs.set j u) t := by
  unfold Blk at *
  simp [World.setCell, Array.getElem?_modify, h]
theorem Blk.beside {W : World} {b b' : Nat} {xs : List Value} {t : TypeId} (h : Blk W b xs t) (hne : b ≠ b') (j : Nat) (u : Value) : Blk (W.setCell ⟨b', j, none⟩ u) b xs t := by
  unfold Blk at *
  rw [Below.heap_setCell _ _ _ _ hne]
  exact h

end Go.Proofs.Ytodjaggihmcllaa

/-
  The document's own answers of layer 15: a row's value, how two rows stand.
-/
namespace Go.Proofs.Ytodjaggihmcllaa
open Go.RowKit Go.BigFrame

/-- Rows of the document: values that fit, texts of bounded length. -/
def FitR (m : Nat) (r : List V) : Prop := ∀ v ∈ r, v.fits ∧ v.s.length ≤ m

theorem V.zero_fits : V.zero.fits := ⟨by decide, by decide, by decide, by decide⟩
theorem atV_fits {m : Nat} {r : List V} (h : FitR m r) (c : Int) : (atV r c).fits ∧ (atV r c).s.length ≤ m := by
  unfold atV
  have hz : V.zero.fits ∧ V.zero.s.length ≤ m := ⟨V.zero_fits, Nat.zero_le _⟩
  split
  · split
    · rename_i v hv
      split
      · exact hz
      · exact h v (List.mem_of_getElem? hv)
    · exact hz
  · exact hz
theorem atV_fit {m : Nat} {r : List V} (h : FitR m r) {c : Nat} (hc : c < r.length) : atV r c = if r[c].k = 0 then V.zero else r[c] := by
  rw [atV_in hc]
  have := (h r[c] (List.getElem_mem hc)).1.k0
  by_cases h0 : r[c].k = 0
  · rw [if_pos h0, if_pos (by omega)]
  · rw [if_neg h0, if_neg (by omega)]

set_option maxRecDepth 100000 in
set_option maxHeartbeats 1000000 in
theorem refAt15_any (u : Value) (r : List V) (m : Nat) (c : Int) (w : World) (hu : RdVals w u r) (hf : FitR m r) :
    Calls Try.prog 33 #[u, .int .i64 c] w fun e w' => e = .returned (atV r c).val ∧ Ext w w' := by
  obtain ⟨ao, cap, rfl, -, -⟩ := hu.shape
  obtain ⟨-, h1, h2, hc⟩ := hu.plain
  have HC := Lib.hid hc
  have HF := Lib.hid hf
  have HX := Lib.hid (ext_new w (.cells #[.int .u8 0, .int .i64 0, .string ⟨#[]⟩] 38))
  have HB := Lib.hid (Blk.new w [.int .u8 0, .int .i64 0, .string ⟨#[]⟩] 38)
  unfold maxLen at h2
  obtain ⟨N, hN⟩ : ∃ N, r.length = N := ⟨_, rfl⟩
  have HN := Lib.hid hN
  rw [hN] at h1 ⊢
  clear hu hc hf hN
  by_cases hneg : c < 0
  · have HV := Lib.hid (atV_out (r := r) (c := c) (.inl hneg))
    have d1 : decide (c < 0) = true := decide_eq_true hneg
    go_enter Try.func33, Try.ntmps33
    go_wp2_with fail
    refine bodyPost_ret (results_cell_row (P := Try.prog) (fn := Try.f33) rfl _ _ w.heap.size 38 _ (0, 0) _ rfl HB.out Try.underlying38 rfl (by kernel_rfl)) rfl ?_
    exact ⟨by rw [HV.out]; rfl, HX.out⟩
  · have d1 : decide (c < 0) = false := decide_eq_false hneg
    obtain ⟨C, rfl⟩ : ∃ C : Nat, c = (C : Int) := ⟨c.toNat, by omega⟩
    by_cases hlt : C < N
    · have d2 : decide (N ≤ C) = false := decide_eq_false (by omega)
      have hjl : C < r.length := by have := HN.out; omega
      obtain ⟨g, off, rfl, c0, c1, c2⟩ := HC.out C hjl
      have HV := Lib.hid (atV_fit HF.out hjl)
      have x0 := (HX.out.cell (lt_of_cell c0)).trans c0
      have x1 := (HX.out.cell (lt_of_cell c1)).trans c1
      have x2 := (HX.out.cell (lt_of_cell c2)).trans c2
      generalize r[C] = v at x0 x1 x2 HV
      obtain ⟨vk, vn, vs⟩ := v
      simp only at x0 x1 x2
      clear c0 c1 c2
      by_cases hk : vk = 0
      · subst hk
        go_enter Try.func33, Try.ntmps33
        go_wp2_with fail
        refine bodyPost_ret (results_cell_row (P := Try.prog) (fn := Try.f33) rfl _ _ w.heap.size 38 _ (0, 0) _ rfl HB.out Try.underlying38 rfl (by kernel_rfl)) rfl ?_
        exact ⟨by rw [HV.out]; rfl, HX.out⟩
      · have q1 : (vk == (0 : Int)) = false := beq_eq_false_iff_ne.2 hk
        have HK := Lib.hid hk
        clear hk
        go_enter Try.func33, Try.ntmps33
        go_wp2_with fail
        refine bodyPost_ret (results_cell_row (P := Try.prog) (fn := Try.f33) rfl _ _ w.heap.size 38 _ (0, 0) _ rfl (Blk.new w [.int .u8 vk, .int .i64 vn, .string ⟨vs.toArray⟩] 38) Try.underlying38 rfl (by kernel_rfl)) rfl ?_
        exact ⟨by rw [HV.out, if_neg HK.out]; rfl, ext_new _ _⟩
    · have d2 : decide (N ≤ C) = true := decide_eq_true (by omega)
      have HV := Lib.hid (atV_out (r := r) (c := (C : Int)) (.inr (by have := HN.out; omega)))
      go_enter Try.func33, Try.ntmps33
      go_wp2_with fail
      refine bodyPost_ret (results_cell_row (P := Try.prog) (fn := Try.f33) rfl _ _ w.heap.size 38 _ (0, 0) _ rfl HB.out Try.underlying38 rfl (by kernel_rfl)) rfl ?_
      exact ⟨by rw [HV.out]; rfl, HX.out⟩

/-- Down, and both something. -/
def downK (k : Ky) (a b : List V) : Bool := decide (k.down = true ∧ (atV a k.col).k ≠ 0 ∧ (atV b k.col).k ≠ 0)
theorem cmpK_down (k : Ky) (a b : List V) : cmpK k a b = if downK k a b = true then -cmpV (atV a k.col) (atV b k.col) else cmpV (atV a k.col) (atV b k.col) := by
  unfold cmpK downK
  simp only [decide_eq_true_eq]

set_option maxRecDepth 100000 in
set_option maxHeartbeats 2000000 in
theorem refCompare15_any (u v x : Value) (a b : List V) (ks : List Ky) (m : Nat) (w : World) (hu : RdVals w u a) (hv : RdVals w v b) (hx : RdKs w x ks) (ha : FitR m a) (hb : FitR m b) :
    Calls Try.prog 23 #[u, v, x] w fun e w' => e = .returned (.int .i64 (cmpR ks a b)) ∧ Ext w w' := by
  obtain ⟨ko, kcap, rfl, -, -⟩ := hx.shape
  obtain ⟨-, h1, h2, hc⟩ := hx.plain
  have HC := Lib.hid hc
  have HA := Lib.hid (fun c W (h : Ext w W) => refAt15_any u a m c W (hu.mono h) ha)
  have HB := Lib.hid (fun c W (h : Ext w W) => refAt15_any v b m c W (hv.mono h) hb)
  have HFA := Lib.hid (fun c => atV_fits ha c)
  have HFB := Lib.hid (fun c => atV_fits hb c)
  unfold maxLen at h2
  obtain ⟨N, hN⟩ : ∃ N, ks.length = N := ⟨_, rfl⟩
  have HN := Lib.hid hN
  rw [hN] at h1 ⊢
  clear hu hv hx hc ha hb hN
  go_enter Try.func23, Try.ntmps23
  go_wp2_with fail
  go_loopw [7, 8, 9, 10] (fun i _ _ _ wr => ∃ j : Nat, j ≤ N ∧ i = .int .i64 j ∧ cmpR ks a b = cmpR (ks.drop j) a b ∧ Ext w wr) (fun i _ _ _ _ => N - (intOf i).toNat)
  case atStart => exact ⟨0, Nat.zero_le _, rfl, rfl, Ext.keeps.refl _⟩
  case round =>
    obtain ⟨j, hj, rfl, hd, hext⟩ := hrel
    have HD := Lib.hid hd
    have HE := Lib.hid hext
    clear hd hext
    by_cases hlt : j < N
    · have hjl : j < ks.length := by have := HN.out; omega
      obtain ⟨g, off, rfl, c0, c1⟩ := HC.out j hjl
      have HS := Lib.hid (show cmpR (ks.drop j) a b = if cmpK ks[j] a b = 0 then cmpR (ks.drop (j + 1)) a b else cmpK ks[j] a b by rw [List.drop_eq_getElem_cons hjl]; rfl)
      rw [cmpK_down] at HS
      have HDK := Lib.hid (show downK ks[j] a b = decide (ks[j].down = true ∧ (atV a ks[j].col).k ≠ 0 ∧ (atV b ks[j].col).k ≠ 0) from rfl)
      have hC1 : -1 ≤ cmpV (atV a ks[j].col) (atV b ks[j].col) := by have := cmpV_three (atV a ks[j].col) (atV b ks[j].col); omega
      have hC2 : cmpV (atV a ks[j].col) (atV b ks[j].col) ≤ 1 := by have := cmpV_three (atV a ks[j].col) (atV b ks[j].col); omega
      have HAC := Lib.hid (HA.out ks[j].col)
      have HBC := Lib.hid (HB.out ks[j].col)
      have HCM := Lib.hid (refCompare_any (atV a ks[j].col) (atV b ks[j].col) (HFA.out _).1 (HFB.out _).1)
      have x0 := (HE.out.cell (lt_of_cell c0)).trans c0
      have HK1 := Lib.hid (fun W (h : Ext wr W) => (Ext.trans HE.out h).cell (lt_of_cell c0) |>.trans c0)
      have HK2 := Lib.hid (fun W (h : Ext wr W) => (Ext.trans HE.out h).cell (lt_of_cell c1) |>.trans c1)
      generalize downK ks[j] a b = D at HS HDK
      generalize cmpV (atV a ks[j].col) (atV b ks[j].col) = C at HS HCM hC1 hC2
      generalize ks[j].col = col at x0 HAC HBC HCM HK1 HDK
      generalize ks[j].down = down at HK2 HDK
      generalize atV a col = X at HAC HCM HDK
      generalize atV b col = Y at HBC HCM HDK
      obtain ⟨xk, xn, xs⟩ := X
      obtain ⟨yk, yn, ys⟩ := Y
      unfold V.val at HAC HBC HCM
      simp only at HAC HBC HCM HDK
      clear c0 c1
      go_wp2_with fail
      refine (HAC.out wr HE.out).mono ?_
      rintro e w1 ⟨rfl, hx1⟩
      have HX1 := Lib.hid (Ext.trans hx1 (ext_new w1 (.cells #[.int .u8 xk, .int .i64 xn, .string ⟨xs.toArray⟩] 38)))
      have HBX := Lib.hid (Blk.new w1 [.int .u8 xk, .int .i64 xn, .string ⟨xs.toArray⟩] 38)
      clear hx1 x0
      go_upto_region 5 with fail
      generalize w1.alloc (.cells #[.int .u8 xk, .int .i64 xn, .string ⟨xs.toArray⟩] 38) = W1 at HX1 HBX ⊢
      have x0 := HK1.out _ HX1.out
      go_wp2_with fail
      refine (HBC.out W1 (Ext.trans HE.out HX1.out)).mono ?_
      rintro e w2 ⟨rfl, hx2⟩
      have HX2 := Lib.hid (Ext.trans (Ext.trans HX1.out hx2) (ext_new w2 (.cells #[.int .u8 yk, .int .i64 yn, .string ⟨ys.toArray⟩] 38)))
      have HBX2 := Lib.hid ((HBX.out.ext hx2).ext (ext_new w2 (.cells #[.int .u8 yk, .int .i64 yn, .string ⟨ys.toArray⟩] 38)))
      have HBY := Lib.hid (Blk.new w2 [.int .u8 yk, .int .i64 yn, .string ⟨ys.toArray⟩] 38)
      clear hx2 x0
      go_upto_region 6 with fail
      generalize w2.alloc (.cells #[.int .u8 yk, .int .i64 yn, .string ⟨ys.toArray⟩] 38) = W2 at HX2 HBX2 HBY ⊢
      have a0 := HBX2.out.cell 0 _ rfl
      have a1 := HBX2.out.cell 1 _ rfl
      have a2 := HBX2.out.cell 2 _ rfl
      have b0 := HBY.out.cell 0 _ rfl
      have b1 := HBY.out.cell 1 _ rfl
      have b2 := HBY.out.cell 2 _ rfl
      go_wp2_with fail
      refine (HCM.out W2).mono ?_
      rintro e w3 ⟨rfl, hx3⟩
      have HX3 := Lib.hid (Ext.trans HX2.out hx3)
      have a0 := (HBX2.out.ext hx3).cell 0 _ rfl
      have b0 := (HBY.out.ext hx3).cell 0 _ rfl
      have k1 := HK2.out _ HX3.out
      clear hx3 a1 a2 b1 b2
      go_upto_region 7 with fail
      go_cut [48] from 34 (fun s W => s = .bool D ∧ W = w3)
      case first =>
        cases hdn : down with
        | false =>
          have HQ := Lib.hid (show D = false by rw [HDK.out, hdn]; rfl)
          subst hdn
          go_wp2_with fail
          go_meet
          exact ⟨by rw [HQ.out], rfl⟩
        | true =>
          have HDN := Lib.hid hdn
          subst hdn
          by_cases h1 : xk = 0
          · have HQ := Lib.hid (show D = false by rw [HDK.out]; exact decide_eq_false (fun h => h.2.1 h1))
            subst h1
            go_wp2_with fail
            go_meet
            exact ⟨by rw [HQ.out], rfl⟩
          · have q1 : (xk != (0 : Int)) = true := bne_iff_ne.2 h1
            by_cases h2 : yk = 0
            · have HQ := Lib.hid (show D = false by rw [HDK.out]; exact decide_eq_false (fun h => h.2.2 h2))
              subst h2
              clear h1
              go_wp2_with fail
              go_meet
              exact ⟨by rw [HQ.out], rfl⟩
            · have q2 : (yk != (0 : Int)) = true := bne_iff_ne.2 h2
              have HQ := Lib.hid (show D = true by rw [HDK.out]; exact decide_eq_true ⟨rfl, h1, h2⟩)
              clear h1 h2
              go_wp2_with fail
              go_meet
              exact ⟨by rw [HQ.out], rfl⟩
      case rest =>
      obtain ⟨rfl, rfl⟩ := hcut
      go_upto_if 48 with fail
      go_cut [10] from 49 (fun s W => s = .int .i64 (if D = true then -C else C) ∧ W = wc)
      case first =>
        cases D with
        | true =>
          go_wp2_with fail
          go_meet
          exact ⟨by rw [if_pos trivial], rfl⟩
        | false =>
          go_wp2_with fail
          go_meet
          exact ⟨rfl, rfl⟩
      case rest =>
      obtain ⟨rfl, rfl⟩ := hcut
      generalize (if D = true then -C else C) = R at HS ⊢
      by_cases hR : R = 0
      · have HN1 := Lib.hid (show cmpR ks a b = cmpR (ks.drop (j + 1)) a b by rw [HD.out, HS.out, if_pos hR])
        subst hR
        go_wp2_with fail
        go_roundw
        case rel => exact ⟨j + 1, by omega, by go_num, HN1.out, Ext.trans HE.out HX3.out⟩
        case measure => simp [intOf]; omega
      · have HN1 := Lib.hid (show cmpR ks a b = R by rw [HD.out, HS.out, if_neg hR])
        have q1 : (R != (0 : Int)) = true := bne_iff_ne.2 hR
        clear hR
        go_wp2_with fail
        go_ret
        exact ⟨by rw [HN1.out]; rfl, Ext.trans HE.out HX3.out⟩
    · have HN1 := Lib.hid (show cmpR ks a b = 0 by rw [HD.out, List.drop_of_length_le (by have := HN.out; omega)]; rfl)
      go_wp2_with fail
      go_ret
      exact ⟨by rw [HN1.out]; rfl, HE.out⟩

end Go.Proofs.Ytodjaggihmcllaa
