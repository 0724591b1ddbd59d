/-
  Texts of this proof, merged.
-/
import Derived.Lib.OwnKind
import Derived.Test.YtaoegcakefodaaaGreatZ1
import Derived.Test.YtaoegcakefodaaaGreatZ2
import Derived.Test.YtaoegcakefodaaaGreatZ3
import Derived.Test.YtaoegcakefodaaaGreatZ4
import Derived.Test.YtaoegcakefodaaaGreatZ5
namespace Go.Proofs.YtaoegcakefodaaaGreat.OrdPure
structure Pre {α : Type} (f : α → α → Int) : Prop where
  neg : ∀ a b, f b a = -f a b
  trans : ∀ a b c, f a b ≤ 0 → f b c ≤ 0 → f a c ≤ 0
variable {α : Type} {f : α → α → Int}
theorem Pre.refl (h : Pre f) (a : α) : f a a = 0 := by have := h.neg a a; omega
theorem Pre.flip (h : Pre f) {a b : α} (h1 : 0 < f a b) : f b a ≤ 0 := by have := h.neg a b; omega
theorem Pre.alike (h : Pre f) {a b c : α} (h1 : f a b = 0) (h2 : f b c = 0) : f a c = 0 := by
  have h3 := h.trans a b c (by omega) (by omega)
  have h4 := h.trans c b a (by have := h.neg b c; omega) (by have := h.neg a b; omega)
  have := h.neg a c
  omega
theorem Pre.sym (h : Pre f) {a b : α} (h1 : f a b = 0) : f b a = 0 := by have := h.neg a b; omega
theorem Pre.swap (h : Pre f) {a b c : α} (h1 : f a b = 0) : f a c ≤ 0 ↔ f b c ≤ 0 := by
  constructor
  · intro h2; exact h.trans b a c (by have := h.sym h1; omega) h2
  · intro h2; exact h.trans a b c (by omega) h2
def Rising (f : α → α → Int) (l : List α) : Prop := l.Pairwise fun a b => f a b ≤ 0
def same (f : α → α → Int) (x : α) (l : List α) : List α := l.filter fun y => decide (f y x = 0)
theorem same_append (x : α) (a b : List α) : same f x (a ++ b) = same f x a ++ same f x b := List.filter_append ..
def Stable (f : α → α → Int) (l l' : List α) : Prop := ∀ x, same f x l = same f x l'
theorem Stable.refl (l : List α) : Stable f l l := fun _ => rfl
theorem Stable.symm {l l' : List α} (h : Stable f l l') : Stable f l' l := fun x => (h x).symm
theorem Stable.trans {a b c : List α} (h : Stable f a b) (h' : Stable f b c) : Stable f a c := fun x => (h x).trans (h' x)
theorem Stable.append {a b c d : List α} (h : Stable f a b) (h' : Stable f c d) : Stable f (a ++ c) (b ++ d) := fun x => by rw [same_append, same_append, h x, h' x]
theorem Stable.mem (hf : Pre f) {l l' : List α} (h : Stable f l l') {x : α} (hx : x ∈ l) : x ∈ l' := by
  have h1 : x ∈ same f x l := List.mem_filter.2 ⟨hx, by simp [hf.refl]⟩
  rw [h x] at h1
  exact (List.mem_filter.1 h1).1
theorem Stable.swap (hf : Pre f) {a b : α} (h : 0 < f a b) : Stable f [a, b] [b, a] := fun x => by
  unfold same
  by_cases ha : f a x = 0
  · have hb : f b x ≠ 0 := fun hb => by have := hf.alike ha (hf.sym hb); omega
    simp [ha, hb]
  · by_cases hb : f b x = 0 <;> simp [ha, hb]
theorem Stable.blocks (hf : Pre f) {u v : List α} (h : ∀ a ∈ u, ∀ b ∈ v, 0 < f a b) : Stable f (u ++ v) (v ++ u) := fun x => by
  rw [same_append, same_append]
  by_cases hu : same f x u = []
  · rw [hu]; simp
  · by_cases hv : same f x v = []
    · rw [hv]; simp
    · obtain ⟨a, ha⟩ := List.exists_mem_of_ne_nil _ hu
      obtain ⟨b, hb⟩ := List.exists_mem_of_ne_nil _ hv
      unfold same at ha hb
      rw [List.mem_filter] at ha hb
      have h1 := h a ha.1 b hb.1
      have h2 := hf.alike (of_decide_eq_true ha.2) (hf.sym (of_decide_eq_true hb.2))
      omega
theorem Stable.length (hf : Pre f) : ∀ {l l' : List α}, Stable f l l' → l.length = l'.length := by
  intro l
  induction l with
  | nil =>
    intro l' h
    cases l' with
    | nil => rfl
    | cons b t => have := h b; simp [same, hf.refl] at this
  | cons a t ih =>
    intro l' h
    have ha : a ∈ l' := Stable.mem hf h (by simp)
    obtain ⟨p, q, rfl, hp⟩ : ∃ p q, l' = p ++ a :: q ∧ ∀ y ∈ p, f y a ≠ 0 := by
      have h1 := h a
      clear ih ha
      have h2 : same f a (a :: t) = a :: same f a t := by simp [same, hf.refl]
      rw [h2] at h1
      clear h h2
      induction l' with
      | nil => simp [same] at h1
      | cons b q ih2 =>
        by_cases hb : f b a = 0
        · have h3 : same f a (b :: q) = b :: same f a q := by simp [same, hb]
          rw [h3] at h1
          injection h1 with h4 h5
          subst h4
          exact ⟨[], q, rfl, by simp⟩
        · have h3 : same f a (b :: q) = same f a q := by simp [same, hb]
          rw [h3] at h1
          obtain ⟨p, q', rfl, hp⟩ := ih2 h1
          exact ⟨b :: p, q', rfl, fun y hy => by
            rcases List.mem_cons.1 hy with rfl | hy
            · exact hb
            · exact hp y hy⟩
    have h2 : Stable f t (p ++ q) := fun x => by
      have h1 := h x
      rw [same_append]
      by_cases hx : f a x = 0
      · have hpx : same f x p = [] := by
          unfold same
          rw [List.filter_eq_nil_iff]
          intro y hy hyx
          exact hp y hy (hf.alike (of_decide_eq_true hyx) (hf.sym hx))
        have e1 : same f x (a :: t) = a :: same f x t := by simp [same, hx]
        have e2 : same f x (p ++ a :: q) = a :: same f x q := by rw [same_append, hpx]; simp [same, hx]
        rw [e1, e2] at h1
        rw [hpx]
        simpa using h1
      · have e1 : same f x (a :: t) = same f x t := by simp [same, hx]
        have e2 : same f x (p ++ a :: q) = same f x p ++ same f x q := by rw [same_append]; simp [same, hx]
        rw [e1, e2] at h1
        exact h1
    have := ih h2
    simp only [List.length_cons, List.length_append] at this ⊢
    omega
theorem stable_unique (hf : Pre f) : ∀ {l l' : List α}, Rising f l → Rising f l' → Stable f l l' → l = l' := by
  intro l
  induction l with
  | nil =>
    intro l' _ _ h
    have := Stable.length hf h
    simp only [List.length_nil] at this
    exact (List.eq_nil_of_length_eq_zero this.symm).symm
  | cons a t ih =>
    intro l' h1 h2 h
    cases l' with
    | nil =>
      have := Stable.length hf h
      simp at this
    | cons b s =>
      have hab : f a b ≤ 0 := by
        rcases List.mem_cons.1 (Stable.mem hf h.symm (List.mem_cons_self (a := b) (l := s))) with e | e
        · rw [e, hf.refl]; omega
        · exact (List.pairwise_cons.1 h1).1 b e
      have hba : f b a ≤ 0 := by
        rcases List.mem_cons.1 (Stable.mem hf h (List.mem_cons_self (a := a) (l := t))) with e | e
        · rw [e, hf.refl]; omega
        · exact (List.pairwise_cons.1 h2).1 a e
      have h0 : f b a = 0 := by have := hf.neg a b; omega
      have h3 := h a
      have e1 : same f a (a :: t) = a :: same f a t := by simp [same, hf.refl]
      have e2 : same f a (b :: s) = b :: same f a s := by simp [same, h0]
      rw [e1, e2] at h3
      injection h3 with h4 _
      subst h4
      have h5 : Stable f t s := fun x => by
        have h6 := h x
        by_cases hx : f a x = 0
        · have e3 : ∀ l : List α, same f x (a :: l) = a :: same f x l := fun l => by simp [same, hx]
          rw [e3, e3] at h6
          injection h6
        · have e3 : ∀ l : List α, same f x (a :: l) = same f x l := fun l => by simp [same, hx]
          rwa [e3, e3] at h6
      rw [ih (List.pairwise_cons.1 h1).2 (List.pairwise_cons.1 h2).2 h5]
theorem rising_iff (l : List α) : Rising f l ↔ ∀ i j, (hi : i < j) → (hj : j < l.length) → f (l[i]'(by omega)) l[j] ≤ 0 := by
  unfold Rising
  rw [List.pairwise_iff_getElem]
  exact ⟨fun h i j hi hj => h i j (by omega) hj hi, fun h i j hi hj hij => h i j hij hj⟩
def IsPlace (f : α → α → Int) (l : List α) (x : α) (k : Nat) : Prop :=
  k ≤ l.length ∧ (∀ y ∈ l.drop k, 0 < f y x) ∧ ∀ j, (hj : j < l.length) → j + 1 = k → f l[j] x ≤ 0
theorem IsPlace.rising (hf : Pre f) {l : List α} {x : α} {k : Nat} (hl : Rising f l) (h : IsPlace f l x k) : Rising f (l.take k ++ x :: l.drop k) := by
  obtain ⟨hk, hd, hp⟩ := h
  unfold Rising at hl ⊢
  rw [← List.take_append_drop k l, List.pairwise_append] at hl
  rw [List.pairwise_append, List.pairwise_cons]
  have hx : ∀ a ∈ l.take k, f a x ≤ 0 := fun a ha => by
    obtain ⟨i, hi, rfl⟩ := List.mem_iff_getElem.1 ha
    rw [List.length_take] at hi
    have h1 := hp (k - 1) (by omega) (by omega)
    by_cases hik : i = k - 1
    · subst hik
      rwa [List.getElem_take]
    · have h2 : Rising f (l.take k) := hl.1
      rw [rising_iff] at h2
      have h3 := h2 i (k - 1) (by omega) (by rw [List.length_take]; omega)
      simp only [List.getElem_take] at h3 ⊢
      exact hf.trans _ _ _ h3 h1
  refine ⟨hl.1, ⟨fun b hb => ?_, hl.2.1⟩, fun a ha b hb => ?_⟩
  · have := hd b hb
    have := hf.neg b x
    omega
  · rcases List.mem_cons.1 hb with rfl | hb
    · exact hx a ha
    · exact hl.2.2 a ha b hb
theorem IsPlace.stable (hf : Pre f) {l : List α} {x : α} {k : Nat} (h : IsPlace f l x k) : Stable f (l ++ [x]) (l.take k ++ x :: l.drop k) := by
  have h1 : Stable f (l.drop k ++ [x]) ([x] ++ l.drop k) := Stable.blocks hf fun a ha b hb => by
    rw [List.mem_singleton] at hb
    subst hb
    exact h.2.1 a ha
  have h2 := Stable.append (Stable.refl (f := f) (l.take k)) h1
  rw [← List.append_assoc, List.take_append_drop] at h2
  exact h2
def IsSort (f : α → α → Int) (l s : List α) : Prop := Rising f s ∧ Stable f l s
theorem IsSort.unique (hf : Pre f) {l s s' : List α} (h : IsSort f l s) (h' : IsSort f l s') : s = s' :=
  stable_unique hf h.1 h'.1 (h.2.symm.trans h'.2)
theorem IsSort.nil : IsSort f ([] : List α) [] := ⟨List.Pairwise.nil, Stable.refl _⟩
theorem IsSort.snoc (hf : Pre f) {l s : List α} {x : α} {k : Nat} (h : IsSort f l s) (hk : IsPlace f s x k) : IsSort f (l ++ [x]) (s.take k ++ x :: s.drop k) :=
  ⟨hk.rising hf h.1, (Stable.append h.2 (Stable.refl [x])).trans (hk.stable hf)⟩
theorem place_exists (l : List α) (x : α) : ∃ k, IsPlace f l x k := by
  have key : ∀ n, n ≤ l.length → (∀ y ∈ l.drop n, 0 < f y x) → ∃ k, IsPlace f l x k := by
    intro n
    induction n with
    | zero => intro h1 h2; exact ⟨0, h1, h2, fun j _ h => by omega⟩
    | succ n ih =>
      intro h1 h2
      by_cases h : f (l[n]'(by omega)) x ≤ 0
      · refine ⟨n + 1, h1, h2, fun j _ hj => ?_⟩
        obtain rfl : j = n := by omega
        exact h
      · refine ih (by omega) fun y hy => ?_
        rw [List.drop_eq_getElem_cons (by omega)] at hy
        rcases List.mem_cons.1 hy with rfl | hy
        · omega
        · exact h2 y hy
  exact key l.length (Nat.le_refl _) (by simp)
theorem sort_exists (hf : Pre f) (l : List α) : ∃ s, IsSort f l s := by
  have key : ∀ (t l s : List α), IsSort f l s → ∃ s', IsSort f (l ++ t) s' := by
    intro t
    induction t with
    | nil => intro l s h; exact ⟨s, by simpa using h⟩
    | cons a t ih =>
      intro l s h
      obtain ⟨k, hk⟩ := place_exists (f := f) s a
      have := ih (l ++ [a]) _ (h.snoc hf hk)
      simpa using this
  simpa using key l [] [] IsSort.nil
theorem IsSort.self {l : List α} (h : Rising f l) : IsSort f l l := ⟨h, Stable.refl _⟩
theorem IsSort.length (hf : Pre f) {l s : List α} (h : IsSort f l s) : s.length = l.length := (Stable.length hf h.2).symm
theorem IsSort.mem (hf : Pre f) {l s : List α} (h : IsSort f l s) {x : α} : x ∈ s ↔ x ∈ l := ⟨Stable.mem hf h.2.symm, Stable.mem hf h.2⟩
theorem Rising.take {l : List α} (h : Rising f l) (n : Nat) : Rising f (l.take n) := List.Pairwise.sublist (List.take_sublist n l) h
theorem Rising.drop {l : List α} (h : Rising f l) (n : Nat) : Rising f (l.drop n) := List.Pairwise.sublist (List.drop_sublist n l) h
theorem split_sort (hf : Pre f) {u v : List α} {i j : Nat} (hi : i ≤ u.length) (hj : j ≤ v.length) (hu : Rising f u) (hv : Rising f v)
    (h1 : ∀ (h : 0 < i) (h' : j < v.length), f (u[i - 1]'(by omega)) v[j] ≤ 0) (h2 : ∀ (h : i < u.length) (h' : 0 < j), 0 < f u[i] (v[j - 1]'(by omega)))
    {s t : List α} (hs : IsSort f (u.take i ++ v.take j) s) (ht : IsSort f (u.drop i ++ v.drop j) t) : IsSort f (u ++ v) (s ++ t) := by
  rw [rising_iff] at hu hv
  have uu : ∀ a ∈ u.take i, ∀ b ∈ u.drop i, f a b ≤ 0 := fun a ha b hb => by
    obtain ⟨k, hk, rfl⟩ := List.mem_iff_getElem.1 ha
    obtain ⟨l, hl, rfl⟩ := List.mem_iff_getElem.1 hb
    rw [List.length_take] at hk
    rw [List.length_drop] at hl
    rw [List.getElem_take, List.getElem_drop]
    exact hu _ _ (by omega) (by omega)
  have vv : ∀ a ∈ v.take j, ∀ b ∈ v.drop j, f a b ≤ 0 := fun a ha b hb => by
    obtain ⟨k, hk, rfl⟩ := List.mem_iff_getElem.1 ha
    obtain ⟨l, hl, rfl⟩ := List.mem_iff_getElem.1 hb
    rw [List.length_take] at hk
    rw [List.length_drop] at hl
    rw [List.getElem_take, List.getElem_drop]
    exact hv _ _ (by omega) (by omega)
  have uv : ∀ a ∈ u.take i, ∀ b ∈ v.drop j, f a b ≤ 0 := fun a ha b hb => by
    obtain ⟨k, hk, rfl⟩ := List.mem_iff_getElem.1 ha
    obtain ⟨l, hl, rfl⟩ := List.mem_iff_getElem.1 hb
    rw [List.length_take] at hk
    rw [List.length_drop] at hl
    rw [List.getElem_take, List.getElem_drop]
    have e0 := h1 (by omega) (by omega)
    have e1 : f (u[k]'(by omega)) (u[i - 1]'(by omega)) ≤ 0 := by
      by_cases e : k = i - 1
      · subst e; rw [hf.refl]; omega
      · exact hu k (i - 1) (by omega) (by omega)
    have e2 : f (v[j]'(by omega)) (v[j + l]'(by omega)) ≤ 0 := by
      by_cases e : l = 0
      · subst e; simp only [Nat.add_zero]; rw [hf.refl]; omega
      · exact hv j (j + l) (by omega) (by omega)
    exact hf.trans _ _ _ (hf.trans _ _ _ e1 e0) e2
  have vu : ∀ a ∈ u.drop i, ∀ b ∈ v.take j, 0 < f a b := fun b hb a ha => by
    obtain ⟨k, hk, rfl⟩ := List.mem_iff_getElem.1 ha
    obtain ⟨l, hl, rfl⟩ := List.mem_iff_getElem.1 hb
    rw [List.length_take] at hk
    rw [List.length_drop] at hl
    rw [List.getElem_take, List.getElem_drop]
    have e0 := h2 (by omega) (by omega)
    have e1 : f (v[k]'(by omega)) (v[j - 1]'(by omega)) ≤ 0 := by
      by_cases e : k = j - 1
      · subst e; rw [hf.refl]; omega
      · exact hv k (j - 1) (by omega) (by omega)
    have e2 : f (u[i]'(by omega)) (u[i + l]'(by omega)) ≤ 0 := by
      by_cases e : l = 0
      · subst e; simp only [Nat.add_zero]; rw [hf.refl]; omega
      · exact hu i (i + l) (by omega) (by omega)
    by_cases e : 0 < f (u[i + l]'(by omega)) (v[k]'(by omega))
    · exact e
    · exfalso
      have e3 := hf.trans _ _ _ (hf.trans _ _ _ e2 (by omega)) e1
      omega
  constructor
  · unfold Rising
    rw [List.pairwise_append]
    refine ⟨hs.1, ht.1, fun a ha b hb => ?_⟩
    rw [hs.mem hf, List.mem_append] at ha
    rw [ht.mem hf, List.mem_append] at hb
    rcases ha with ha | ha <;> rcases hb with hb | hb
    · exact uu a ha b hb
    · exact uv a ha b hb
    · exact hf.flip (vu b hb a ha)
    · exact vv a ha b hb
  · have h3 : Stable f (u.drop i ++ v.take j) (v.take j ++ u.drop i) := Stable.blocks hf vu
    have h4 : u ++ v = u.take i ++ ((u.drop i ++ v.take j) ++ v.drop j) := by
      rw [List.append_assoc, List.take_append_drop, ← List.append_assoc, List.take_append_drop]
    have h5 := Stable.append (Stable.refl (f := f) (u.take i)) (Stable.append h3 (Stable.refl (f := f) (v.drop j)))
    rw [← h4] at h5
    rw [List.append_assoc, ← List.append_assoc (u.take i)] at h5
    exact h5.trans (Stable.append hs.2 ht.2)
theorem one_ahead (hf : Pre f) {x : α} {v : List α} {j : Nat} (hj : j ≤ v.length) (hv : Rising f v) (h1 : ∀ (h : j < v.length), f x v[j] ≤ 0) (h2 : ∀ (h : 0 < j), 0 < f x (v[j - 1]'(by omega))) :
    IsSort f (x :: v) (v.take j ++ x :: v.drop j) := by
  refine split_sort (u := [x]) (v := v) (i := 0) (j := j) hf (by simp) hj (List.pairwise_singleton ..) hv (fun h => by omega) (fun _ h' => h2 h') (by simpa using IsSort.self (hv.take j)) ?_
  show IsSort f (x :: v.drop j) (x :: v.drop j)
  refine IsSort.self (List.pairwise_cons.2 ⟨fun b hb => ?_, hv.drop j⟩)
  obtain ⟨l, hl, rfl⟩ := List.mem_iff_getElem.1 hb
  rw [List.length_drop] at hl
  rw [List.getElem_drop]
  have e0 := h1 (by omega)
  by_cases e : l = 0
  · subst e; simpa using e0
  · rw [rising_iff] at hv
    exact hf.trans _ _ _ e0 (hv j (j + l) (by omega) (by omega))
theorem one_behind (hf : Pre f) {x : α} {u : List α} {i : Nat} (hi : i ≤ u.length) (hu : Rising f u) (h1 : ∀ (h : 0 < i), f (u[i - 1]'(by omega)) x ≤ 0) (h2 : ∀ (h : i < u.length), 0 < f u[i] x) :
    IsSort f (u ++ [x]) (u.take i ++ x :: u.drop i) := by
  refine IsSort.snoc hf (IsSort.self hu) ⟨hi, fun y hy => ?_, fun j hj h => ?_⟩
  · obtain ⟨l, hl, rfl⟩ := List.mem_iff_getElem.1 hy
    rw [List.length_drop] at hl
    rw [List.getElem_drop]
    have e0 := h2 (by omega)
    by_cases e : l = 0
    · subst e; simpa using e0
    · rw [rising_iff] at hu
      have e1 := hu i (i + l) (by omega) (by omega)
      by_cases e2 : 0 < f (u[i + l]'(by omega)) x
      · exact e2
      · have := hf.trans _ _ _ e1 (Int.not_lt.1 e2)
        omega
  · have := h1 (by omega)
    obtain rfl : j = i - 1 := by omega
    exact this
def seg (l : List α) (a n : Nat) : List α := (l.drop a).take n
theorem seg_length (l : List α) (a n : Nat) : (seg l a n).length = min n (l.length - a) := by simp [seg]
theorem seg_three (l : List α) (a n : Nat) : l = l.take a ++ seg l a n ++ l.drop (a + n) := by
  unfold seg
  rw [List.append_assoc, ← List.drop_drop, List.take_append_drop, List.take_append_drop]
theorem seg_four (l : List α) (a n m : Nat) : l = l.take a ++ (seg l a n ++ seg l (a + n) m) ++ l.drop (a + n + m) := by
  unfold seg
  rw [← List.drop_drop (i := n), ← List.drop_drop (i := m), ← List.drop_drop (i := n)]
  rw [List.append_assoc, List.append_assoc, List.take_append_drop, List.take_append_drop, List.take_append_drop]
theorem seg_ahead {p s q : List α} {a n : Nat} (h : a + n ≤ p.length) (s' : List α) (q' : List α) : seg (p ++ s ++ q) a n = seg (p ++ s' ++ q') a n := by
  unfold seg
  rw [List.append_assoc, List.append_assoc, List.drop_append_of_le_length (by omega), List.drop_append_of_le_length (by omega), List.take_append_of_le_length (by rw [List.length_drop]; omega), List.take_append_of_le_length (by rw [List.length_drop]; omega)]
theorem seg_behind {p s s' q : List α} {a n : Nat} (h : p.length + s.length ≤ a) (hs : s.length = s'.length) : seg (p ++ s ++ q) a n = seg (p ++ s' ++ q) a n := by
  unfold seg
  have e : ∀ r : List α, r.length = s.length → (p ++ r ++ q).drop a = q.drop (a - (p.length + s.length)) := fun r hr => by
    rw [List.drop_append, List.drop_of_length_le (by rw [List.length_append]; omega), List.nil_append, List.length_append, hr]
  rw [e s rfl, e s' hs.symm]
theorem seg_mid {p s q : List α} {n : Nat} (hn : s.length = n) : seg (p ++ s ++ q) p.length n = s := by
  unfold seg
  rw [List.append_assoc, List.drop_left, ← hn, List.take_left]
theorem seg_end {p s : List α} {n : Nat} (hn : s.length ≤ n) : seg (p ++ s) p.length n = s := by
  unfold seg
  rw [List.drop_left, List.take_of_length_le hn]
theorem seg_past {l : List α} {a n : Nat} (h : l.length ≤ a) : seg l a n = [] := by
  unfold seg
  rw [List.drop_of_length_le h, List.take_nil]
theorem rising_nil : Rising f ([] : List α) := List.Pairwise.nil
theorem seg_all {l : List α} {n : Nat} (h : l.length ≤ n) : seg l 0 n = l := by unfold seg; rw [List.drop_zero, List.take_of_length_le h]
theorem swap_next {A B : List α} {x y : α} {k : Nat} (hk : k = A.length) : ((A ++ y :: x :: B).set k x).set (k + 1) y = A ++ x :: y :: B ∧ ((A ++ y :: x :: B).set (k + 1) y).set k x = A ++ x :: y :: B := by
  subst hk
  constructor
  · rw [List.set_append_right _ _ (Nat.le_refl _), Nat.sub_self, List.set_cons_zero, List.set_append_right _ _ (by omega)]
    rw [show A.length + 1 - A.length = 1 by omega]
    rfl
  · rw [List.set_append_right _ _ (by omega), show A.length + 1 - A.length = 1 by omega, List.set_append_right _ _ (by omega), Nat.sub_self]
    rfl
theorem at_next {A B : List α} {x y : α} {k : Nat} (hk : k = A.length) : (A ++ y :: x :: B)[k]? = some y ∧ (A ++ y :: x :: B)[k + 1]? = some x := by
  subst hk
  simp
theorem Stable.count [BEq α] [LawfulBEq α] (hf : Pre f) {l l' : List α} (h : Stable f l l') (a : α) : l.count a = l'.count a := by
  have key : ∀ l : List α, (same f a l).count a = l.count a := fun l => by
    unfold same
    rw [List.count_filter]
    simp [hf.refl]
  rw [← key l, ← key l', h a]
theorem Stable.perm [BEq α] [LawfulBEq α] (hf : Pre f) {l l' : List α} (h : Stable f l l') : l.Perm l' := List.perm_iff_count.2 (h.count hf)
theorem Pre.on {β : Type} (hf : Pre f) (g : β → α) : Pre fun x y => f (g x) (g y) := ⟨fun a b => hf.neg (g a) (g b), fun a b c => hf.trans (g a) (g b) (g c)⟩
theorem IsSort.map {β : Type} (hf : Pre f) {g : β → α} {l s : List β} (h : IsSort (fun x y => f (g x) (g y)) l s) : IsSort f (l.map g) (s.map g) := by
  constructor
  · have h1 := h.1
    unfold Rising at h1 ⊢
    rw [List.pairwise_map]
    exact h1
  · intro x
    have hp := hf.on g
    have key : ∀ l : List β, same f x (l.map g) = (l.filter fun y => decide (f (g y) x = 0)).map g := fun l => by
      unfold same
      rw [List.filter_map]
      rfl
    rw [key, key]
    congr 1
    by_cases he : ∃ y ∈ l, f (g y) x = 0
    · obtain ⟨y0, hy0, hx0⟩ := he
      have hc : ∀ y, decide (f (g y) x = 0) = decide (f (g y) (g y0) = 0) := fun y => decide_eq_decide.2 ⟨fun h => hf.alike h (hf.sym hx0), fun h => hf.alike h hx0⟩
      have h2 := h.2 y0
      unfold same at h2
      simp only [hc]
      exact h2
    · have h1 : l.filter (fun y => decide (f (g y) x = 0)) = [] := List.filter_eq_nil_iff.2 fun y hy hd => he ⟨y, hy, of_decide_eq_true hd⟩
      have h2 : s.filter (fun y => decide (f (g y) x = 0)) = [] := List.filter_eq_nil_iff.2 fun y hy hd => he ⟨y, (h.mem hp).1 hy, of_decide_eq_true hd⟩
      rw [h1, h2]
end Go.Proofs.YtaoegcakefodaaaGreat.OrdPure

namespace Go.Proofs.YtaoegcakefodaaaGreat
structure Ky where
  col : Int
  down : Bool
deriving DecidableEq
def Ky.cells (k : Ky) : List Value := [.int .i64 k.col, .bool k.down]
def Ky.val (k : Ky) : Value := .agg #[.int .i64 k.col, .bool k.down]
def Ky.fits (k : Ky) : Prop := -9223372036854775808 ≤ k.col ∧ k.col ≤ 9223372036854775807
def atV (r : List V) (c : Int) : V := if 0 ≤ c then match r[c.toNat]? with | some v => if v.k ≤ 0 then V.zero else v | none => V.zero else V.zero
theorem atV_null {r : List V} {c : Int} (h : (atV r c).k ≤ 0) : atV r c = V.zero := by
  unfold atV at h ⊢
  split
  · rename_i h0
    rw [if_pos h0] at h
    split
    · rename_i v hv
      rw [hv] at h
      simp only at h
      split
      · rfl
      · rename_i hk
        rw [if_neg hk] at h
        omega
    · rfl
  · rfl
theorem atV_kind (r : List V) (c : Int) : 0 ≤ (atV r c).k := by
  by_cases h : (atV r c).k ≤ 0
  · rw [atV_null h]; simp [V.zero]
  · omega
theorem atV_out {r : List V} {c : Int} (h : c < 0 ∨ (r.length : Int) ≤ c) : atV r c = V.zero := by
  unfold atV
  split
  · rw [List.getElem?_eq_none (by omega)]
  · rfl
theorem atV_in {r : List V} {c : Nat} (h : c < r.length) : atV r c = if r[c].k ≤ 0 then V.zero else r[c] := by
  unfold atV
  rw [if_pos (by omega), Int.toNat_natCast, List.getElem?_eq_getElem h]
def cmpK (k : Ky) (a b : List V) : Int :=
  let x := atV a k.col
  let y := atV b k.col
  if k.down = true ∧ x.k ≠ 0 ∧ y.k ≠ 0 then -cmpV x y else cmpV x y
def cmpR : List Ky → List V → List V → Int
  | [], _, _ => 0
  | k :: t, a, b => if cmpK k a b = 0 then cmpR t a b else cmpK k a b
theorem cmpV_le_trans {a b c : V} (h1 : cmpV a b ≤ 0) (h2 : cmpV b c ≤ 0) : cmpV a c ≤ 0 := by
  rcases cmpV_law a b c with (h | h) | h
  · omega
  · omega
  · exact h.1
theorem cmpV_null_left {b : V} (h : 0 ≤ b.k) (hb : b.k = 0 → b = V.zero) : cmpV V.zero b ≤ 0 := by
  by_cases h0 : b.k = 0
  · rw [hb h0, cmpV_zero.2 rfl]; omega
  · unfold cmpV
    rw [if_neg (fun e => h0 e.symm)]
    have := (cmpN_lt (a := V.zero.k) (b := b.k)).2 (by show (0 : Int) < b.k; omega)
    omega
theorem cmpV_null_strict {b : V} (h : 0 < b.k) : cmpV V.zero b = -1 := by
  unfold cmpV
  rw [if_neg (fun e => by have : (0 : Int) = b.k := e; omega)]
  exact (cmpN_lt (a := V.zero.k) (b := b.k)).2 (by show (0 : Int) < b.k; omega)
theorem cmpK_pre (k : Ky) : OrdPure.Pre (cmpK k) := by
  constructor
  · intro a b
    unfold cmpK
    simp only
    rw [cmpV_neg (atV a k.col) (atV b k.col)]
    by_cases h : k.down = true ∧ (atV a k.col).k ≠ 0 ∧ (atV b k.col).k ≠ 0
    · rw [if_pos h, if_pos ⟨h.1, h.2.2, h.2.1⟩]
    · rw [if_neg h, if_neg (fun h' => h ⟨h'.1, h'.2.2, h'.2.1⟩)]
  · intro a b c
    unfold cmpK
    simp only
    have ha := atV_kind a k.col
    have hb := atV_kind b k.col
    have hc := atV_kind c k.col
    have na := fun h => @atV_null a k.col h
    have nb := fun h => @atV_null b k.col h
    have nc := fun h => @atV_null c k.col h
    generalize atV a k.col = x at *
    generalize atV b k.col = y at *
    generalize atV c k.col = z at *
    by_cases hd : k.down = true
    · simp only [hd, true_and]
      by_cases hx : x.k = 0
      · intro _ _
        rw [if_neg (fun h => h.1 hx), na (by omega)]
        exact cmpV_null_left hc fun h => nc (by omega)
      · by_cases hy : y.k = 0
        · rw [if_neg (fun h => h.2 hy), nb (by omega)]
          intro h1
          have := cmpV_null_strict (b := x) (by omega)
          have := cmpV_neg V.zero x
          omega
        · by_cases hz : z.k = 0
          · rw [if_pos ⟨hx, hy⟩, if_neg (fun h => h.2 hz), if_neg (fun h => h.2 hz), nc (by omega)]
            intro _ h1
            have := cmpV_null_strict (b := y) (by omega)
            have := cmpV_neg V.zero y
            omega
          · rw [if_pos ⟨hx, hy⟩, if_pos ⟨hy, hz⟩, if_pos ⟨hx, hz⟩]
            intro h1 h2
            have e1 := cmpV_neg x y
            have e2 := cmpV_neg y z
            have e3 := cmpV_neg x z
            have := cmpV_le_trans (a := z) (b := y) (c := x) (by omega) (by omega)
            omega
    · rw [if_neg (fun h => hd h.1), if_neg (fun h => hd h.1), if_neg (fun h => hd h.1)]
      exact cmpV_le_trans
theorem pre_then {α : Type} {f g : α → α → Int} (hf : OrdPure.Pre f) (hg : OrdPure.Pre g) : OrdPure.Pre fun a b => if f a b = 0 then g a b else f a b := by
  constructor
  · intro a b
    try simp only
    have := hf.neg a b
    by_cases h : f a b = 0
    · rw [if_pos h, if_pos (by omega), hg.neg]
    · rw [if_neg h, if_neg (by omega), this]
  · intro a b c
    try simp only
    have t1 := hf.trans a b c
    have t2 := hf.trans b c a
    have t3 := hf.trans c a b
    have n1 := hf.neg a b
    have n2 := hf.neg b c
    have n3 := hf.neg a c
    have u1 := hg.trans a b c
    by_cases h1 : f a b = 0
    · by_cases h2 : f b c = 0
      · rw [if_pos h1, if_pos h2, if_pos (hf.alike h1 h2)]
        exact u1
      · rw [if_pos h1, if_neg h2]
        intro _ h3
        split <;> omega
    · rw [if_neg h1]
      intro h3 h4
      by_cases h2 : f b c = 0
      · split <;> omega
      · rw [if_neg h2] at h4
        split <;> omega
theorem cmpR_pre (ks : List Ky) : OrdPure.Pre (cmpR ks) := by
  induction ks with
  | nil => exact ⟨fun _ _ => rfl, fun _ _ _ _ _ => Int.le_refl _⟩
  | cons k t ih => exact pre_then (cmpK_pre k) ih
instance (ks : List Ky) (rs : List (List V)) : Decidable (OrdPure.Rising (cmpR ks) rs) := inferInstanceAs (Decidable (rs.Pairwise fun a b => cmpR ks a b ≤ 0))
noncomputable def sortS (ks : List Ky) (rs : List (List V)) : List (List V) := Classical.choose (OrdPure.sort_exists (cmpR_pre ks) rs)
theorem sortS_is (ks : List Ky) (rs : List (List V)) : OrdPure.IsSort (cmpR ks) rs (sortS ks rs) := Classical.choose_spec (OrdPure.sort_exists (cmpR_pre ks) rs)
theorem sortS_eq {ks : List Ky} {rs s : List (List V)} (h : OrdPure.IsSort (cmpR ks) rs s) : s = sortS ks rs := OrdPure.IsSort.unique (cmpR_pre ks) h (sortS_is ks rs)
end Go.Proofs.YtaoegcakefodaaaGreat

namespace Go.Proofs.YtaoegcakefodaaaGreat.LosPure
open OrdPure
variable {α : Type} {f : α → α → Int}
def nextS (f : α → α → Int) : List (Option α) → Option Nat
  | [] => none
  | none :: t => (nextS f t).map (· + 1)
  | some r :: t => match nextS f t with
    | none => some 0
    | some j => match t[j]? with
      | some (some q) => if f r q ≤ 0 then some 0 else some (j + 1)
      | _ => some 0
def IsNext (f : α → α → Int) (os : List (Option α)) : Option Nat → Prop
  | none => ∀ (i : Nat) (r : α), os[i]? ≠ some (some r)
  | some j => ∃ q, os[j]? = some (some q) ∧ ∀ (i : Nat) (r : α), os[i]? = some (some r) → (i < j → f q r < 0) ∧ f q r ≤ 0
theorem nextS_is (hf : Pre f) : ∀ os : List (Option α), IsNext f os (nextS f os)
  | [] => by intro i r h; simp at h
  | none :: t => by
    have ih := nextS_is hf t
    unfold nextS
    cases hn : nextS f t with
    | none =>
      rw [hn] at ih
      intro i r h
      cases i with
      | zero => simp at h
      | succ i => exact ih i r (by simpa using h)
    | some j =>
      rw [hn] at ih
      obtain ⟨q, h1, h2⟩ := ih
      refine ⟨q, by simpa using h1, fun i r h => ?_⟩
      cases i with
      | zero => simp at h
      | succ i =>
        have h3 := h2 i r (by simpa using h)
        exact ⟨fun hi => h3.1 (by have hi' : i + 1 < j + 1 := hi; omega), h3.2⟩
  | some r :: t => by
    have ih := nextS_is hf t
    unfold nextS
    cases hn : nextS f t with
    | none =>
      rw [hn] at ih
      refine ⟨r, by simp, fun i r' h => ?_⟩
      cases i with
      | zero =>
        have e : r = r' := by simpa using h
        subst e
        exact ⟨fun hi => absurd hi (Nat.not_lt_zero _), by rw [hf.refl]; omega⟩
      | succ i => exact absurd (by simpa using h) (ih i r')
    | some j =>
      rw [hn] at ih
      obtain ⟨q, h1, h2⟩ := ih
      simp only [h1]
      by_cases hq : f r q ≤ 0
      · rw [if_pos hq]
        refine ⟨r, by simp, fun i r' h => ?_⟩
        cases i with
        | zero =>
          have e : r = r' := by simpa using h
          subst e
          exact ⟨fun hi => absurd hi (Nat.not_lt_zero _), by rw [hf.refl]; omega⟩
        | succ i => exact ⟨fun hi => absurd hi (Nat.not_lt_zero _), hf.trans _ _ _ hq (h2 i r' (by simpa using h)).2⟩
      · rw [if_neg hq]
        refine ⟨q, by simpa using h1, fun i r' h => ?_⟩
        cases i with
        | zero =>
          have e : r = r' := by simpa using h
          subst e
          have := hf.neg r q
          exact ⟨fun _ => by omega, by omega⟩
        | succ i =>
          have h3 := h2 i r' (by simpa using h)
          exact ⟨fun hi => h3.1 (by omega), h3.2⟩
theorem IsNext.unique (hf : Pre f) {os : List (Option α)} {a b : Option Nat} (ha : IsNext f os a) (hb : IsNext f os b) : a = b := by
  cases a with
  | none =>
    cases b with
    | none => rfl
    | some j => obtain ⟨q, h1, -⟩ := hb; exact absurd h1 (ha j q)
  | some i =>
    obtain ⟨p, h1, h2⟩ := ha
    cases b with
    | none => exact absurd h1 (hb i p)
    | some j =>
      obtain ⟨q, h3, h4⟩ := hb
      have a1 := h2 j q h3
      have a2 := h4 i p h1
      have := hf.neg p q
      rcases Nat.lt_trichotomy i j with h | h | h
      · have := a2.1 h; omega
      · rw [h]
      · have := a1.1 h; omega
theorem IsNext.eq (hf : Pre f) {os : List (Option α)} {b : Option Nat} (h : IsNext f os b) : nextS f os = b := IsNext.unique hf (nextS_is hf os) h
theorem next_some (hf : Pre f) {os : List (Option α)} {j : Nat} (h : nextS f os = some j) : ∃ q, os[j]? = some (some q) ∧ ∀ i r, os[i]? = some (some r) → (i < j → f q r < 0) ∧ f q r ≤ 0 := by
  have := nextS_is hf os
  rw [h] at this
  exact this
theorem next_none (hf : Pre f) {os : List (Option α)} (h : nextS f os = none) : ∀ (i : Nat) (r : α), os[i]? ≠ some (some r) := by
  have := nextS_is hf os
  rw [h] at this
  exact this
def mergeN (f : α → α → Int) : Nat → List (List α) → List α
  | 0, _ => []
  | n + 1, ls => match nextS f (ls.map List.head?) with
    | none => []
    | some i => match ls[i]? with
      | some (x :: t) => x :: mergeN f n (ls.set i t)
      | _ => []
def mergeL (f : α → α → Int) (ls : List (List α)) : List α := mergeN f ls.flatten.length ls
theorem set_parts {ls : List α} {i : Nat} {x : α} (h : ls[i]? = some x) (y : α) : ls = ls.take i ++ x :: ls.drop (i + 1) ∧ ls.set i y = ls.take i ++ y :: ls.drop (i + 1) := by
  obtain ⟨hi, rfl⟩ := List.getElem?_eq_some_iff.1 h
  refine ⟨?_, List.set_eq_take_append_cons_drop.trans (if_pos hi)⟩
  conv => lhs; rw [← List.take_append_drop i ls]
  rw [List.drop_eq_getElem_cons hi]
theorem mergeN_sort (hf : Pre f) : ∀ (n : Nat) (ls : List (List α)), ls.flatten.length = n → (∀ l ∈ ls, Rising f l) → IsSort f ls.flatten (mergeN f n ls)
  | 0, ls, hn, _ => by
    rw [List.eq_nil_of_length_eq_zero hn]
    exact IsSort.nil
  | n + 1, ls, hn, hr => by
    unfold mergeN
    cases hx : nextS f (ls.map List.head?) with
    | none =>
      exfalso
      have h0 := next_none hf hx
      have h1 : ls.flatten = [] := by
        rw [List.flatten_eq_nil_iff]
        intro l hl
        obtain ⟨i, hi, rfl⟩ := List.mem_iff_getElem.1 hl
        cases hc : ls[i] with
        | nil => rfl
        | cons x t =>
          refine absurd ?_ (h0 i x)
          rw [List.getElem?_map, List.getElem?_eq_getElem hi, hc]
          rfl
      rw [h1] at hn
      simp at hn
    | some i =>
      obtain ⟨q, h1, h2⟩ := next_some hf hx
      rw [List.getElem?_map] at h1
      cases hc : ls[i]? with
      | none => rw [hc] at h1; simp at h1
      | some l =>
        rw [hc] at h1
        cases l with
        | nil => simp at h1
        | cons q' t =>
          have e : q' = q := by simpa using h1
          subst e
          simp only [hc]
          obtain ⟨e1, e2⟩ := set_parts hc t
          have key : ∀ k l', ls[k]? = some l' → ∀ y ∈ l', (k < i → 0 < f y q') ∧ f q' y ≤ 0 := fun k l' hk y hy => by
            have hl' : l' ∈ ls := List.mem_of_getElem? hk
            cases l' with
            | nil => simp at hy
            | cons h t' =>
              have h3 := h2 k h (by rw [List.getElem?_map, hk]; rfl)
              rcases List.mem_cons.1 hy with rfl | hy
              · have := hf.neg q' y
                exact ⟨fun hi => by have := h3.1 hi; omega, h3.2⟩
              · have h4 := (List.pairwise_cons.1 (hr _ hl')).1 y hy
                refine ⟨fun hi => ?_, hf.trans _ _ _ h3.2 h4⟩
                have h5 := h3.1 hi
                have h6 := hf.trans h y q' h4
                have := hf.neg q' h
                omega
          have hA : ∀ a ∈ (ls.take i).flatten, 0 < f a q' := fun a ha => by
            obtain ⟨l', hl', hal⟩ := List.mem_flatten.1 ha
            obtain ⟨k, hk, rfl⟩ := List.mem_iff_getElem.1 hl'
            rw [List.length_take] at hk
            rw [List.getElem_take] at hal
            exact (key k _ (List.getElem?_eq_getElem (by omega)) a hal).1 (by omega)
          have hset : (ls.set i t).flatten = (ls.take i).flatten ++ (t ++ (ls.drop (i + 1)).flatten) := by
            rw [e2, List.flatten_append, List.flatten_cons]
          have hfl : ls.flatten = (ls.take i).flatten ++ q' :: (t ++ (ls.drop (i + 1)).flatten) := by
            conv => lhs; rw [e1]
            rw [List.flatten_append, List.flatten_cons, List.cons_append]
          have ih := mergeN_sort hf n (ls.set i t) (by
            rw [hset]
            rw [hfl] at hn
            simp only [List.length_append, List.length_cons] at hn ⊢
            omega) (fun l' hl' => by
              rcases List.mem_or_eq_of_mem_set hl' with h | h
              · exact hr l' h
              · subst h
                exact (List.pairwise_cons.1 (hr _ (List.mem_of_getElem? hc))).2)
          rw [hset] at ih
          rw [hfl]
          refine ⟨List.pairwise_cons.2 ⟨fun y hy => ?_, ih.1⟩, ?_⟩
          · have hy' : y ∈ ls.flatten := by
              rw [hfl]
              have := (ih.mem hf).1 hy
              rw [List.mem_append] at this ⊢
              rcases this with h | h
              · exact .inl h
              · exact .inr (List.mem_cons_of_mem _ h)
            obtain ⟨l', hl', hyl⟩ := List.mem_flatten.1 hy'
            obtain ⟨k, hk, rfl⟩ := List.mem_iff_getElem.1 hl'
            exact (key k _ (List.getElem?_eq_getElem hk) y hyl).2
          · have h5 : Stable f ((ls.take i).flatten ++ [q']) ([q'] ++ (ls.take i).flatten) := Stable.blocks hf (fun a ha b hb => by
              rw [List.mem_singleton] at hb
              subst hb
              exact hA a ha)
            have h6 := Stable.append h5 (Stable.refl (f := f) (t ++ (ls.drop (i + 1)).flatten))
            rw [List.append_assoc, List.append_assoc] at h6
            exact Stable.trans h6 (Stable.append (Stable.refl [q']) ih.2)
theorem mergeL_sort (hf : Pre f) {ls : List (List α)} (hr : ∀ l ∈ ls, Rising f l) : IsSort f ls.flatten (mergeL f ls) := mergeN_sort hf _ ls rfl hr
theorem Stable.flatten {ls ms : List (List α)} (h : ls.length = ms.length) (hs : ∀ i, (hi : i < ls.length) → Stable f ls[i] (ms[i]'(h ▸ hi))) : Stable f ls.flatten ms.flatten := by
  induction ls generalizing ms with
  | nil =>
    cases ms with
    | nil => exact Stable.refl _
    | cons _ _ => simp at h
  | cons a t ih =>
    cases ms with
    | nil => simp at h
    | cons b u =>
      rw [List.flatten_cons, List.flatten_cons]
      exact Stable.append (hs 0 (by simp)) (ih (by simpa using h) fun i hi => hs (i + 1) (by simpa using hi))
end Go.Proofs.YtaoegcakefodaaaGreat.LosPure
namespace Go.Proofs.YtaoegcakefodaaaGreat
open OrdPure in
theorem mergeL_sortS (ks : List Ky) (ls : List (List (List V))) : LosPure.mergeL (cmpR ks) (ls.map (sortS ks)) = sortS ks ls.flatten := by
  refine sortS_eq ?_
  have h1 := LosPure.mergeL_sort (cmpR_pre ks) (ls := ls.map (sortS ks)) (fun l hl => by
    obtain ⟨m, -, rfl⟩ := List.mem_map.1 hl
    exact (sortS_is ks m).1)
  refine ⟨h1.1, Stable.trans (LosPure.Stable.flatten (by rw [List.length_map]) fun i hi => ?_) h1.2⟩
  rw [List.getElem_map]
  exact (sortS_is ks ls[i]).2
end Go.Proofs.YtaoegcakefodaaaGreat

namespace Go.Proofs.YtaoegcakefodaaaGreat
open Go.RowKit
structure Upon (s0 s : St) (l : List Nat) : Prop where
  nd : l.Nodup
  len : s.length = s0.length
  on : ∀ i ∈ l, s0[i]? = some none ∧ ∃ q, s[i]? = some (some q)
  off : ∀ i, i ∉ l → s[i]? = s0[i]?
theorem Upon.nil (s : St) : Upon s s [] := ⟨List.nodup_nil, rfl, fun i h => by simp at h, fun _ _ => rfl⟩
theorem Upon.eq {s0 s : St} (h : Upon s0 s []) : s = s0 := List.ext_getElem? fun i => h.off i (by simp)
theorem Upon.perm {s0 s : St} {l l' : List Nat} (h : Upon s0 s l) (hp : l.Perm l') : Upon s0 s l' :=
  ⟨hp.nodup h.nd, h.len, fun i hi => h.on i (hp.mem_iff.2 hi), fun i hi => h.off i fun h2 => hi (hp.mem_iff.1 h2)⟩
def takenS (s : St) : List Nat := (List.range s.length).filter fun i => (s[i]?.join).isSome
theorem Part.taken (s : St) : Part s (takenS s) := by
  refine ⟨List.nodup_range.filter _, fun i => ?_⟩
  unfold takenS
  rw [List.mem_filter, List.mem_range]
  constructor
  · rintro ⟨q, h⟩
    refine ⟨(List.getElem?_eq_some_iff.1 h).1, ?_⟩
    rw [h]
    rfl
  · rintro ⟨h1, h2⟩
    rw [List.getElem?_eq_getElem h1] at h2 ⊢
    cases hs : s[i] with
    | none => rw [hs] at h2; simp at h2
    | some q => exact ⟨q, rfl⟩
theorem Upon.part {s0 s : St} {l : List Nat} (h : Upon s0 s l) : Part s (l ++ takenS s0) := by
  have h0 := Part.taken s0
  have hno : ∀ i ∈ l, i ∉ takenS s0 := fun i hi h2 => by
    obtain ⟨q, hq⟩ := (h0.2 i).2 h2
    rw [(h.on i hi).1] at hq
    cases hq
  refine ⟨List.nodup_append.2 ⟨h.nd, h0.1, fun i hi j hj e => hno i hi (e ▸ hj)⟩, fun i => ?_⟩
  rw [List.mem_append]
  by_cases hi : i ∈ l
  · exact ⟨fun _ => .inl hi, fun _ => (h.on i hi).2⟩
  · rw [h.off i hi, h0.2 i]
    exact ⟨.inr, fun h2 => h2.resolve_left hi⟩
theorem Upon.used {s0 s : St} {l : List Nat} (h : Upon s0 s l) : usedS s = l.length + usedS s0 := by
  rw [h.part.used, (Part.taken s0).used, List.length_append]
theorem Upon.fits {s0 s : St} {l : List Nat} (h : Upon s0 s l) : usedS s ≤ s.length := by
  rw [h.part.used, h.len]
  have hd := filter_lt (l ++ takenS s0) s.length h.part.1 fun i hi => h.part.lt hi
  have := List.length_filter_le (fun i => decide (i ∈ l ++ takenS s0)) (List.range s.length)
  rw [hd, List.length_range, h.len] at this
  exact this
theorem Upon.store {s0 s : St} {l : List Nat} (h : Upon s0 s l) (b : List UInt8) {k : Nat} (hk : k + usedS s ≤ s.length) : Upon s0 (storeK s b k) (idsK s k ++ l) := by
  have hfree : ∀ i ∈ idsK s k, s[i]? = some none := fun i hi => by
    have := takeS_free k 0 s i hi
    rwa [Nat.sub_zero] at this
  have hno : ∀ i ∈ idsK s k, i ∉ l := fun i hi h2 => by
    obtain ⟨q, hq⟩ := (h.on i h2).2
    rw [hfree i hi] at hq
    cases hq
  have hp := (Part.taken s).take b hk
  have hoth : ∀ i, i ∉ idsK s k → (storeK s b k)[i]? = s[i]? := fun i hi => writesS_other _ _ _ _ hi
  refine ⟨List.nodup_append.2 ⟨takeS_nodup k 0 s, h.nd, fun i hi j hj e => hno i hi (e ▸ hj)⟩, (storeK_length s b k).trans h.len, fun i hi => ?_, fun i hi => ?_⟩
  · by_cases hi2 : i ∈ idsK s k
    · exact ⟨(h.off i (hno i hi2)).symm.trans (hfree i hi2), (hp.2 i).2 (List.mem_append.2 (.inl hi2))⟩
    · have hl := (List.mem_append.1 hi).resolve_left hi2
      rw [hoth i hi2]
      exact h.on i hl
  · rw [hoth i fun h2 => hi (List.mem_append.2 (.inl h2))]
    exact h.off i fun h2 => hi (List.mem_append.2 (.inr h2))
theorem Upon.drop {s0 s : St} {a l : List Nat} (h : Upon s0 s (a ++ l)) : Upon s0 (dropS s (intsN a)) l := by
  obtain ⟨-, hl, ha⟩ := List.nodup_append.1 h.nd
  have hoth : ∀ i, i ∉ a → (dropS s (intsN a))[i]? = s[i]? := fun i hi => by
    unfold intsN
    exact dropS_other _ s i fun j hj e => by
      obtain ⟨q, hq, rfl⟩ := List.mem_map.1 hj
      exact hi (by have : q = i := by omega
                   exact this ▸ hq)
  refine ⟨hl, (dropS_length _ _).trans h.len, fun i hi => ?_, fun i hi => ?_⟩
  · have h1 := h.on i (List.mem_append.2 (.inr hi))
    rw [hoth i fun h2 => ha i h2 i hi rfl]
    exact h1
  · by_cases h2 : i ∈ a
    · obtain ⟨h3, q, h4⟩ := h.on i (List.mem_append.2 (.inl h2))
      rw [h3]
      unfold intsN
      exact dropS_self a s i h2 (List.getElem?_eq_some_iff.1 h4).1
    · rw [hoth i h2]
      exact h.off i fun h3 => (List.mem_append.1 h3).elim h2 hi
theorem dropS_append : ∀ (a b : List Int) (s : St), dropS s (a ++ b) = dropS (dropS s a) b
  | [], _, _ => rfl
  | x :: t, b, s => by
    rw [List.cons_append]
    simp only [dropS]
    exact dropS_append t b _
theorem intsN_append (a b : List Nat) : intsN (a ++ b) = intsN a ++ intsN b := List.map_append
structure Run where
  f : Nat
  F : Nat → Prop
  ids : List Nat
  y : List (List V)
structure OnD (ks : List Ky) (s0 s : St) (rs : List Run) : Prop where
  upon : Upon s0 s (rs.flatMap Run.ids)
  hold : ∀ r ∈ rs, Holds s r.ids (rowsB (sortS ks r.y))
theorem OnD.nil (ks : List Ky) (s : St) : OnD ks s s [] := ⟨Upon.nil s, fun r h => by simp at h⟩
theorem bytes_perm {l l' : List (List V)} (h : l.Perm l') : (rowsB l).length = (rowsB l').length := (h.flatMap_right rowB).length_eq
theorem sortS_perm (ks : List Ky) (l : List (List V)) : (sortS ks l).Perm l := ((sortS_is ks l).2.perm (cmpR_pre ks)).symm
theorem bytes_sorted (ks : List Ky) (l : List (List V)) : (rowsB (sortS ks l)).length = (rowsB l).length := bytes_perm (sortS_perm ks l)
theorem need_le (n : Nat) : 56 * needS (n : Int) ≤ (n : Int) + 55 := by
  unfold needS
  split <;> omega
theorem need_mono {a b : Nat} (h : a ≤ b) : needS (a : Int) ≤ needS (b : Int) := by
  unfold needS
  split <;> split <;> omega
theorem need_ge56 (n : Nat) : (n : Int) ≤ 56 * needS (n : Int) := by
  unfold needS
  split <;> omega
theorem OnD.pages {ks : List Ky} {s0 s : St} {rs : List Run} (h : OnD ks s0 s rs) : 56 * ((rs.flatMap Run.ids).length : Int) ≤ ((rowsB (rs.flatMap Run.y)).length : Int) + 55 * (rs.length : Int) := by
  have key : ∀ l : List Run, (∀ r ∈ l, Holds s r.ids (rowsB (sortS ks r.y))) → 56 * ((l.flatMap Run.ids).length : Int) ≤ ((rowsB (l.flatMap Run.y)).length : Int) + 55 * (l.length : Int) := fun l => by
    induction l with
    | nil => intro _; simp [rowsB]
    | cons r t ih =>
      intro hl
      have h1 := ih fun q hq => hl q (List.mem_cons_of_mem _ hq)
      have h2 := (hl r (List.mem_cons_self ..)).count
      have h3 := need_le (rowsB (sortS ks r.y)).length
      rw [bytes_sorted] at h2 h3
      rw [List.flatMap_cons, List.flatMap_cons, rowsB_append, List.length_append, List.length_append, List.length_cons]
      omega
  exact key rs h.hold
def NoRoom (s0 : St) (rows : List (List V)) (n : Nat) : Prop := (s0.length : Int) - usedS s0 < 2 * needS ((rowsB rows).length : Int) + n
theorem OnD.noRoom {ks : List Ky} {s0 s : St} {rs : List Run} {y rest rows : List (List V)} (h : OnD ks s0 s rs) (hr : rs.flatMap Run.y ++ (y ++ rest) = rows) (hn : (s.length : Int) - usedS s < needS ((rowsB (sortS ks y)).length : Int)) : NoRoom s0 rows (rs.length + 1) := by
  have h1 := h.pages
  have h2 := h.upon.used
  have h3 := h.upon.len
  have h4 : (rowsB rows).length = (rowsB (rs.flatMap Run.y)).length + ((rowsB y).length + (rowsB rest).length) := by
    rw [← hr, rowsB_append, rowsB_append, List.length_append, List.length_append]
  have h5 := need_le (rowsB y).length
  have h6 := need_ge56 (rowsB rows).length
  rw [bytes_sorted] at hn
  unfold NoRoom
  omega
theorem OnD.noRoomJ {ks : List Ky} {s0 s : St} {rs : List Run} {y rows : List (List V)} (h : OnD ks s0 s rs) (hr : rs.flatMap Run.y = rows) (hy : (rowsB y).length ≤ (rowsB rows).length) (hn : (s.length : Int) - usedS s < needS ((rowsB (sortS ks y)).length : Int)) : NoRoom s0 rows rs.length := by
  have h1 := h.pages
  have h2 := h.upon.used
  have h3 := h.upon.len
  have h5 := need_mono hy
  have h6 := need_ge56 (rowsB rows).length
  rw [hr] at h1
  rw [bytes_sorted] at hn
  unfold NoRoom
  omega
theorem OnD.put {ks : List Ky} {s0 s : St} {rs : List Run} (h : OnD ks s0 s rs) {y : List (List V)} (hm : ∀ r ∈ y, mayR r = 0) (he : (putR s (sortS ks y)).1.2 = 0) (f : Nat) (F : Nat → Prop) : OnD ks s0 (putR s (sortS ks y)).2 (rs ++ [⟨f, F, (putR s (sortS ks y)).1.1, y⟩]) := by
  have hm' : ∀ r ∈ sortS ks y, mayR r = 0 := fun r hr => hm r ((sortS_perm ks y).mem_iff.1 hr)
  have hroom : needS ((rowsB (sortS ks y)).length : Int) ≤ (s.length : Int) - usedS s := by
    rw [putR_all hm'] at he
    by_cases hn : (s.length : Int) - usedS s < needS ((rowsB (sortS ks y)).length : Int)
    · rw [if_pos hn] at he
      cases he
    · omega
  have hnn := needS_ge (rowsB (sortS ks y)).length
  have hk : (needS ((rowsB (sortS ks y)).length : Int)).toNat + usedS s ≤ s.length := by omega
  have e : putR s (sortS ks y) = ((idsK s (needS ((rowsB (sortS ks y)).length : Int)).toNat, 0), storeK s (rowsB (sortS ks y)) (needS ((rowsB (sortS ks y)).length : Int)).toNat) := by
    rw [putR_good hm' hroom, storeK_put hroom]
  have hh := putS_holds (s := s) (x := rowsB (sortS ks y)) (by rw [storeK_put hroom])
  rw [storeK_put hroom] at hh
  rw [e]
  have hu := h.upon.store (rowsB (sortS ks y)) hk
  refine ⟨?_, fun r hr => ?_⟩
  · rw [List.flatMap_append]
    refine hu.perm ?_
    simp only [List.flatMap_cons, List.flatMap_nil, List.append_nil]
    exact List.perm_append_comm
  · rcases List.mem_append.1 hr with hr | hr
    · refine (h.hold r hr).keep fun i hi q hq => ?_
      rw [show (storeK s (rowsB (sortS ks y)) (needS ((rowsB (sortS ks y)).length : Int)).toNat)[i]? = s[i]? from writesS_other _ _ _ _ fun h2 => ?_]
      · exact hq
      · have := takeS_free _ 0 s i h2
        rw [Nat.sub_zero, hq] at this
        cases this
    · rw [List.mem_singleton] at hr
      subst hr
      exact hh.1
theorem Holds.beside {s : St} {ids : List Nat} {x : List UInt8} (h : Holds s ids x) (b : List UInt8) (k : Nat) : Holds (storeK s b k) ids x := by
  refine h.keep fun i hi q hq => ?_
  rw [show (storeK s b k)[i]? = s[i]? from writesS_other _ _ _ _ fun h2 => ?_]
  · exact hq
  · have := takeS_free k 0 s i h2
    rw [Nat.sub_zero, hq] at this
    cases this
theorem OnD.drop {ks : List Ky} {s0 s : St} {a g b : List Run} (h : OnD ks s0 s (a ++ (g ++ b))) : OnD ks s0 (dropS s (intsN (g.flatMap Run.ids))) (a ++ b) := by
  have hu : Upon s0 s (g.flatMap Run.ids ++ (a ++ b).flatMap Run.ids) := by
    refine h.upon.perm ?_
    rw [List.flatMap_append, List.flatMap_append, List.flatMap_append, ← List.append_assoc, ← List.append_assoc]
    exact List.Perm.append_right _ List.perm_append_comm
  have hd := hu.drop
  refine ⟨hd, fun r hr => ?_⟩
  have hr2 : r ∈ a ++ (g ++ b) := by
    rcases List.mem_append.1 hr with hr | hr
    · exact List.mem_append.2 (.inl hr)
    · exact List.mem_append.2 (.inr (List.mem_append.2 (.inr hr)))
  refine (h.hold r hr2).keep fun i hi q hq => ?_
  have hil : i ∈ (a ++ b).flatMap Run.ids := List.mem_flatMap.2 ⟨r, hr, hi⟩
  have hng : i ∉ g.flatMap Run.ids := fun h2 => (List.nodup_append.1 hu.nd).2.2 i h2 i hil rfl
  unfold intsN
  rw [dropS_other _ s i fun j hj e => by
    obtain ⟨q', hq', rfl⟩ := List.mem_map.1 hj
    exact hng (by have : q' = i := by omega
                  exact this ▸ hq')]
  exact hq
theorem OnD.moved {ks : List Ky} {s0 s : St} {a g b : List Run} {r : Run} (h : OnD ks s0 s (a ++ ((g ++ b) ++ [r]))) : OnD ks s0 s ((a ++ [r]) ++ (g ++ b)) := by
  refine ⟨h.upon.perm ?_, fun q hq => h.hold q ?_⟩
  · rw [List.flatMap_append, List.flatMap_append (xs := g ++ b), List.flatMap_append (xs := a ++ [r]), List.flatMap_append (xs := a), List.append_assoc]
    exact List.Perm.append_left _ List.perm_append_comm
  · simp only [List.mem_append] at hq ⊢
    rcases hq with (h1 | h1) | h1 | h1
    · exact .inl h1
    · exact .inr (.inr h1)
    · exact .inr (.inl (.inl h1))
    · exact .inr (.inl (.inr h1))
end Go.Proofs.YtaoegcakefodaaaGreat

namespace Go.Proofs.YtaoegcakefodaaaGreat
open Go.RowKit Go.BigFrame
def OwnRows (base : Nat) (w : World) (hs : List Value) (rs : List (List V)) : Prop :=
  hs.length = rs.length ∧ ∀ i, (h : i < hs.length) → (h' : i < rs.length) → w.ownsRow base 56 3 hs[i] rs[i].length (rs[i].flatMap V.cells)
theorem OwnRows.nil (base : Nat) (w : World) : OwnRows base w [] [] := ⟨rfl, fun _ h => absurd h (Nat.not_lt_zero _)⟩
theorem OwnRows.rd {base : Nat} {w : World} {hs : List Value} {rs : List (List V)} (h : OwnRows base w hs rs) : HdRows w hs rs := ⟨h.1, fun i h1 h2 => RdVals.of_owns (h.2 i h1 h2)⟩
theorem OwnRows.ext {base : Nat} {w w' : World} {hs : List Value} {rs : List (List V)} (h : OwnRows base w hs rs) (hx : Ext w w') : OwnRows base w' hs rs := ⟨h.1, fun i h1 h2 => owns_extS (h.2 i h1 h2) hx⟩
theorem OwnRows.base_le {base base' : Nat} {w : World} {hs : List Value} {rs : List (List V)} (h : OwnRows base w hs rs) (hb : base' ≤ base) : OwnRows base' w hs rs := ⟨h.1, fun i h1 h2 => Joins.ownsRow_le (h.2 i h1 h2) hb⟩
theorem OwnRows.append {base : Nat} {w : World} {hs hs' : List Value} {rs rs' : List (List V)} (h : OwnRows base w hs rs) (h' : OwnRows base w hs' rs') : OwnRows base w (hs ++ hs') (rs ++ rs') := by
  refine ⟨by rw [List.length_append, List.length_append, h.1, h'.1], fun i h1 h2 => ?_⟩
  rw [List.length_append] at h1 h2
  by_cases hi : i < hs.length
  · have e1 : (hs ++ hs')[i] = hs[i] := List.getElem_append_left hi
    have e2 : (rs ++ rs')[i] = rs[i]'(h.1 ▸ hi) := List.getElem_append_left (h.1 ▸ hi)
    rw [e1, e2]
    exact h.2 i hi (h.1 ▸ hi)
  · have e := h.1
    have e1 : (hs ++ hs')[i] = hs'[i - hs.length]'(by omega) := List.getElem_append_right (by omega)
    have e2 : (rs ++ rs')[i] = rs'[i - rs.length]'(by omega) := List.getElem_append_right (by omega)
    rw [e1, e2]
    have k := h'.2 (i - hs.length) (by omega) (by omega)
    simp only [e] at k ⊢
    exact k
theorem OwnRows.one {base : Nat} {w : World} {v : Value} {r : List V} (h : w.ownsRow base 56 3 v r.length (r.flatMap V.cells)) : OwnRows base w [v] [r] := ⟨rfl, fun i h1 _ => by
  have : i = 0 := by simpa using h1
  subst this
  exact h⟩
theorem rows_apart {base base' size n n' : Nat} {w : World} {u v : Value} {xs ys : List Value} (h : w.ownsRow base 56 size u n xs) (h' : w.ownsRow base' 58 1 v n' ys) : ApartV u v := fun k h1 h2 => by
  obtain ⟨c, fz, e1⟩ := Lib.ownsRow_kind h k h1
  obtain ⟨c', fz', e2⟩ := Lib.ownsRow_kind h' k h2
  rw [e1] at e2
  injection e2 with e3
  injection e3 with e4 e5
  exact absurd e5 (by decide)
theorem OwnRows.beside {base base' n : Nat} {w w' : World} {v : Value} {ys hs : List Value} {rs : List (List V)} (h : OwnRows base w hs rs) (ho : w.ownsRow base' 58 1 v n ys) (hw : OnlyS (fun k => v.ownBlock = some k) w w') : OwnRows base w' hs rs :=
  ⟨h.1, fun i h1 h2 => owns_beside (h.2 i h1 h2) hw (rows_apart (h.2 i h1 h2) ho)⟩
def AnsRR (base : Nat) (w : World) (u : Value) (rs : List (List V)) : Prop := ∃ hs, w.ownsRow base 58 1 u hs.length hs ∧ OwnRows base w hs rs
theorem AnsRR.ext {base : Nat} {w w' : World} {u : Value} {rs : List (List V)} (h : AnsRR base w u rs) (hx : Ext w w') : AnsRR base w' u rs := by
  obtain ⟨hs, h1, h2⟩ := h
  exact ⟨hs, owns_extS h1 hx, h2.ext hx⟩
theorem run_append_noneC {P : Program} {w : World} (base : Nat) (t ty e : TypeId) (i : TypeInfo) (size c : Nat) (ht : P.underlying t = some (.slice e)) (hi : P.info? e = some i)
    (v : Value) (n : Nat) (xs : List Value) (hown : w.ownsRow base e size v n xs) :
    (Builtin.append_ #[t, t] ty #[v, .slice none 0 c]).run P w = .ok v w := by
  rcases hown.2 with ⟨rfl, rfl⟩ | ⟨g, cap, cur, rfl, _, _, hnc, _⟩
  · simp [Builtin.append_, run_underlying ht, sizeOf, typeInfo, hi, Builtin.lenOf, Builtin.firstCells]
  · simp [Builtin.append_, run_underlying ht, sizeOf, typeInfo, hi, Builtin.lenOf, Builtin.firstCells, hnc, storeCells]
theorem wpList_append_vals {ops : Array Oper} {rest : List Oper} {o : Oper} {a : Act} {Q : Exit → Act → World → Prop} {w : World} (hgd : o.guard = none) (s x : Operand) (t : TypeId)
    (ho : o.op = .call { callee := .builtin .append, args := #[s, x], argTypes := #[t, t] }) (ht : Tryz.prog.underlying t = some (.slice 56))
    (base : Nat) (v : Value) (ps : List V) (u : Value) (r : List V) (hs : a.eval s = v) (hown : w.ownsRow base 56 3 v ps.length (ps.flatMap V.cells))
    (hx : a.eval x = u) (hu : RdVals w u r) (hp : ps.length + r.length ≤ 100000000) (hbase : base ≤ w.heap.size)
    (h : ∀ v' w', w'.ownsRow base 56 3 v' (ps ++ r).length ((ps ++ r).flatMap V.cells) → Below base w w' → OnlyS (fun k => v.ownBlock = some k) w w' → wpList Tryz.prog ops Q rest (a.put o.dst v') w') :
    wpList Tryz.prog ops Q (o :: rest) a w := by
  obtain ⟨i0, hi, hz0, hz1, hz2⟩ := info_parts Tryz.info_val
  obtain ⟨ao, c, rfl, hlen, hcap, hat⟩ := hu
  have key : ∀ ad : Addr, ao = some ad → ∀ j y, (r.flatMap V.cells)[j]? = some y → w.cell? (ad.add j) = some y := fun ad e j y hj => by
    have hjl : j < r.length * 3 := by
      have := (List.getElem?_eq_some_iff.1 hj).1
      rwa [valCells_length] at this
    obtain ⟨q, m, hq, hm⟩ : ∃ q m, j = q * 3 + m ∧ m < 3 := ⟨j / 3, j % 3, by omega, by omega⟩
    subst hq
    have hql : q < r.length := by omega
    obtain ⟨g, off, e2, hc⟩ := hat q hql
    rw [e] at e2
    rw [Option.some.inj e2, add_at, ← Nat.add_assoc]
    exact hc m y ((valCells r q hql m hm).symm.trans hj)
  have hone : ∀ y ∈ r.flatMap V.cells, y.oneCell' = true := fun y hy => by
    obtain ⟨e, -, he⟩ := List.mem_flatMap.1 hy
    exact val_oneCell e y he
  cases ao with
  | none =>
    have hr : r = [] := by
      cases r with
      | nil => rfl
      | cons b t => obtain ⟨g, off, e, -⟩ := hat 0 (by simp); cases e
    subst hr
    refine wpList_plain hgd fun K hK => ?_
    have hrun := run_append_noneC (P := Tryz.prog) (w := w) base t o.type 56 i0 3 c ht hi v _ _ hown
    unfold Oper.wp
    simp [execOp, ho, resolve, invoke, builtin, hs, hx, hrun, Result.andThen]
    exact hK _ _ (h v w (by simpa using hown) (Below.refl _ _) (OnlyS.refl _ _))
  | some ad =>
    refine wpList_append_own _ hgd s x t ho base 56 i0 _ 3 32 ht hi hz0 hz1 hz2 rfl (by decide) v ps.length _ hs hown ad r.length c (r.flatMap V.cells) hx (valCells_length r) (key ad rfl) hone (by unfold maxLen; omega) (by omega) hbase fun v' w' h1 h2 _ => h v' w' ?_ ?_ ?_
    · rw [List.length_append, List.flatMap_append]
      exact h1
    · exact (Below.refl base w).grown h2 hbase (fun b hb => (hown.lt b hb).1)
    · exact OnlyS.of_grown h2
theorem empty_vals (w : World) : (w.alloc (.cells #[] 56)).ownsRow w.heap.size 56 3 (.slice (some ⟨w.heap.size, 0, none⟩) 0 0) ([] : List V).length (([] : List V).flatMap V.cells) := World.ownsRow_made w #[] 0 (Nat.le_refl _) (by simp [maxLen]) rfl
theorem owns3_shape {base : Nat} {e : TypeId} {w : World} {v : Value} {n : Nat} {xs : List Value} (h : w.ownsRow base e 3 v n xs) : ∃ a cap, v = .slice a n cap := by
  rcases h.2 with ⟨rfl, rfl⟩ | ⟨g, cap, cur, rfl, _⟩
  · exact ⟨none, 0, rfl⟩
  · exact ⟨_, cap, rfl⟩
end Go.Proofs.YtaoegcakefodaaaGreat

