/-
  Words out of bytes: over lists. No program.
-/
import Derived.Test.YtcaidgdnneomaaaDictPure
namespace Go.Proofs.Ytcaidgdnneomaaa

/-- The last one, or a. -/
def lastT (a : T8) (l : List T8) : T8 := l.getLastD a
theorem lastT_nil (a : T8) : lastT a [] = a := rfl
theorem lastT_snoc (a x : T8) (l : List T8) : lastT a (l ++ [x]) = x := by
  unfold lastT
  simp
theorem lastT_cons (a x : T8) (l : List T8) : lastT a (x :: l) = lastT x l := by
  unfold lastT
  rw [List.getLastD_cons]
theorem encW_append (a : T8) (p q : List T8) : encW a (p ++ q) = encW a p ++ encW (lastT a p) q := by
  induction p generalizing a with
  | nil => rfl
  | cons x p ih => rw [List.cons_append, encW, encW, ih, lastT_cons, List.append_assoc, List.append_assoc]
theorem encW_one (a t : T8) : encW a [t] = enc (commonN a t) ++ encT (t.drop (commonN a t)) := by
  show enc (commonN a t) ++ (encT (t.drop (commonN a t)) ++ []) = _
  rw [List.append_nil]
theorem encW_len (a : T8) (ws : List T8) (h : ∀ t ∈ ws, t.length ≤ 1024) : (encW a ws).length ≤ 1042 * ws.length := by
  induction ws generalizing a with
  | nil => exact Nat.le_refl _
  | cons t ws ih =>
    have h1 := h t (by simp)
    have h2 := ih t fun x hx => h x (by simp [hx])
    unfold encW encT
    simp only [List.length_append, List.length_cons, List.length_drop]
    have h3 := enc_length (commonN a t)
    have h4 := enc_length (t.length - commonN a t)
    omega
theorem putW_len {ws : List T8} (h : goodW ws) : (putW ws).length ≤ 208409 := by
  unfold putW
  rw [List.length_append]
  have h1 := enc_length ws.length
  have h2 := encW_len [] ws h.2.1
  have h3 := h.1
  omega
theorem putS10_len (ws : List T8) : (putS10 ws).1.length ≤ 208409 := by
  unfold putS10
  split
  · rename_i h
    exact putW_len (rightW_iff.1 h)
  · exact Nat.zero_le _
theorem putS10_ok {ws : List T8} (h : rightW ws = true) : putS10 ws = (putW ws, 0) := if_pos h
theorem putS10_no {ws : List T8} (h : rightW ws = false) : putS10 ws = ([], 1) := if_neg (by rw [h]; decide)
theorem commonN_take (a t : T8) : a.take (commonN a t) = t.take (commonN a t) := by
  induction a generalizing t with
  | nil => cases t <;> rfl
  | cons x a ih =>
    cases t with
    | nil => rfl
    | cons y t =>
      unfold commonN
      split
      · rename_i e
        subst e
        rw [Nat.add_comm, List.take_succ_cons, List.take_succ_cons, ih]
      · rfl
theorem commonN_bounds (a b : T8) : commonN a b ≤ a.length ∧ commonN a b ≤ b.length := by
  induction a generalizing b with
  | nil => exact ⟨Nat.le_refl _, by simp [commonN]⟩
  | cons x a ih =>
    cases b with
    | nil => exact ⟨by simp [commonN], Nat.le_refl _⟩
    | cons y b =>
      unfold commonN
      split
      · have := ih b
        simp only [List.length_cons]
        omega
      · exact ⟨Nat.zero_le _, Nat.zero_le _⟩
theorem word_of (a t : T8) : a.take (commonN a t) ++ t.drop (commonN a t) = t := by
  rw [commonN_take, List.take_append_drop]

/-- These bytes begin with those words put; the rest stands behind. -/
def IsPutW (b : T8) (ws : List T8) (r : T8) : Prop := goodW ws ∧ b = putW ws ++ r
/-- The next word. -/
theorem encW_next (a t : T8) (q : List T8) (r : T8) (ha : a.length ≤ 1024) (ht : t.length ≤ 1024) :
    tk (encW a (t :: q) ++ r) = (commonN a t, encT (t.drop (commonN a t)) ++ (encW t q ++ r), false) ∧ tkT (encT (t.drop (commonN a t)) ++ (encW t q ++ r)) = (t.drop (commonN a t), encW t q ++ r, false) := by
  have hc := commonN_bounds a t
  constructor
  · rw [encW, List.append_assoc, List.append_assoc, tk_enc _ _ (by omega)]
  · exact tkT_enc _ _ (by rw [List.length_drop]; omega)
theorem encW_inj (p : List T8) : ∀ (q : List T8) (a : T8) (r r' : T8), p.length = q.length → a.length ≤ 1024 → (∀ t ∈ p, t.length ≤ 1024) → (∀ t ∈ q, t.length ≤ 1024) → encW a p ++ r = encW a q ++ r' → p = q ∧ r = r' := by
  induction p with
  | nil =>
    intro q a r r' hl _ _ _ h
    obtain rfl := List.length_eq_zero_iff.1 hl.symm
    exact ⟨rfl, h⟩
  | cons t p ih =>
    intro q a r r' hl ha hp hq h
    cases q with
    | nil => simp at hl
    | cons t' q =>
      have h1 := hp t (by simp)
      have h2 := hq t' (by simp)
      obtain ⟨a1, a2⟩ := encW_next a t p r ha h1
      obtain ⟨b1, b2⟩ := encW_next a t' q r' ha h2
      rw [h, b1] at a1
      simp only [Prod.mk.injEq, and_true] at a1
      obtain ⟨e1, e2⟩ := a1
      rw [← e2, b2] at a2
      simp only [Prod.mk.injEq, and_true] at a2
      obtain ⟨e3, e4⟩ := a2
      have ht : t = t' := by rw [← word_of a t, ← word_of a t', e3, e1]
      subst ht
      obtain ⟨e5, e6⟩ := ih q t r r' (by simpa using hl) h1 (fun x hx => hp x (by simp [hx])) (fun x hx => hq x (by simp [hx])) e4.symm
      exact ⟨by rw [e5], e6⟩
theorem putW_inj {b : T8} {ws ws' : List T8} {r r' : T8} (h : IsPutW b ws r) (h' : IsPutW b ws' r') : ws = ws' ∧ r = r' := by
  obtain ⟨⟨g1, g2, _⟩, e⟩ := h
  obtain ⟨⟨g1', g2', _⟩, e'⟩ := h'
  have := e.symm.trans e'
  unfold putW at this
  rw [List.append_assoc, List.append_assoc] at this
  have h1 := congrArg tk this
  rw [tk_enc _ _ (by omega), tk_enc _ _ (by omega)] at h1
  simp only [Prod.mk.injEq, and_true] at h1
  exact encW_inj ws ws' [] r r' h1.1 (by decide) g2 g2' h1.2

open Classical in
noncomputable def takeS10 (b : T8) : List T8 × T8 × Int := if h : ∃ p : List T8 × T8, IsPutW b p.1 p.2 then (h.choose.1, h.choose.2, 0) else ([], [], 6)
theorem takeW_yes {b : T8} {ws : List T8} {r : T8} (h : IsPutW b ws r) : takeS10 b = (ws, r, 0) := by
  have hex : ∃ p : List T8 × T8, IsPutW b p.1 p.2 := ⟨(ws, r), h⟩
  unfold takeS10
  rw [dif_pos hex, (putW_inj hex.choose_spec h).1, (putW_inj hex.choose_spec h).2]
theorem takeW_no {b : T8} (h : ¬ ∃ ws r, IsPutW b ws r) : takeS10 b = ([], [], 6) := by
  unfold takeS10
  rw [dif_neg (fun ⟨p, hp⟩ => h ⟨p.1, p.2, hp⟩)]
theorem takeW_two (b : T8) : takeS10 b = ([], [], 6) ∨ ∃ ws r, IsPutW b ws r ∧ takeS10 b = (ws, r, 0) := by
  by_cases h : ∃ ws r, IsPutW b ws r
  · obtain ⟨ws, r, hp⟩ := h
    exact .inr ⟨ws, r, hp, takeW_yes hp⟩
  · exact .inl (takeW_no h)

/-- Where the taking stands: n words are to come, out of rest; x are taken. -/
def TakeInvW (b : T8) (n : Nat) (rest : T8) (bad : Bool) (x : List T8) : Prop :=
  ∀ ws r, IsPutW b ws r → bad = false ∧ ∃ q, ws = x ++ q ∧ q.length = n ∧ rest = encW (lastT [] x) q ++ r
theorem takeW_start (b : T8) : TakeInvW b (tk b).1 (tk b).2.1 (tk b).2.2 [] := by
  rintro ws r ⟨⟨h1, h2, h3⟩, rfl⟩
  unfold putW
  rw [List.append_assoc, tk_enc _ _ (by omega)]
  exact ⟨rfl, ws, rfl, rfl, rfl⟩
theorem takeW_many {b : T8} (h : 200 < (tk b).1) : ¬ ∃ ws r, IsPutW b ws r := by
  rintro ⟨ws, r, ⟨h1, h2, h3⟩, rfl⟩
  unfold putW at h
  rw [List.append_assoc, tk_enc _ _ (by omega)] at h
  simp only at h
  omega
theorem lastT_mem {a : T8} {x : List T8} : lastT a x = a ∨ lastT a x ∈ x := by
  rcases List.eq_nil_or_concat x with rfl | ⟨k, y, rfl⟩
  · exact .inl rfl
  · rw [List.concat_eq_append, lastT_snoc]
    exact .inr (by simp)
theorem takeW_next {b : T8} {n : Nat} {rest : T8} {bad : Bool} {x : List T8} (h : TakeInvW b (n + 1) rest bad x) {ws : List T8} {r : T8} (hp : IsPutW b ws r) :
    ∃ t q, ws = x ++ t :: q ∧ q.length = n ∧ tk rest = (commonN (lastT [] x) t, encT (t.drop (commonN (lastT [] x) t)) ++ (encW t q ++ r), false) ∧ tkT (encT (t.drop (commonN (lastT [] x) t)) ++ (encW t q ++ r)) = (t.drop (commonN (lastT [] x) t), encW t q ++ r, false) := by
  obtain ⟨h1, q, h2, h3, h4⟩ := h ws r hp
  cases q with
  | nil => simp at h3
  | cons t q =>
    have hg := hp.1.2.1
    have ht : t.length ≤ 1024 := hg t (by rw [h2]; simp)
    have hl : (lastT [] x).length ≤ 1024 := by
      rcases lastT_mem (a := ([] : T8)) (x := x) with e | e
      · rw [e]; exact Nat.zero_le _
      · exact hg _ (by rw [h2]; simp [e])
    obtain ⟨a1, a2⟩ := encW_next (lastT [] x) t q r hl ht
    exact ⟨t, q, h2, by simpa using h3, by rw [h4]; exact a1, a2⟩
theorem takeW_step {b : T8} {n : Nat} {rest : T8} {bad : Bool} {x : List T8} (h : TakeInvW b (n + 1) rest bad x) :
    TakeInvW b n (tkT (tk rest).2.1).2.1 (tkT (tk rest).2.1).2.2 (x ++ [(lastT [] x).take (tk rest).1 ++ (tkT (tk rest).2.1).1]) := by
  intro ws r hp
  obtain ⟨t, q, h1, h2, h3, h4⟩ := takeW_next h hp
  rw [h3]
  simp only
  rw [h4]
  simp only
  rw [word_of]
  exact ⟨trivial, q, by rw [h1]; simp, h2, by rw [lastT_snoc]⟩
theorem takeW_fail {b : T8} {n : Nat} {rest : T8} {bad : Bool} {x : List T8} (h : TakeInvW b (n + 1) rest bad x) (hf : (tkT (tk rest).2.1).2.2 = true ∨ (lastT [] x).length < (tk rest).1) : ¬ ∃ ws r, IsPutW b ws r := by
  rintro ⟨ws, r, hp⟩
  obtain ⟨t, q, h1, h2, h3, h4⟩ := takeW_next h hp
  rw [h3] at hf
  simp only at hf
  rw [h4] at hf
  rcases hf with hf | hf
  · cases hf
  · have := commonN_bounds (lastT [] x) t
    omega
theorem takeW_end {b : T8} {rest : T8} {bad : Bool} {x : List T8} (h : TakeInvW b 0 rest bad x) {ws : List T8} {r : T8} (hp : IsPutW b ws r) : bad = false ∧ x = ws ∧ rest = r := by
  obtain ⟨h1, q, h2, h3, h4⟩ := h ws r hp
  obtain rfl := List.length_eq_zero_iff.1 h3
  exact ⟨h1, by rw [h2]; simp, by rw [h4]; rfl⟩

end Go.Proofs.Ytcaidgdnneomaaa
