/-
  Numbers by their steps: over lists. No program.
-/
import Derived.Test.YtepbdlmpknegiaaTk
namespace Go.Proofs.Ytepbdlmpknegiaa

def okStep (a b : Int) : Prop := -9223372036854775808 ≤ b - a ∧ b - a ≤ 9223372036854775807
instance (a b : Int) : Decidable (okStep a b) := by unfold okStep; exact inferInstance
def stepS (a b : Int) : Int × Int := if okStep a b then (b - a, 0) else (0, 8)
theorem stepS_ok {a b : Int} (h : okStep a b) : stepS a b = (b - a, 0) := if_pos h
theorem stepS_no {a b : Int} (h : ¬ okStep a b) : stepS a b = (0, 8) := if_neg h

/-- The steps of numbers, behind a. -/
def stepsD : Int → List Int → List Int
  | _, [] => []
  | a, x :: l => (x - a) :: stepsD x l
def okD : Int → List Int → Prop
  | _, [] => True
  | a, x :: l => okStep a x ∧ okD x l
instance okDDec : (a : Int) → (l : List Int) → Decidable (okD a l)
  | _, [] => .isTrue trivial
  | a, x :: l => by
    unfold okD
    have := okDDec x l
    exact inferInstance
def encI (l : List Int) : List UInt8 := l.flatMap fun n => enc (zig n)
def putD (l : List Int) : List UInt8 := enc l.length ++ encI (stepsD 0 l)
def putS11 (l : List Int) : List UInt8 × Int := if 4096 < l.length then ([], 3) else if okD 0 l then (putD l, 0) else ([], 8)
open Classical in
noncomputable def risesS (l : List Int) : Bool := decide (∀ k, (h : k + 1 < l.length) → l[k] ≤ l[k + 1])

open Classical in
theorem risesS_iff (l : List Int) : risesS l = true ↔ ∀ k, (h : k + 1 < l.length) → l[k] ≤ l[k + 1] := by
  unfold risesS
  rw [decide_eq_true_iff]
theorem risesS_no {l : List Int} (h : ¬ ∀ k, (h : k + 1 < l.length) → l[k] ≤ l[k + 1]) : risesS l = false := by
  cases hb : risesS l with
  | false => rfl
  | true => exact absurd ((risesS_iff l).1 hb) h

/-- The last one, or a. -/
def lastD (a : Int) (l : List Int) : Int := l.getLastD a
theorem lastD_nil (a : Int) : lastD a [] = a := rfl
theorem lastD_snoc (a x : Int) (l : List Int) : lastD a (l ++ [x]) = x := by
  unfold lastD
  simp
theorem lastD_cons (a x : Int) (l : List Int) : lastD a (x :: l) = lastD x l := by
  unfold lastD
  rw [List.getLastD_cons]
theorem stepsD_append (a : Int) (p q : List Int) : stepsD a (p ++ q) = stepsD a p ++ stepsD (lastD a p) q := by
  induction p generalizing a with
  | nil => rfl
  | cons x p ih => rw [List.cons_append, stepsD, stepsD, ih, lastD_cons, List.cons_append]
theorem okD_append (a : Int) (p q : List Int) : okD a (p ++ q) ↔ okD a p ∧ okD (lastD a p) q := by
  induction p generalizing a with
  | nil => simp [okD, lastD_nil]
  | cons x p ih => rw [List.cons_append, okD, okD, ih, lastD_cons, and_assoc]
theorem stepsD_length (a : Int) (l : List Int) : (stepsD a l).length = l.length := by
  induction l generalizing a with
  | nil => rfl
  | cons x l ih => rw [stepsD, List.length_cons, ih, List.length_cons]
theorem encI_append (a b : List Int) : encI (a ++ b) = encI a ++ encI b := List.flatMap_append
theorem encI_cons (x : Int) (l : List Int) : encI (x :: l) = enc (zig x) ++ encI l := List.flatMap_cons
theorem encI_one (x : Int) : encI [x] = enc (zig x) := by
  rw [encI_cons]
  exact List.append_nil _
theorem encI_len (l : List Int) : (encI l).length ≤ 9 * l.length := by
  induction l with
  | nil => exact Nat.le_refl _
  | cons x l ih =>
    rw [encI_cons, List.length_append, List.length_cons]
    have := enc_length (zig x)
    omega
theorem putD_len {l : List Int} (h : l.length ≤ 5000) : (putD l).length ≤ 45009 := by
  unfold putD
  rw [List.length_append]
  have h1 := enc_length l.length
  have h2 := encI_len (stepsD 0 l)
  rw [stepsD_length] at h2
  omega
theorem putS11_len (l : List Int) : (putS11 l).1.length ≤ 45009 := by
  unfold putS11
  split
  · exact Nat.zero_le _
  · split
    · exact putD_len (by omega)
    · exact Nat.zero_le _
theorem putS11_long {l : List Int} (h : 4096 < l.length) : putS11 l = ([], 3) := if_pos h
theorem putS11_no {l : List Int} (h : ¬ 4096 < l.length) (h2 : ¬ okD 0 l) : putS11 l = ([], 8) := by
  unfold putS11
  rw [if_neg h, if_neg h2]
theorem putS11_ok {l : List Int} (h : ¬ 4096 < l.length) (h2 : okD 0 l) : putS11 l = (putD l, 0) := by
  unfold putS11
  rw [if_neg h, if_pos h2]
theorem putS11_zero {l : List Int} (h : (putS11 l).2 = 0) : l.length ≤ 4096 ∧ okD 0 l ∧ putS11 l = (putD l, 0) := by
  by_cases h1 : 4096 < l.length
  · rw [putS11_long h1] at h; exact absurd h (by decide)
  · by_cases h2 : okD 0 l
    · exact ⟨by omega, h2, putS11_ok h1 h2⟩
    · rw [putS11_no h1 h2] at h; exact absurd h (by decide)

/-! ### Out of bytes -/

def fitsI (l : List Int) : Prop := ∀ x ∈ l, -9223372036854775808 ≤ x ∧ x ≤ 9223372036854775807
/-- These bytes are those numbers put. -/
def IsPutD (b : List UInt8) (l : List Int) : Prop := fitsI l ∧ putS11 l = (b, 0)
theorem IsPutD.parts {b : List UInt8} {l : List Int} (h : IsPutD b l) : l.length ≤ 4096 ∧ okD 0 l ∧ b = enc l.length ++ encI (stepsD 0 l) := by
  obtain ⟨h1, h2, h3⟩ := putS11_zero (l := l) (by rw [h.2])
  refine ⟨h1, h2, ?_⟩
  have := h.2
  rw [h3] at this
  exact (congrArg Prod.fst this).symm

/-- Where the taking stands: n numbers are to come, out of rest; x are taken. -/
def TakeInvD (b : List UInt8) (n : Nat) (rest : List UInt8) (bad : Bool) (x : List Int) : Prop :=
  ∀ l, IsPutD b l → bad = false ∧ ∃ q, l = x ++ q ∧ q.length = n ∧ rest = encI (stepsD (lastD 0 x) q)
theorem takeD_start (b : List UInt8) : TakeInvD b (tk b).1 (tk b).2.1 (tk b).2.2 [] := by
  intro l hl
  obtain ⟨h1, h2, h3⟩ := hl.parts
  rw [h3, tk_enc _ _ (by omega)]
  exact ⟨rfl, l, rfl, rfl, rfl⟩
theorem takeD_next {b : List UInt8} {n : Nat} {rest : List UInt8} {bad : Bool} {x : List Int} (h : TakeInvD b (n + 1) rest bad x) {l : List Int} (hl : IsPutD b l) :
    ∃ y q, l = x ++ y :: q ∧ q.length = n ∧ tk rest = (zig (y - lastD 0 x), encI (stepsD y q), false) ∧ zag (zig (y - lastD 0 x)) = y - lastD 0 x ∧ (-9223372036854775808 ≤ y ∧ y ≤ 9223372036854775807) := by
  obtain ⟨h1, q, h2, h3, h4⟩ := h l hl
  cases q with
  | nil => simp at h3
  | cons y q =>
    obtain ⟨g1, g2, g3⟩ := hl.parts
    have hok : okStep (lastD 0 x) y := by
      rw [h2, okD_append] at g2
      exact g2.2.1
    have hy := hl.1 y (by rw [h2]; simp)
    refine ⟨y, q, h2, by simpa using h3, ?_, zag_zig _ hok.1 hok.2, hy⟩
    rw [h4, stepsD, encI_cons, tk_enc _ _ (tk_zig_lt hok.1 hok.2)]
theorem takeD_step {b : List UInt8} {n : Nat} {rest : List UInt8} {bad : Bool} {x : List Int} (h : TakeInvD b (n + 1) rest bad x) (z : Int) (hz : (-9223372036854775808 ≤ lastD 0 x + zag (tk rest).1 ∧ lastD 0 x + zag (tk rest).1 ≤ 9223372036854775807) → z = lastD 0 x + zag (tk rest).1) :
    TakeInvD b n (tk rest).2.1 (tk rest).2.2 (x ++ [z]) := by
  intro l hl
  obtain ⟨y, q, h1, h2, h3, h4, h5⟩ := takeD_next h hl
  rw [h3] at hz ⊢
  simp only at hz ⊢
  rw [h4] at hz
  have e : z = y := by rw [hz (by omega)]; omega
  subst e
  refine ⟨trivial, q, by rw [h1]; simp, h2, by rw [lastD_snoc]⟩
theorem takeD_end {b : List UInt8} {n : Nat} {rest : List UInt8} {bad : Bool} {x : List Int} (h : TakeInvD b n rest bad x) (hn : n = 0 ∨ bad = true) {l : List Int} (hl : IsPutD b l) : bad = false ∧ rest.length = 0 ∧ x = l := by
  obtain ⟨h1, q, h2, h3, h4⟩ := h l hl
  have hn0 : n = 0 := by
    rcases hn with h | h
    · exact h
    · rw [h1] at h; cases h
  have hq : q = [] := List.length_eq_zero_iff.1 (by omega)
  subst hq
  exact ⟨h1, by rw [h4]; rfl, by rw [h2]; simp⟩
theorem takeD_many {b : List UInt8} (h : 4096 < (tk b).1) : ¬ ∃ l, IsPutD b l := by
  rintro ⟨l, hl⟩
  obtain ⟨h1, h2, h3⟩ := hl.parts
  rw [h3, tk_enc _ _ (by omega)] at h
  simp only at h
  omega
theorem encI_inj (p : List Int) : ∀ (q : List Int) (a : Int), p.length = q.length → okD a p → okD a q → encI (stepsD a p) = encI (stepsD a q) → p = q := by
  induction p with
  | nil => intro q a hl _ _ _; exact (List.length_eq_zero_iff.1 hl.symm).symm
  | cons x p ih =>
    intro q a hl hp hq he
    cases q with
    | nil => simp at hl
    | cons y q =>
      have e := congrArg tk he
      rw [stepsD, stepsD, encI_cons, encI_cons, tk_enc _ _ (tk_zig_lt hp.1.1 hp.1.2), tk_enc _ _ (tk_zig_lt hq.1.1 hq.1.2)] at e
      simp only [Prod.mk.injEq, and_true] at e
      have e1 := congrArg zag e.1
      rw [zag_zig _ hp.1.1 hp.1.2, zag_zig _ hq.1.1 hq.1.2] at e1
      have exy : x = y := by omega
      subst exy
      rw [ih q x (by simpa using hl) hp.2 hq.2 e.2]
theorem putD_inj {b : List UInt8} {l l' : List Int} (h : IsPutD b l) (h' : IsPutD b l') : l = l' := by
  obtain ⟨h1, h2, h3⟩ := h.parts
  obtain ⟨g1, g2, g3⟩ := h'.parts
  have e := congrArg tk (h3.symm.trans g3)
  rw [tk_enc _ _ (by omega), tk_enc _ _ (by omega)] at e
  simp only [Prod.mk.injEq, and_true] at e
  exact encI_inj l l' 0 e.1 h2 g2 e.2
open Classical in
/-- The numbers whose bytes those are. -/
noncomputable def takeS11 (b : List UInt8) : List Int × Int := if h : ∃ l, IsPutD b l then (h.choose, 0) else ([], 6)
theorem takeD_yes {b : List UInt8} {l : List Int} (h : IsPutD b l) : takeS11 b = (l, 0) := by
  have hex : ∃ l, IsPutD b l := ⟨l, h⟩
  unfold takeS11
  rw [dif_pos hex, putD_inj hex.choose_spec h]
theorem takeD_no {b : List UInt8} (h : ¬ ∃ l, IsPutD b l) : takeS11 b = ([], 6) := by
  unfold takeS11
  rw [dif_neg h]
theorem takeS11_two (b : List UInt8) : (takeS11 b = ([], 6)) ∨ ∃ l, IsPutD b l ∧ takeS11 b = (l, 0) := by
  by_cases h : ∃ l, IsPutD b l
  · obtain ⟨l, hl⟩ := h
    exact .inr ⟨l, hl, takeD_yes hl⟩
  · exact .inl (takeD_no h)

end Go.Proofs.Ytepbdlmpknegiaa
