/-
  The program's spans: what choose does, over lists; the rest of a slice.
-/
import Derived.Test.YthiijhdgbnpihaaSpansP5
namespace Go.Proofs.Ythiijhdgbnpihaa
open Go.RowKit Go.BigFrame

theorem rd_tail (w : World) (u : Value) (s : Sp) (l : List Sp) (h : RdSp w u (s :: l)) :
    ∃ v, RdSp w v l ∧ ∀ W, (Instr.slice 24 u (some (.int .i64 1)) none none).run Try.prog W = .ok v W := by
  obtain ⟨ao, cap, rfl, h2, h3, h4, h0⟩ := h
  obtain ⟨g, off, rfl, h5, h6⟩ := h4 0 (by simp)
  rw [List.length_cons] at h2 ⊢
  by_cases hc : cap = 1
  · subst hc
    have hl : l = [] := List.length_eq_zero_iff.1 (by omega)
    subst hl
    refine ⟨.slice (some ⟨g, off, none⟩) 0 0, ⟨_, 0, rfl, Nat.le_refl _, Nat.zero_le _, fun j hj => by simp at hj, fun h => by cases h⟩, fun W => ?_⟩
    simp [Instr.slice, Instr.sliceBounds, Instr.sliceBound, run_underlying Try.underlying24, go_sem]
  · refine ⟨.slice (some ⟨g, off + 2, none⟩) l.length (cap - 1), ⟨_, cap - 1, rfl, by omega, by omega, fun j hj => ?_, fun h => by cases h⟩, fun W => ?_⟩
    · obtain ⟨g', off', he, h7, h8⟩ := h4 (j + 1) (by simpa using hj)
      simp only [Option.some.injEq, Addr.mk.injEq, and_true] at he
      obtain ⟨rfl, rfl⟩ := he
      refine ⟨g, off + 2, rfl, ?_, ?_⟩
      · rw [show off + 2 + j * 2 = off + (j + 1) * 2 by omega]
        simpa using h7
      · rw [show off + 2 + j * 2 + 1 = off + (j + 1) * 2 + 1 by omega]
        simpa using h8
    · simp [Instr.slice, Instr.sliceBounds, Instr.sliceBound, run_underlying Try.underlying24, go_sem, add_at, hc]
      intro hlt
      omega

/-- The spans of the places below n, by their form. -/
theorem extS_form (m : List Sp) (F : Int) : ∃ p a, ∀ n, extS m F n = p ++ [⟨a, n⟩] := by
  rcases List.eq_nil_or_concat m with rfl | ⟨p, s, rfl⟩
  · exact ⟨[], F, fun n => rfl⟩
  · rw [List.concat_eq_append]
    by_cases h : s.t = F
    · obtain ⟨a, b⟩ := s
      simp only at h
      subst h
      exact ⟨p, a, fun n => extS_bump _ _ _ _⟩
    · exact ⟨p ++ [s], F, fun n => extS_new _ _ _ _ h⟩
theorem extS_spans {on : Int → Bool} {k n : Nat} (hk : k < n) (hn : n ≤ 4096) (h : ∀ m : Nat, k ≤ m → m < n → on m = true) : extS (spansTo on k) k n = spansTo on n := by
  obtain ⟨p, a, hf⟩ := extS_form (spansTo on k) k
  have base : extS (spansTo on k) k ((k + 1 : Nat) : Int) = spansTo on (k + 1) := by
    have hok := spansTo_ok on k (by omega)
    have hon := h k (Nat.le_refl _) hk
    by_cases hp : 0 < k ∧ on ((k : Int) - 1) = true
    · obtain ⟨m, b, hl⟩ := hok.last hp.1 hp.2
      rw [spansTo_bump hon hp.1 hp.2 hl, hl, extS_bump]
      rfl
    · rw [spansTo_new hon hp]
      rcases List.eq_nil_or_concat (spansTo on k) with e | ⟨q, s, e⟩
      · rw [e]
        rfl
      · rw [e, List.concat_eq_append]
        refine extS_new _ _ _ _ (fun he => ?_)
        rcases hok.gap hp s (by rw [e]; simp) with h1 | h1
        · omega
        · subst h1
          exact absurd e (by simp [spansTo])
  have step : ∀ d : Nat, k + 1 + d ≤ n → extS (spansTo on k) k ((k + 1 + d : Nat) : Int) = spansTo on (k + 1 + d) := fun d => by
    induction d with
    | zero => exact fun _ => base
    | succ d ih =>
      intro hd
      have := ih (by omega)
      rw [hf] at this
      have hb := spansTo_bump (f := on) (k := k + 1 + d) (m := p) (a := a) (h _ (by omega) (by omega)) (by omega) (by have := h (k + d) (by omega) (by omega); rw [show ((k + 1 + d : Nat) : Int) - 1 = ((k + d : Nat) : Int) by omega]; exact this) this.symm
      rw [hf, ← Nat.add_assoc, hb]
      rfl
  have := step (n - (k + 1)) (by omega)
  rwa [show k + 1 + (n - (k + 1)) = n by omega] at this
theorem spansTo_skip {on : Int → Bool} {k n : Nat} (hk : k ≤ n) (h : ∀ m : Nat, k ≤ m → m < n → on m = false) : spansTo on n = spansTo on k := by
  induction n with
  | zero => rw [show k = 0 by omega]
  | succ n ih =>
    by_cases e : k = n + 1
    · rw [e]
    · rw [spansTo_off (h n (by omega) (by omega))]
      exact ih (by omega) fun m h1 h2 => h m h1 (by omega)

/-- What is left of spans from a place on. -/
structure Left (A r : List Sp) (k : Nat) : Prop where
  right : rightFrom 0 r
  mem : ∀ x : Int, (k : Int) ≤ x → inB A x = inB r x
theorem Left.start {A : List Sp} (h : rightFrom 0 A) : Left A A 0 := ⟨h, fun _ _ => rfl⟩
theorem Left.pop {A r : List Sp} {s : Sp} {k : Nat} (h : Left A (s :: r) k) (hp : passedS (s :: r) k = true) : Left A r k := by
  have hp' : s.t ≤ k := of_decide_eq_true hp
  obtain ⟨⟨h1, h2, h3, h4⟩, h5⟩ := h
  refine ⟨rightFrom_mono (by omega) h4, fun x hx => ?_⟩
  rw [h5 x hx]
  unfold inB
  rw [List.any_cons, decide_eq_false (show ¬ x < s.t by omega), Bool.and_false, Bool.false_or]
theorem Left.later {A r : List Sp} {k n : Nat} (h : Left A r k) (hn : k ≤ n) : Left A r n := ⟨h.right, fun x hx => h.mem x (by omega)⟩
/-- Where the first one is not passed: up to the border all places are alike. -/
theorem Left.border {A r : List Sp} {k : Nat} (h : Left A r k) (hp : passedS r k = false) : ∃ n : Nat, borderS r k = n ∧ n ≤ 4096 ∧ (r.length ≠ 0 → k < n) ∧ (r.length = 0 → n = 4096) ∧ ∀ m : Nat, k ≤ m → m < n → inB A m = enteredS r k := by
  obtain ⟨h1, h2⟩ := h
  cases r with
  | nil => exact ⟨4096, rfl, Nat.le_refl _, fun h => absurd rfl h, fun _ => rfl, fun m h3 _ => by rw [h2 m (by omega)]; rfl⟩
  | cons s r =>
    obtain ⟨h3, h4, h5, h6⟩ := h1
    have hp' : ¬ s.t ≤ k := of_decide_eq_false hp
    have e : borderS (s :: r) k = if s.f ≤ k then s.t else s.f := rfl
    have e2 : enteredS (s :: r) k = decide (s.f ≤ k) := rfl
    rw [e, e2]
    by_cases hq : s.f ≤ k
    · rw [if_pos hq, decide_eq_true hq]
      refine ⟨s.t.toNat, by omega, by omega, fun _ => by omega, fun h => by simp at h, fun m h7 h8 => ?_⟩
      rw [h2 m (by omega)]
      exact inB_cons.2 (.inl ⟨by omega, by omega⟩)
    · rw [if_neg hq, decide_eq_false hq]
      refine ⟨s.f.toNat, by omega, by omega, fun _ => by omega, fun h => by simp at h, fun m h7 h8 => ?_⟩
      rw [h2 m (by omega)]
      cases hb : inB (s :: r) m with
      | false => rfl
      | true =>
        exfalso
        rcases inB_cons.1 hb with ⟨h9, _⟩ | h9
        · omega
        · have := inB_lo h6 h9
          omega

end Go.Proofs.Ythiijhdgbnpihaa
