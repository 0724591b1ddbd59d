/-
  Numbers out of bytes, as runs: over lists. No program.
-/
import Derived.Test.YthjkfkajkbaegaaTk
import Derived.Test.YthjkfkajkbaegaaRunsPure
namespace Go.Proofs.Ythjkfkajkbaegaa

theorem run_of {l : List Int} {s : Sp} (h : s ∈ ofR l) : s.f ∈ l ∧ 1 ≤ s.t ∧ s.t ≤ l.length := by
  have hg := good_ofR l
  have h1 := hg s h
  refine ⟨?_, h1, ?_⟩
  · have hm : s.f ∈ flat (ofR l) := by
      unfold flat
      refine List.mem_flatMap.2 ⟨s, h, ?_⟩
      obtain ⟨q, hq⟩ : ∃ q, s.t.toNat = q + 1 := ⟨s.t.toNat - 1, by omega⟩
      rw [hq]
      simp
    rwa [flat_ofR] at hm
  · have hs : sumR (ofR l) = l.length := by rw [← flat_length (good_ofR l), flat_ofR]
    have hnn : ∀ rs : List Sp, goodR rs → 0 ≤ sumR rs := by
      intro rs
      induction rs with
      | nil => intro _; exact Int.le_refl _
      | cons s t ih =>
        intro h
        have h1 := h s (by simp)
        have h2 := ih fun y hy => h y (by simp [hy])
        rw [sumR]; omega
    obtain ⟨a, b, e⟩ := List.append_of_mem h
    rw [e] at hs hg
    rw [sumR_append, sumR] at hs
    have h2 := hnn a (fun x hx => hg x (List.mem_append.2 (.inl hx)))
    have h3 := hnn b (fun x hx => hg x (List.mem_append.2 (.inr (List.mem_cons_of_mem _ hx))))
    omega
theorem len_ofR (l : List Int) : (ofR l).length ≤ l.length := by
  have hg := good_ofR l
  have hs : sumR (ofR l) = l.length := by rw [← flat_length hg, flat_ofR]
  have hnn : ∀ rs : List Sp, goodR rs → (rs.length : Int) ≤ sumR rs := by
    intro rs
    induction rs with
    | nil => intro _; exact Int.le_refl _
    | cons s t ih =>
      intro h
      have h1 := h s (by simp)
      have h2 := ih fun y hy => h y (by simp [hy])
      rw [sumR, List.length_cons]; omega
  have := hnn _ hg
  omega

/-- Where the taking stands: n runs are to come, out of rest; x are taken. -/
def TakeInv (b : List UInt8) (n : Nat) (rest : List UInt8) (bad : Bool) (x : List Sp) : Prop :=
  ∀ l, IsPut b l → bad = false ∧ x = (ofR l).take x.length ∧ x.length + n = (ofR l).length ∧ rest = encR ((ofR l).drop x.length)
theorem take_start (b : List UInt8) : TakeInv b (tk b).1 (tk b).2.1 (tk b).2.2 [] := by
  rintro l ⟨hf, hl, rfl⟩
  have h := tk_enc (ofR l).length (encR (ofR l)) (by have := len_ofR l; omega)
  have e : putR l = enc (ofR l).length ++ encR (ofR l) := rfl
  rw [e, h]
  exact ⟨rfl, rfl, by simp, rfl⟩
theorem encR_cons (s : Sp) (t : List Sp) : encR (s :: t) = enc (zig s.f) ++ (enc s.t.toNat ++ encR t) := by
  unfold encR
  rw [List.flatMap_cons, List.append_assoc]
/-- What the next run is. -/
theorem take_next {b : List UInt8} {n : Nat} {rest : List UInt8} {bad : Bool} {x : List Sp} (h : TakeInv b (n + 1) rest bad x) {l : List Int} (hl : IsPut b l) :
    ∃ s, s ∈ ofR l ∧ (ofR l).take (x.length + 1) = x ++ [s] ∧ 1 ≤ s.t ∧ s.t ≤ 4096 ∧ tk rest = (zig s.f, enc s.t.toNat ++ encR ((ofR l).drop (x.length + 1)), false) ∧ tk (enc s.t.toNat ++ encR ((ofR l).drop (x.length + 1))) = (s.t.toNat, encR ((ofR l).drop (x.length + 1)), false) ∧ zag (zig s.f) = s.f := by
  obtain ⟨h1, h2, h3, h4⟩ := h l hl
  have hlt : x.length < (ofR l).length := by omega
  obtain ⟨hf, hlen, _⟩ := hl
  obtain ⟨r1, r2, r3⟩ := run_of (List.getElem_mem hlt)
  have hfb := hf _ r1
  refine ⟨(ofR l)[x.length], List.getElem_mem hlt, ?_, r2, by omega, ?_, ?_, zag_zig _ hfb.1 hfb.2⟩
  · rw [List.take_succ_eq_append_getElem hlt, ← h2]
  · rw [h4, List.drop_eq_getElem_cons hlt, encR_cons, tk_enc _ _ (tk_zig_lt hfb.1 hfb.2)]
  · rw [tk_enc _ _ (by omega)]
theorem take_step {b : List UInt8} {n : Nat} {rest : List UInt8} {bad : Bool} {x : List Sp} (h : TakeInv b (n + 1) rest bad x) :
    TakeInv b n (tk (tk rest).2.1).2.1 (tk (tk rest).2.1).2.2 (x ++ [⟨zag (tk rest).1, ((tk (tk rest).2.1).1 : Int)⟩]) := by
  intro l hl
  obtain ⟨s, hs, h1, h2, h3, h4, h5, h6⟩ := take_next h hl
  obtain ⟨g1, g2, g3, g4⟩ := h l hl
  rw [h4]
  simp only
  rw [h5]
  simp only
  have e : (⟨zag (zig s.f), ((s.t.toNat : Nat) : Int)⟩ : Sp) = s := by
    rw [h6, Int.toNat_of_nonneg (by omega)]
  rw [e]
  refine ⟨trivial, ?_, by simp; omega, by simp⟩
  rw [List.length_append, List.length_singleton, h1]
theorem take_many {b : List UInt8} {n : Nat} {rest : List UInt8} {bad : Bool} {x : List Sp} (h : TakeInv b (n + 1) rest bad x) (hb : 4096 < (tk (tk rest).2.1).1) : ¬ ∃ l, IsPut b l := by
  rintro ⟨l, hl⟩
  obtain ⟨s, hs, h1, h2, h3, h4, h5, h6⟩ := take_next h hl
  rw [h4] at hb
  simp only at hb
  rw [h5] at hb
  simp only at hb
  omega

theorem encR_inj (a : List Sp) : ∀ c : List Sp, a.length = c.length → (∀ s ∈ a, (-9223372036854775808 ≤ s.f ∧ s.f ≤ 9223372036854775807) ∧ 0 ≤ s.t ∧ s.t ≤ 4096) → (∀ s ∈ c, (-9223372036854775808 ≤ s.f ∧ s.f ≤ 9223372036854775807) ∧ 0 ≤ s.t ∧ s.t ≤ 4096) → encR a = encR c → a = c := by
  induction a with
  | nil => intro c hl _ _ _; exact (List.length_eq_zero_iff.1 hl.symm).symm
  | cons s t ih =>
    intro c hl ha hc he
    cases c with
    | nil => simp at hl
    | cons s' t' =>
      obtain ⟨a1, a2⟩ := ha s (by simp)
      obtain ⟨c1, c2⟩ := hc s' (by simp)
      have e := congrArg tk he
      rw [encR_cons, encR_cons, tk_enc _ _ (tk_zig_lt a1.1 a1.2), tk_enc _ _ (tk_zig_lt c1.1 c1.2)] at e
      simp only [Prod.mk.injEq, and_true] at e
      have e2 := congrArg tk e.2
      rw [tk_enc _ _ (by omega), tk_enc _ _ (by omega)] at e2
      simp only [Prod.mk.injEq, and_true] at e2
      have ez := congrArg zag e.1
      rw [zag_zig _ a1.1 a1.2, zag_zig _ c1.1 c1.2] at ez
      have ht : s.t = s'.t := by omega
      have hs : s = s' := by
        obtain ⟨f, q⟩ := s
        obtain ⟨f', q'⟩ := s'
        simp only at ez ht
        rw [ez, ht]
      rw [hs, ih t' (by simpa using hl) (fun x hx => ha x (by simp [hx])) (fun x hx => hc x (by simp [hx])) e2.2]
theorem put_inj {b : List UInt8} {l l' : List Int} (h : IsPut b l) (h' : IsPut b l') : l = l' := by
  obtain ⟨hf, hl, he⟩ := h
  obtain ⟨hf', hl', he'⟩ := h'
  have e : putR l = putR l' := he.trans he'.symm
  unfold putR at e
  have e1 := congrArg tk e
  rw [tk_enc _ _ (by have := len_ofR l; omega), tk_enc _ _ (by have := len_ofR l'; omega)] at e1
  simp only [Prod.mk.injEq, and_true] at e1
  have hb : ∀ (k : List Int), (∀ x ∈ k, -9223372036854775808 ≤ x ∧ x ≤ 9223372036854775807) → k.length ≤ 4096 → ∀ s ∈ ofR k, (-9223372036854775808 ≤ s.f ∧ s.f ≤ 9223372036854775807) ∧ 0 ≤ s.t ∧ s.t ≤ 4096 := by
    intro k hk hkl s hs
    obtain ⟨r1, r2, r3⟩ := run_of hs
    exact ⟨hk _ r1, by omega, by omega⟩
  have e2 := encR_inj _ _ e1.1 (hb l hf hl) (hb l' hf' hl') e1.2
  rw [← flat_ofR l, e2, flat_ofR]

open Classical in
/-- The numbers whose bytes those are. -/
noncomputable def takeS9 (b : List UInt8) : List Int × Int := if h : ∃ l, IsPut b l then (h.choose, 0) else ([], 6)
theorem take_yes {b : List UInt8} {l : List Int} (h : IsPut b l) : takeS9 b = (l, 0) := by
  have hex : ∃ l, IsPut b l := ⟨l, h⟩
  unfold takeS9
  rw [dif_pos hex, put_inj hex.choose_spec h]
theorem take_no {b : List UInt8} (h : ¬ ∃ l, IsPut b l) : takeS9 b = ([], 6) := by
  unfold takeS9
  rw [dif_neg h]
/-- At the end: what is put must be what was taken. -/
theorem take_end {b : List UInt8} {n : Nat} {rest : List UInt8} {bad : Bool} {x : List Sp} (h : TakeInv b n rest bad x) (hn : n = 0 ∨ bad = true) {l : List Int} (hl : IsPut b l) :
    bad = false ∧ rest.length = 0 ∧ (flatS x).2 = 0 ∧ flat x = l := by
  obtain ⟨h1, h2, h3, h4⟩ := h l hl
  have hn0 : n = 0 := by
    rcases hn with h | h
    · exact h
    · rw [h1] at h; cases h
  subst hn0
  have hx : x = ofR l := by
    rw [h2, List.take_of_length_le (by omega)]
  have hd : (ofR l).drop x.length = [] := List.drop_of_length_le (by omega)
  rw [hd] at h4
  have hs : sumR (ofR l) = l.length := by rw [← flat_length (good_ofR l), flat_ofR]
  refine ⟨h1, by rw [h4]; rfl, ?_, by rw [hx, flat_ofR]⟩
  rw [hx, flatS_ok (good_ofR l) (by have := hl.2.1; omega)]

end Go.Proofs.Ythjkfkajkbaegaa
