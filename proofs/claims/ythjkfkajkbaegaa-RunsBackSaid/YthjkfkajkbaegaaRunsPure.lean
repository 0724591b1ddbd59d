/-
  Numbers as runs (Sp: f is the number, t how often it stands): over lists. No program.
-/
import Derived.Test.YthjkfkajkbaegaaPure
import Derived.Test.YthjkfkajkbaegaaSpansPure
namespace Go.Proofs.Ythjkfkajkbaegaa

/-- One number more behind runs. -/
def snocR (rs : List Sp) (x : Int) : List Sp :=
  match rs.getLast? with
  | some s => if s.f = x then rs.dropLast ++ [⟨x, s.t + 1⟩] else rs ++ [⟨x, 1⟩]
  | none => [⟨x, 1⟩]
/-- The runs of numbers. -/
def ofR (l : List Int) : List Sp := l.foldl snocR []
/-- The numbers of runs. -/
def flat (rs : List Sp) : List Int := rs.flatMap fun s => List.replicate s.t.toNat s.f
def sumR : List Sp → Int
  | [] => 0
  | s :: t => s.t + sumR t
def goodR (rs : List Sp) : Prop := ∀ s ∈ rs, 1 ≤ s.t
def noAdj : List Sp → Prop
  | s :: s' :: t => s.f ≠ s'.f ∧ noAdj (s' :: t)
  | _ => True

theorem snocR_nil (x : Int) : snocR [] x = [⟨x, 1⟩] := rfl
theorem snocR_same (m : List Sp) (x a : Int) : snocR (m ++ [⟨x, a⟩]) x = m ++ [⟨x, a + 1⟩] := by
  unfold snocR
  rw [List.getLast?_concat]
  simp
theorem snocR_new (m : List Sp) (x y a : Int) (h : y ≠ x) : snocR (m ++ [⟨y, a⟩]) x = m ++ [⟨y, a⟩] ++ [⟨x, 1⟩] := by
  unfold snocR
  rw [List.getLast?_concat]
  simp [h]
theorem ofR_nil : ofR [] = [] := rfl
theorem ofR_snoc (l : List Int) (x : Int) : ofR (l ++ [x]) = snocR (ofR l) x := by
  unfold ofR
  rw [List.foldl_append]
  rfl
theorem flat_append (a b : List Sp) : flat (a ++ b) = flat a ++ flat b := List.flatMap_append
theorem flat_one (s : Sp) : flat [s] = List.replicate s.t.toNat s.f := by
  unfold flat
  simp
theorem sumR_append (a b : List Sp) : sumR (a ++ b) = sumR a + sumR b := by
  induction a with
  | nil => simp [sumR]
  | cons s t ih => rw [List.cons_append, sumR, sumR, ih]; omega
theorem flat_length {rs : List Sp} (h : goodR rs) : ((flat rs).length : Int) = sumR rs := by
  induction rs with
  | nil => rfl
  | cons s t ih =>
    have h1 := h s (by simp)
    have h2 := ih fun y hy => h y (by simp [hy])
    unfold flat at *
    rw [List.flatMap_cons, List.length_append, List.length_replicate, sumR]
    omega
theorem noAdj_snoc (m : List Sp) (s s' : Sp) : noAdj (m ++ [s] ++ [s']) ↔ noAdj (m ++ [s]) ∧ s.f ≠ s'.f := by
  induction m with
  | nil => simp [noAdj]
  | cons a t ih =>
    cases t with
    | nil => simp [noAdj]
    | cons b t => simp only [List.cons_append, noAdj] at ih ⊢; rw [ih, and_assoc]
theorem noAdj_last (m : List Sp) (x a b : Int) : noAdj (m ++ [⟨x, a⟩]) ↔ noAdj (m ++ [⟨x, b⟩]) := by
  induction m with
  | nil => simp [noAdj]
  | cons c t ih =>
    cases t with
    | nil => simp [noAdj]
    | cons d t => simp only [List.cons_append, noAdj] at ih ⊢; rw [ih]

/-- What the runs of numbers are. -/
structure RunsOk (l : List Int) (rs : List Sp) : Prop where
  flat : flat rs = l
  good : goodR rs
  adj : noAdj rs
  last : ∀ k x, l = k ++ [x] → ∃ m a, rs = m ++ [⟨x, a⟩] ∧ 1 ≤ a
theorem snoc_cases {α : Type} (l : List α) : l = [] ∨ ∃ k x, l = k ++ [x] := by
  rcases List.eq_nil_or_concat l with h | ⟨k, x, h⟩
  · exact .inl h
  · exact .inr ⟨k, x, by rw [h, List.concat_eq_append]⟩
theorem snoc_inj {α : Type} {a b : List α} {x y : α} (h : a ++ [x] = b ++ [y]) : a = b ∧ x = y := by
  have := List.append_inj' h rfl
  exact ⟨this.1, by simpa using this.2⟩
theorem ofR_ok (n : Nat) : ∀ l : List Int, l.length = n → RunsOk l (ofR l) := by
  induction n with
  | zero =>
    intro l hl
    have : l = [] := List.length_eq_zero_iff.1 hl
    subst this
    exact ⟨rfl, fun s hs => (by cases hs), trivial, fun k x h => (by simp at h)⟩
  | succ n ih =>
    intro l hl
    rcases snoc_cases l with h | ⟨k, x, rfl⟩
    · subst h; simp at hl
    · have hk := ih k (by simpa using hl)
      rw [ofR_snoc]
      rcases snoc_cases k with h | ⟨k', y, rfl⟩
      · subst h
        rw [ofR_nil, snocR_nil]
        refine ⟨?_, fun s hs => ?_, trivial, fun k x' h => ?_⟩
        · rw [flat_one]; rfl
        · have : s = ⟨x, 1⟩ := by simpa using hs
          rw [this]
          exact Int.le_refl _
        · have := (snoc_inj h).2
          exact ⟨[], 1, by rw [this]; rfl, Int.le_refl _⟩
      · obtain ⟨m, a, hm, ha⟩ := hk.last k' y rfl
        have hfl := hk.flat
        have hgd := hk.good
        have had := hk.adj
        rw [hm] at hfl hgd had ⊢
        by_cases e : y = x
        · subst e
          rw [snocR_same]
          refine ⟨?_, fun s hs => ?_, (noAdj_last m y a (a + 1)).1 had, fun k x' h => ?_⟩
          · rw [flat_append, flat_one] at hfl ⊢
            rw [← hfl]
            simp only
            have e1 : (a + 1).toNat = a.toNat + 1 := by omega
            rw [e1, List.replicate_succ', List.append_assoc]
          · rcases List.mem_append.1 hs with hs | hs
            · exact hgd s (List.mem_append.2 (.inl hs))
            · have : s = ⟨y, a + 1⟩ := by simpa using hs
              rw [this]
              simp only
              omega
          · have := (snoc_inj h).2
            exact ⟨m, a + 1, by rw [this], by omega⟩
        · rw [snocR_new m x y a e]
          refine ⟨?_, fun s hs => ?_, (noAdj_snoc m _ _).2 ⟨had, e⟩, fun k x' h => ?_⟩
          · rw [flat_append, hfl, flat_one]
            rfl
          · rcases List.mem_append.1 hs with hs | hs
            · exact hgd s hs
            · have : s = ⟨x, 1⟩ := by simpa using hs
              rw [this]
              exact Int.le_refl _
          · have := (snoc_inj h).2
            exact ⟨m ++ [⟨y, a⟩], 1, by rw [this], Int.le_refl _⟩
theorem flat_ofR (l : List Int) : flat (ofR l) = l := (ofR_ok _ l rfl).flat
theorem good_ofR (l : List Int) : goodR (ofR l) := (ofR_ok _ l rfl).good
theorem adj_ofR (l : List Int) : noAdj (ofR l) := (ofR_ok _ l rfl).adj

theorem fold_rep (m : List Sp) (x : Int) (h : m = [] ∨ ∃ k y a, m = k ++ [⟨y, a⟩] ∧ y ≠ x) (n : Nat) : (List.replicate (n + 1) x).foldl snocR m = m ++ [⟨x, (n : Int) + 1⟩] := by
  induction n with
  | zero =>
    show snocR m x = _
    rcases h with rfl | ⟨k, y, a, rfl, hne⟩
    · rfl
    · rw [snocR_new _ _ _ _ hne]; rfl
  | succ n ih =>
    rw [List.replicate_succ', List.foldl_append, ih]
    show snocR _ x = _
    rw [snocR_same]
    rfl
/-- Runs that may be are those of their numbers. -/
theorem ofR_flat (n : Nat) : ∀ rs : List Sp, rs.length = n → goodR rs → noAdj rs → ofR (flat rs) = rs := by
  induction n with
  | zero =>
    intro rs hl _ _
    have : rs = [] := List.length_eq_zero_iff.1 hl
    subst this
    rfl
  | succ n ih =>
    intro rs hl hg ha
    rcases snoc_cases rs with h | ⟨m, s, rfl⟩
    · subst h; simp at hl
    · have hs := hg s (by simp)
      have hgm : goodR m := fun y hy => hg y (by simp [hy])
      have ham : noAdj m ∧ (m = [] ∨ ∃ k y a, m = k ++ [(⟨y, a⟩ : Sp)] ∧ y ≠ s.f) := by
        rcases snoc_cases m with h | ⟨k, z, rfl⟩
        · subst h; exact ⟨trivial, .inl rfl⟩
        · have := (noAdj_snoc k z s).1 ha
          exact ⟨this.1, .inr ⟨k, z.f, z.t, rfl, this.2⟩⟩
      have hm := ih m (by simpa using hl) hgm ham.1
      rw [flat_append, flat_one]
      unfold ofR at hm ⊢
      rw [List.foldl_append, hm]
      obtain ⟨q, hq⟩ : ∃ q, s.t.toNat = q + 1 := ⟨s.t.toNat - 1, by omega⟩
      rw [hq, fold_rep m s.f ham.2 q]
      have e : ((q : Int) + 1) = s.t := by omega
      rw [e]

/-! ### What the calls answer -/

open Classical in
noncomputable def flatS (rs : List Sp) : List Int × Int := if ¬ goodR rs then ([], 1) else if 4096 < sumR rs then ([], 3) else (flat rs, 0)
open Classical in
noncomputable def rightR (rs : List Sp) : Bool := decide ((flatS rs).2 = 0 ∧ ofR (flat rs) = rs)
theorem flatS_ok {rs : List Sp} (hg : goodR rs) (hs : sumR rs ≤ 4096) : flatS rs = (flat rs, 0) := by
  unfold flatS
  rw [if_neg (fun h => h hg), if_neg (by omega)]
theorem flatS_bad {rs : List Sp} (hg : ¬ goodR rs) : flatS rs = ([], 1) := by
  unfold flatS
  rw [if_pos hg]
theorem flatS_long {rs : List Sp} (hg : goodR rs) (hs : 4096 < sumR rs) : flatS rs = ([], 3) := by
  unfold flatS
  rw [if_neg (fun h => h hg), if_pos hs]
theorem flatS_zero {rs : List Sp} (h : (flatS rs).2 = 0) : goodR rs ∧ sumR rs ≤ 4096 ∧ flatS rs = (flat rs, 0) := by
  by_cases hg : goodR rs
  · by_cases hs : 4096 < sumR rs
    · rw [flatS_long hg hs] at h
      exact absurd h (by decide)
    · exact ⟨hg, by omega, flatS_ok hg (by omega)⟩
  · rw [flatS_bad hg] at h
    exact absurd h (by decide)
theorem rightR_iff (rs : List Sp) : rightR rs = true ↔ goodR rs ∧ sumR rs ≤ 4096 ∧ noAdj rs := by
  unfold rightR
  rw [decide_eq_true_iff]
  constructor
  · rintro ⟨h1, h2⟩
    obtain ⟨hg, hs, _⟩ := flatS_zero h1
    exact ⟨hg, hs, by rw [← h2]; exact adj_ofR _⟩
  · rintro ⟨hg, hs, ha⟩
    exact ⟨by rw [flatS_ok hg hs], ofR_flat _ rs rfl hg ha⟩
def runIdx : List Sp → Int → Int
  | [], _ => 0
  | s :: t, p => if p < s.t then 0 else 1 + runIdx t (p - s.t)
open Classical in
noncomputable def atS (rs : List Sp) (p : Int) : Int × Int × Bool := if (flatS rs).2 = 0 ∧ 0 ≤ p ∧ p < sumR rs then ((flat rs).getD p.toNat 0, runIdx rs p, true) else (0, 0, false)
def encR (rs : List Sp) : List UInt8 := rs.flatMap fun s => enc (zig s.f) ++ enc s.t.toNat
def putR (l : List Int) : List UInt8 := enc (ofR l).length ++ encR (ofR l)
def putS9 (l : List Int) : List UInt8 × Int := if l.length ≤ 4096 then (putR l, 0) else ([], 3)
/-- These bytes are those numbers put. -/
def IsPut (b : List UInt8) (l : List Int) : Prop := (∀ x ∈ l, -9223372036854775808 ≤ x ∧ x ≤ 9223372036854775807) ∧ l.length ≤ 4096 ∧ putR l = b

end Go.Proofs.Ythjkfkajkbaegaa
