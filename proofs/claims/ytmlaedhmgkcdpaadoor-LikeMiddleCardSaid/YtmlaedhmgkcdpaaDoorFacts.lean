/-
  What the laws of layer 3 lean on: plain facts of letters and elements. No program.
-/
import Derived.Test.YtmlaedhmgkcdpaaDoorQuote
namespace Go.Proofs.YtmlaedhmgkcdpaaDoor
open Go.Lib (decodeL decodeN)

/-- The elements of a text. -/
def elsOf (p : List UInt8) : Option (List El) := els (lets p)
/-- Is a text like a pattern? -/
def isB (p s : List UInt8) : Bool := match elsOf p with
  | some ps => mt ps (lets s)
  | none => false
theorem isB_some {p s : List UInt8} {ps : List El} (h : elsOf p = some ps) : isB p s = mt ps (lets s) := by unfold isB; rw [h]
theorem isB_iff (p s : List UInt8) : isB p s = true ↔ ∃ ps, elsOf p = some ps ∧ mt ps (lets s) = true := by
  unfold isB
  cases h : elsOf p with
  | none => simp
  | some ps => simp
theorem lets_inj (a b : List UInt8) (h : lets a = lets b) : a = b := by rw [← lets_flat a, h, lets_flat]

theorem els_lit (c : List UInt8) (t : List (List UInt8)) (h : special c = false) : els (c :: t) = (els t).map (El.lit c :: ·) := by
  have hn : ¬ (c = [37] ∨ c = [95] ∨ c = [92]) := fun e => by rw [(special_iff c).2 e] at h; cases h
  rw [els.eq_def]
  simp only
  rw [if_neg (fun e => hn (.inr (.inr e))), if_neg (fun e => hn (.inl e)), if_neg (fun e => hn (.inr (.inl e)))]
theorem els_back (d : List UInt8) (t : List (List UInt8)) : els ([92] :: d :: t) = (els t).map (El.lit d :: ·) := by
  rw [els.eq_def]
  simp only
  rw [if_pos trivial]
theorem els_any (t : List (List UInt8)) : els ([37] :: t) = (els t).map (El.any :: ·) := by
  rw [els.eq_def]
  simp only
  rw [if_neg (by decide), if_pos trivial]
theorem els_one (t : List (List UInt8)) : els ([95] :: t) = (els t).map (El.one :: ·) := by
  rw [els.eq_def]
  simp only
  rw [if_neg (by decide), if_neg (by decide), if_pos trivial]

theorem els_quote (cs : List (List UInt8)) : els (cs.flatMap qls) = some (cs.map El.lit) := by
  induction cs with
  | nil => rfl
  | cons c t ih =>
    rw [List.flatMap_cons]
    unfold qls
    by_cases h : special c = true
    · rw [if_pos h]
      show els ([92] :: c :: t.flatMap qls) = _
      rw [els_back, ih]; rfl
    · rw [if_neg h]
      show els (c :: t.flatMap qls) = _
      rw [els_lit c _ (by simpa using h), ih]; rfl
theorem elsOf_quote (a : List UInt8) : elsOf (quote a) = some ((lets a).map El.lit) := by unfold elsOf; rw [lets_quote, els_quote]
theorem mt_lits (cs : List (List UInt8)) : ∀ l, mt (cs.map El.lit) l = true ↔ l = cs := by
  induction cs with
  | nil => intro l; exact mt_nil l
  | cons c t ih =>
    intro l
    rw [List.map_cons, mt_lit]
    constructor
    · rintro ⟨u, rfl, h⟩
      rw [(ih u).1 h]
    · rintro rfl
      exact ⟨t, rfl, (ih t).2 rfl⟩
/-- A text is like its quote, and no other text is. -/
theorem is_quote (a b : List UInt8) : isB (quote a) b = decide (a = b) := by
  rw [isB_some (elsOf_quote a), Bool.eq_iff_iff, mt_lits, decide_eq_true_iff]
  exact ⟨fun h => (lets_inj _ _ h).symm, fun h => by rw [h]⟩

theorem mt_ones (n : Nat) : ∀ l, mt (List.replicate n El.one) l = true ↔ l.length = n := by
  induction n with
  | zero => intro l; rw [List.replicate_zero, mt_nil, List.length_eq_zero_iff]
  | succ n ih =>
    intro l
    rw [List.replicate_succ, mt_one]
    constructor
    · rintro ⟨d, t, rfl, h⟩
      rw [List.length_cons, (ih t).1 h]
    · intro h
      cases l with
      | nil => simp at h
      | cons d t => exact ⟨d, t, rfl, (ih t).2 (by simpa using h)⟩
/-- So many _. -/
def wild (n : Nat) : List UInt8 := List.replicate n 95
theorem lets_wild (n : Nat) (m : List UInt8) : lets (wild n ++ m) = List.replicate n [95] ++ lets m := by
  induction n with
  | zero => rfl
  | succ n ih =>
    unfold wild at ih ⊢
    rw [List.replicate_succ, List.cons_append, lets_ascii _ _ (by decide), ih, List.replicate_succ, List.cons_append]
theorem els_wild (n : Nat) (t : List (List UInt8)) : els (List.replicate n [95] ++ t) = (els t).map (List.replicate n El.one ++ ·) := by
  induction n with
  | zero => simp
  | succ n ih => rw [List.replicate_succ, List.cons_append, els_one, ih, Option.map_map, List.replicate_succ]; rfl
theorem is_all (a : List UInt8) : isB [37] a = true := by
  have : elsOf [37] = some [.any] := by unfold elsOf; rw [lets_ascii _ _ (by decide), lets_nil, els_any]; rfl
  rw [isB_some this, mt_any]
  exact ⟨_, Nat.le_refl _, by rw [List.drop_length]; rfl⟩
theorem is_wild (a : List UInt8) (n : Nat) : isB (wild n) a = decide ((lets a).length = n) := by
  have : elsOf (wild n) = some (List.replicate n El.one) := by
    unfold elsOf
    have := lets_wild n []
    rw [List.append_nil] at this
    rw [this, els_wild, lets_nil]
    simp [els]
  rw [isB_some this, Bool.eq_iff_iff, mt_ones, decide_eq_true_iff]
theorem is_wild_all (a : List UInt8) : isB (wild (lets a).length ++ [37]) a = true := by
  have : elsOf (wild (lets a).length ++ [37]) = some (List.replicate (lets a).length El.one ++ [.any]) := by
    unfold elsOf
    rw [lets_wild, lets_ascii _ _ (by decide), lets_nil, els_wild, els_any]
    simp [els]
  rw [isB_some this, mt_append]
  refine ⟨_, Nat.le_refl _, ?_, ?_⟩
  · rw [mt_ones, List.take_length]
  · rw [List.drop_length, mt_any]
    exact ⟨0, Nat.zero_le _, rfl⟩
theorem is_all_wild (a : List UInt8) : isB (37 :: wild (lets a).length) a = true := by
  have : elsOf (37 :: wild (lets a).length) = some (.any :: List.replicate (lets a).length El.one) := by
    unfold elsOf
    have h := lets_wild (lets a).length []
    rw [List.append_nil] at h
    rw [lets_ascii _ _ (by decide), els_any, h, els_wild, lets_nil]
    simp [els]
  rw [isB_some this, mt_any]
  exact ⟨0, Nat.zero_le _, by rw [List.drop_zero, mt_ones]⟩

/-! ### What is fixed -/

def fixedE : List El → List UInt8 × Bool
  | [] => ([], true)
  | .any :: _ => ([], false)
  | .one :: _ => ([], false)
  | .lit c :: t => (c ++ (fixedE t).1, (fixedE t).2)

theorem fixed_begins (ps : List El) : ∀ l, mt ps l = true → (fixedE ps).1 <+: l.flatten ∧ ((fixedE ps).2 = true → l.flatten = (fixedE ps).1) := by
  induction ps with
  | nil => intro l h; rw [(mt_nil l).1 h]; exact ⟨⟨[], rfl⟩, fun _ => rfl⟩
  | cons e ps ih =>
    intro l h
    cases e with
    | any => exact ⟨⟨_, rfl⟩, fun h => by cases h⟩
    | one => exact ⟨⟨_, rfl⟩, fun h => by cases h⟩
    | lit c =>
      obtain ⟨t, rfl, h2⟩ := (mt_lit _ _ _).1 h
      obtain ⟨h3, h4⟩ := ih t h2
      rw [List.flatten_cons]
      exact ⟨(List.prefix_append_right_inj c).2 h3, fun h5 => by rw [h4 h5]; rfl⟩

theorem fixed_alone (ps : List El) : (fixedE ps).2 = true → ∃ cs : List (List UInt8), ps = cs.map El.lit ∧ (fixedE ps).1 = cs.flatten := by
  induction ps with
  | nil => intro _; exact ⟨[], rfl, rfl⟩
  | cons e ps ih =>
    intro h
    cases e with
    | any => cases h
    | one => cases h
    | lit c =>
      obtain ⟨cs, rfl, h2⟩ := ih h
      exact ⟨c :: cs, rfl, by rw [List.flatten_cons, ← h2]; rfl⟩

/-- What the elements' letters are is of the pattern's letters. -/
theorem els_mem : ∀ (n : Nat) (ls : List (List UInt8)) (ps : List El), ls.length ≤ n → els ls = some ps → ∀ c, El.lit c ∈ ps → c ∈ ls
  | _, [], ps, _, h, c, hc => by
    have : ps = [] := by simpa [els] using h.symm
    subst this
    cases hc
  | 0, _ :: _, _, hn, _, _, _ => by simp at hn
  | n + 1, d :: t, ps, hn, h, c, hc => by
    rw [els.eq_def] at h
    simp only at h
    split at h
    · split at h
      · cases h
      · rename_i d' t'
        obtain ⟨qs, hq, rfl⟩ := Option.map_eq_some_iff.1 h
        rcases List.mem_cons.1 hc with e | hc
        · cases e; simp
        · have := els_mem n t' qs (by simp at hn; omega) hq c hc
          simp [this]
    · split at h
      · obtain ⟨qs, hq, rfl⟩ := Option.map_eq_some_iff.1 h
        rcases List.mem_cons.1 hc with e | hc
        · cases e
        · exact List.mem_cons_of_mem _ (els_mem n t qs (by simpa using hn) hq c hc)
      · split at h
        · obtain ⟨qs, hq, rfl⟩ := Option.map_eq_some_iff.1 h
          rcases List.mem_cons.1 hc with e | hc
          · cases e
          · exact List.mem_cons_of_mem _ (els_mem n t qs (by simpa using hn) hq c hc)
        · obtain ⟨qs, hq, rfl⟩ := Option.map_eq_some_iff.1 h
          rcases List.mem_cons.1 hc with e | hc
          · cases e; simp
          · exact List.mem_cons_of_mem _ (els_mem n t qs (by simpa using hn) hq c hc)

/-- Letters that are ones, one behind the other, are these letters. -/
theorem lets_flatten (cs : List (List UInt8)) : (∀ c ∈ cs, letter c ∧ good c = true) → lets cs.flatten = cs := by
  induction cs with
  | nil => intro _; rfl
  | cons c t ih =>
    intro h
    have hc := h c (by simp)
    have hg : goods c := fun d hd => by
      rw [lets_one c hc.1] at hd
      rw [List.mem_singleton.1 hd]
      exact hc.2
    rw [List.flatten_cons, lets_append c _ hg, lets_one c hc.1, ih (fun d hd => h d (List.mem_cons_of_mem _ hd))]
    rfl

theorem is_alone (a : List UInt8) (ps : List El) (hp : elsOf a = some ps) (ha : goods a) (h : (fixedE ps).2 = true) : isB a (fixedE ps).1 = true := by
  obtain ⟨cs, rfl, h2⟩ := fixed_alone ps h
  rw [isB_some hp, mt_lits, h2]
  refine lets_flatten cs fun c hc => ?_
  have := els_mem _ _ _ (Nat.le_refl _) hp c (List.mem_map.2 ⟨c, hc, rfl⟩)
  exact ⟨lets_letters a c this, ha c this⟩

/-! ### Patterns, one behind the other -/

theorem els_append : ∀ (n : Nat) (x y : List (List UInt8)) (ps : List El), x.length ≤ n → els x = some ps → els (x ++ y) = (els y).map (ps ++ ·)
  | _, [], y, ps, _, h => by
    have : ps = [] := by simpa [els] using h.symm
    subst this
    simp
  | 0, _ :: _, _, _, hn, _ => by simp at hn
  | n + 1, d :: t, y, ps, hn, h => by
    rw [List.cons_append, els.eq_def]
    rw [els.eq_def] at h
    simp only at h ⊢
    split at h
    · rename_i e
      rw [if_pos e]
      split at h
      · cases h
      · rename_i d' t'
        obtain ⟨qs, hq, rfl⟩ := Option.map_eq_some_iff.1 h
        rw [List.cons_append]
        simp only
        rw [els_append n t' y qs (by simp at hn; omega) hq, Option.map_map]
        rfl
    · rename_i e
      rw [if_neg e]
      split at h
      · rename_i e2
        obtain ⟨qs, hq, rfl⟩ := Option.map_eq_some_iff.1 h
        rw [if_pos e2, els_append n t y qs (by simpa using hn) hq, Option.map_map]
        rfl
      · rename_i e2
        rw [if_neg e2]
        split at h
        · rename_i e3
          obtain ⟨qs, hq, rfl⟩ := Option.map_eq_some_iff.1 h
          rw [if_pos e3, els_append n t y qs (by simpa using hn) hq, Option.map_map]
          rfl
        · rename_i e3
          obtain ⟨qs, hq, rfl⟩ := Option.map_eq_some_iff.1 h
          rw [if_neg e3, els_append n t y qs (by simpa using hn) hq, Option.map_map]
          rfl
theorem elsOf_append (a c : List UInt8) (ps : List El) (ha : goods a) (h : elsOf a = some ps) : elsOf (a ++ c) = (elsOf c).map (ps ++ ·) := by
  unfold elsOf at *
  rw [lets_append a c ha]
  exact els_append _ _ _ _ (Nat.le_refl _) h

theorem is_parts (a b c d : List UInt8) (ha : goods a) (hb : goods b) (h1 : isB a b = true) (h2 : isB c d = true) : isB (a ++ c) (b ++ d) = true := by
  obtain ⟨ps, hp, m1⟩ := (isB_iff _ _).1 h1
  obtain ⟨qs, hq, m2⟩ := (isB_iff _ _).1 h2
  have : elsOf (a ++ c) = some (ps ++ qs) := by rw [elsOf_append a c ps ha hp, hq]; rfl
  rw [isB_some this, lets_append b d hb, mt_append]
  exact ⟨(lets b).length, by simp, by rw [List.take_left]; exact m1, by rw [List.drop_left]; exact m2⟩

/-- With a % within it: what begins with what is like the one, and goes on with what is like the other. -/
theorem is_middle (a b t : List UInt8) (ps qs : List El) (ha : goods a) (hp : elsOf a = some ps) (hq : elsOf b = some qs) (ht : goods t) :
    isB (a ++ 37 :: b) t = true ↔ ∃ i k, i ≤ k ∧ k ≤ (lets t).length ∧ isB a ((lets t).take i).flatten = true ∧ isB b ((lets t).drop k).flatten = true := by
  have e : elsOf (a ++ 37 :: b) = some (ps ++ .any :: qs) := by
    rw [elsOf_append a _ ps ha hp]
    unfold elsOf at hq ⊢
    rw [lets_ascii _ _ (by decide), els_any, hq]; rfl
  have l1 : ∀ i, lets ((lets t).take i).flatten = (lets t).take i := fun i => lets_flatten _ fun c hc => ⟨lets_letters t c (List.mem_of_mem_take hc), ht c (List.mem_of_mem_take hc)⟩
  have l2 : ∀ k, lets ((lets t).drop k).flatten = (lets t).drop k := fun k => lets_flatten _ fun c hc => ⟨lets_letters t c (List.mem_of_mem_drop hc), ht c (List.mem_of_mem_drop hc)⟩
  rw [isB_some e, mt_append]
  constructor
  · rintro ⟨i, hi, m1, m2⟩
    obtain ⟨j, hj, m3⟩ := (mt_any _ _).1 m2
    rw [List.length_drop] at hj
    refine ⟨i, i + j, by omega, by omega, ?_, ?_⟩
    · rw [isB_some hp, l1]; exact m1
    · rw [isB_some hq, l2, ← List.drop_drop]; exact m3
  · rintro ⟨i, k, h1, h2, m1, m2⟩
    rw [isB_some hp, l1] at m1
    rw [isB_some hq, l2] at m2
    refine ⟨i, by omega, m1, (mt_any _ _).2 ⟨k - i, by rw [List.length_drop]; omega, ?_⟩⟩
    rw [List.drop_drop, show i + (k - i) = k by omega]
    exact m2

end Go.Proofs.YtmlaedhmgkcdpaaDoor
