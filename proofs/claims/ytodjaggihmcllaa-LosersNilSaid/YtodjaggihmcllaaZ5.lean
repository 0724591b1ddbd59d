/-
  Texts of this proof, merged: LosWin, CellEq, SameRow, OrdRef2, OrdRef3, OrdRef4, OrdRef5, OrdEx, LosRef.
-/
import Derived.Deep.CutBlock
import Derived.Test.YtodjaggihmcllaaZ4
import Derived.Test.YtodjaggihmcllaaZ3
import Derived.Test.YtodjaggihmcllaaZ1
import Derived.Test.YtodjaggihmcllaaZ2
/-
  A tree of matches: which head is ahead of all. No program.
-/
namespace Go.Proofs.Ytodjaggihmcllaa.LosWin
open OrdPure LosPure

variable {α : Type} {f : α → α → Int}

/-! ### Which is ahead -/

/-- If there is a head at b, there is one at a, and it is ahead, or alike and not behind. -/
def Ahead (f : α → α → Int) (os : List (Option α)) (a b : Nat) : Prop := ∀ r, os[b]? = some (some r) → ∃ q, os[a]? = some (some q) ∧ (f q r < 0 ∨ f q r = 0 ∧ a ≤ b)

theorem Ahead.refl (hf : Pre f) (os : List (Option α)) (a : Nat) : Ahead f os a a := fun r h => ⟨r, h, .inr ⟨hf.refl r, Nat.le_refl _⟩⟩
theorem Ahead.trans (hf : Pre f) {os : List (Option α)} {a b c : Nat} (h : Ahead f os a b) (k : Ahead f os b c) : Ahead f os a c := fun r hr => by
  obtain ⟨q, h1, h2⟩ := k r hr
  obtain ⟨p, h3, h4⟩ := h q h1
  refine ⟨p, h3, ?_⟩
  have t1 := hf.trans p q r (by omega) (by omega)
  by_cases e : f p r = 0
  · have n1 := hf.neg p r
    have n2 := hf.neg q r
    have n3 := hf.neg p q
    have t2 := hf.trans r p q (by omega) (by omega)
    have t3 := hf.trans q r p (by omega) (by omega)
    exact .inr ⟨e, by omega⟩
  · exact .inl (by omega)

/-- Whether the head at a is ahead of that at b. -/
def firstB (f : α → α → Int) (os : List (Option α)) (a b : Nat) : Bool :=
  match os[a]?.join, os[b]?.join with
  | none, _ => false
  | some _, none => true
  | some q, some r => decide (f q r < 0) || (decide (f q r = 0) && decide (a < b))

theorem join_some {o : Option (Option α)} {q : α} (h : o.join = some q) : o = some (some q) := by
  cases o with
  | none => cases h
  | some x => rw [show x = some q from h]
theorem first_ahead (_hf : Pre f) {os : List (Option α)} {a b : Nat} (h : firstB f os a b = true) : Ahead f os a b := fun r hr => by
  unfold firstB at h
  rw [hr] at h
  cases ha : os[a]?.join with
  | none => rw [ha] at h; simp at h
  | some q =>
    rw [ha] at h
    refine ⟨q, join_some ha, ?_⟩
    simp at h
    rcases h with h | h
    · exact .inl h
    · exact .inr ⟨h.1, Nat.le_of_lt h.2⟩
theorem first_behind (hf : Pre f) {os : List (Option α)} {a b : Nat} (h : firstB f os a b = false) : Ahead f os b a := fun r hr => by
  unfold firstB at h
  rw [hr] at h
  cases hb : os[b]?.join with
  | none => rw [hb] at h; simp at h
  | some q =>
    rw [hb] at h
    refine ⟨q, join_some hb, ?_⟩
    simp at h
    have := hf.neg q r
    by_cases e : f q r = 0
    · exact .inr ⟨e, h.2 (by omega)⟩
    · exact .inl (by omega)

/-- Of the two, w has won and l has lost. -/
def Mat (f : α → α → Int) (os : List (Option α)) (a b w l : Nat) : Prop := (w = a ∧ l = b ∧ Ahead f os a b) ∨ (w = b ∧ l = a ∧ Ahead f os b a)
theorem Mat.swap {os : List (Option α)} {a b w l : Nat} (h : Mat f os a b w l) : Mat f os b a w l := by
  rcases h with h | h
  · exact .inr h
  · exact .inl h
def winB (f : α → α → Int) (os : List (Option α)) (a b : Nat) : Nat := if firstB f os a b then a else b
def losB (f : α → α → Int) (os : List (Option α)) (a b : Nat) : Nat := if firstB f os a b then b else a
theorem mat_first (hf : Pre f) (os : List (Option α)) (a b : Nat) : Mat f os a b (winB f os a b) (losB f os a b) := by
  unfold winB losB
  cases h : firstB f os a b with
  | true => exact .inl ⟨rfl, rfl, first_ahead hf h⟩
  | false => exact .inr ⟨rfl, rfl, first_behind hf h⟩
theorem winB_lt {os : List (Option α)} {a b m : Nat} (ha : a < m) (hb : b < m) : winB f os a b < m := by
  unfold winB
  split <;> assumption
theorem losB_lt {os : List (Option α)} {a b m : Nat} (ha : a < m) (hb : b < m) : losB f os a b < m := by
  unfold losB
  split <;> assumption

/-! ### Which matches lead where -/

def Anc (x l : Nat) : Prop := ∃ d, l / 2 ^ d = x
theorem div_turn (a d : Nat) : a / 2 / 2 ^ d = a / 2 ^ d / 2 := by rw [Nat.div_div_eq_div_mul, Nat.div_div_eq_div_mul, Nat.mul_comm]
theorem Anc.self (l : Nat) : Anc l l := ⟨0, by simp⟩
theorem Anc.half {x l : Nat} (h : Anc x l) : Anc (x / 2) l := by
  obtain ⟨d, rfl⟩ := h
  exact ⟨d + 1, by rw [Nat.pow_succ, Nat.div_div_eq_div_mul]⟩
theorem Anc.le {x l : Nat} (h : Anc x l) : x ≤ l := by
  obtain ⟨d, rfl⟩ := h
  exact Nat.div_le_self _ _
theorem Anc.child {x l : Nat} (h : Anc x l) : x = l ∨ ∃ y, Anc y l ∧ y / 2 = x := by
  obtain ⟨d, rfl⟩ := h
  cases d with
  | zero => left; simp
  | succ d => exact .inr ⟨_, ⟨d, rfl⟩, by rw [Nat.pow_succ, Nat.div_div_eq_div_mul]⟩
theorem Anc.trans {x y l : Nat} (h : Anc x y) (k : Anc y l) : Anc x l := by
  obtain ⟨d, rfl⟩ := h
  obtain ⟨e, rfl⟩ := k
  exact ⟨e + d, by rw [Nat.pow_add, Nat.div_div_eq_div_mul]⟩
theorem Anc.only {y z l : Nat} (hy : Anc y l) (hz : Anc z l) (h : y / 2 = z / 2) (h1 : 1 ≤ y / 2) : y = z := by
  obtain ⟨d, rfl⟩ := hy
  obtain ⟨e, rfl⟩ := hz
  have key : ∀ a b : Nat, a < b → l / 2 ^ b ≤ l / 2 ^ a / 2 := fun a b hab => by
    rw [Nat.div_div_eq_div_mul, ← Nat.pow_succ]
    exact Nat.div_le_div_left (Nat.pow_le_pow_right (by decide) hab) (Nat.pow_pos (by decide))
  rcases Nat.lt_trichotomy d e with hd | hd | hd
  · have := key d e hd; omega
  · rw [hd]
  · have := key e d hd; omega
theorem anc_one : ∀ l, 1 ≤ l → Anc 1 l := by
  intro l
  induction l using Nat.strongRecOn with
  | _ l ih =>
    intro h
    by_cases h1 : l = 1
    · subst h1; exact Anc.self 1
    · exact (ih (l / 2) (by omega) (by omega)).trans (Anc.self l).half

/-! ### A tree -/

/-- All matches have been played: W tells who won them, lost who lost them. -/
structure Full (f : α → α → Int) (os : List (Option α)) (lost : List Nat) (W : Nat → Nat) : Prop where
  len : lost.length = os.length
  leaf : ∀ j, j < os.length → W (os.length + j) = j
  mat : ∀ x, 1 ≤ x → x < os.length → ∃ l, lost[x]? = some l ∧ Mat f os (W (2 * x)) (W (2 * x + 1)) (W x) l
  top : 0 < os.length → lost[0]? = some (W 1)

/-- Each winner is one of those that the match is led to by. -/
theorem Full.loc {os : List (Option α)} {lost : List Nat} {W : Nat → Nat} (h : Full f os lost W) : ∀ n y, 2 * os.length - y = n → 1 ≤ y → y < 2 * os.length → Anc y (os.length + W y) ∧ W y < os.length := by
  intro n
  induction n using Nat.strongRecOn with
  | _ n ih =>
    intro y hn h1 h2
    by_cases hy : os.length ≤ y
    · have e := h.leaf (y - os.length) (by omega)
      rw [show os.length + (y - os.length) = y by omega] at e
      rw [e]
      refine ⟨?_, by omega⟩
      rw [show os.length + (y - os.length) = y by omega]
      exact Anc.self y
    · obtain ⟨l, -, hm⟩ := h.mat y h1 (by omega)
      have i1 := ih (2 * os.length - 2 * y) (by omega) (2 * y) rfl (by omega) (by omega)
      have i2 := ih (2 * os.length - (2 * y + 1)) (by omega) (2 * y + 1) rfl (by omega) (by omega)
      rcases hm with ⟨e, -, -⟩ | ⟨e, -, -⟩
      · rw [e]
        refine ⟨?_, i1.2⟩
        have := i1.1.half
        rwa [show 2 * y / 2 = y by omega] at this
      · rw [e]
        refine ⟨?_, i2.2⟩
        have := i2.1.half
        rwa [show (2 * y + 1) / 2 = y by omega] at this

/-- The winner of all is ahead of all. -/
theorem Full.ahead (hf : Pre f) {os : List (Option α)} {lost : List Nat} {W : Nat → Nat} (h : Full f os lost W) {j : Nat} (hj : j < os.length) : Ahead f os (W 1) j := by
  have key : ∀ d, 1 ≤ (os.length + j) / 2 ^ d → Ahead f os (W ((os.length + j) / 2 ^ d)) j := by
    intro d
    induction d with
    | zero =>
      intro _
      rw [Nat.pow_zero, Nat.div_one, h.leaf j hj]
      exact Ahead.refl hf os j
    | succ d ih =>
      rw [Nat.pow_succ, ← Nat.div_div_eq_div_mul]
      intro h1
      have hle : (os.length + j) / 2 ^ d ≤ os.length + j := Nat.div_le_self _ _
      generalize (os.length + j) / 2 ^ d = c at ih h1 hle ⊢
      have i := ih (by omega)
      obtain ⟨l, -, hm⟩ := h.mat (c / 2) h1 (by omega)
      rcases Nat.mod_two_eq_zero_or_one c with hc | hc
      · have e : 2 * (c / 2) = c := by omega
        rw [e] at hm
        rcases hm with ⟨e1, -, -⟩ | ⟨e1, -, hm⟩
        · rw [e1]; exact i
        · rw [e1]; exact hm.trans hf i
      · have e : 2 * (c / 2) + 1 = c := by omega
        rw [e] at hm
        rcases hm with ⟨e1, -, hm⟩ | ⟨e1, -, -⟩
        · rw [e1]; exact hm.trans hf i
        · rw [e1]; exact i
  obtain ⟨d, hd⟩ := anc_one (os.length + j) (by omega)
  have := key d (by omega)
  rwa [hd] at this

theorem Full.next (hf : Pre f) {os : List (Option α)} {lost : List Nat} {W : Nat → Nat} (h : Full f os lost W) : nextS f os = (if os[W 1]?.join.isSome then some (W 1) else none) := by
  refine IsNext.eq hf ?_
  cases hw : os[W 1]?.join with
  | none =>
    intro i r hi
    have hlt : i < os.length := (List.getElem?_eq_some_iff.1 hi).1
    obtain ⟨q, h1, -⟩ := h.ahead hf hlt r hi
    rw [h1] at hw
    simp at hw
  | some q =>
    refine ⟨q, join_some hw, fun i r hi => ?_⟩
    have hlt : i < os.length := (List.getElem?_eq_some_iff.1 hi).1
    obtain ⟨q', h1, h2⟩ := h.ahead hf hlt r hi
    rw [h1] at hw
    have e : q' = q := by simpa using hw
    subst e
    exact ⟨fun hlt => by omega, by omega⟩

/-! ### One after another: all matches -/

/-- Who wins match i. -/
def winF (f : α → α → Int) (os : List (Option α)) (i : Nat) : Nat :=
  if h : i = 0 ∨ os.length ≤ i then i - os.length else winB f os (winF f os (2 * i)) (winF f os (2 * i + 1))
termination_by os.length - i
decreasing_by all_goals omega
def losF (f : α → α → Int) (os : List (Option α)) (i : Nat) : Nat := losB f os (winF f os (2 * i)) (winF f os (2 * i + 1))

theorem winF_leaf {os : List (Option α)} {i : Nat} (h : os.length ≤ i) : winF f os i = i - os.length := by
  rw [winF, dif_pos (.inr h)]
theorem winF_node {os : List (Option α)} {i : Nat} (h1 : 1 ≤ i) (h : i < os.length) : winF f os i = winB f os (winF f os (2 * i)) (winF f os (2 * i + 1)) := by
  rw [winF, dif_neg (by omega)]
theorem winF_lt {os : List (Option α)} : ∀ n i, 2 * os.length - i = n → 1 ≤ i → i < 2 * os.length → winF f os i < os.length := by
  intro n
  induction n using Nat.strongRecOn with
  | _ n ih =>
    intro i hn h1 h2
    by_cases hi : os.length ≤ i
    · rw [winF_leaf hi]; omega
    · rw [winF_node h1 (by omega)]
      exact winB_lt (ih _ (by omega) (2 * i) rfl (by omega) (by omega)) (ih _ (by omega) (2 * i + 1) rfl (by omega) (by omega))
theorem losF_lt {os : List (Option α)} {i : Nat} (h1 : 1 ≤ i) (h : i < os.length) : losF f os i < os.length :=
  losB_lt (winF_lt _ (2 * i) rfl (by omega) (by omega)) (winF_lt _ (2 * i + 1) rfl (by omega) (by omega))

theorem full_new (hf : Pre f) {os : List (Option α)} {lost : List Nat} (hl : lost.length = os.length) (hx : ∀ x, 1 ≤ x → x < os.length → lost[x]? = some (losF f os x)) (h0 : 0 < os.length → lost[0]? = some (winF f os 1)) : Full f os lost (winF f os) :=
  ⟨hl, fun j _ => by rw [winF_leaf (by omega)]; omega, fun x h1 h2 => ⟨_, hx x h1 h2, by rw [winF_node h1 h2]; exact mat_first hf os _ _⟩, h0⟩

/-- How many matches lead to i, itself among them. -/
def cntN : Nat → Nat → Nat → Nat
  | 0, _, _ => 0
  | k + 1, m, i => if m ≤ i then 0 else 1 + cntN k m (2 * i) + cntN k m (2 * i + 1)
theorem cnt_le : ∀ m, m < 17 → cntN 4 m 1 ≤ m - 1 := by decide

/-! ### A new head, and the matches that it comes through -/

def sib (y : Nat) : Nat := if y % 2 = 0 then y + 1 else y - 1
theorem sib_half (y : Nat) (h : 2 ≤ y) : sib y / 2 = y / 2 ∧ sib y ≠ y ∧ sib y ≤ y + 1 ∧ 2 ≤ sib y := by
  unfold sib
  split <;> omega

/-- All matches have been played, but those that c leads on to: winner comes to them. -/
structure Up (f : α → α → Int) (os : List (Option α)) (lost : List Nat) (W : Nat → Nat) (c winner : Nat) : Prop where
  len : lost.length = os.length
  leaf : ∀ j, j < os.length → W (os.length + j) = j
  mat : ∀ x, 1 ≤ x → x < os.length → ¬ Anc x (c / 2) → ∃ l, lost[x]? = some l ∧ Mat f os (W (2 * x)) (W (2 * x + 1)) (W x) l
  up : ∀ y, Anc y c → 2 ≤ y → lost[y / 2]? = some (W (sib y))
  win : W c = winner
  wlt : winner < os.length
  llt : ∀ x l : Nat, lost[x]? = some l → l < os.length

theorem Full.llt {os : List (Option α)} {lost : List Nat} {W : Nat → Nat} (h : Full f os lost W) (x l : Nat) (hl : lost[x]? = some l) : l < os.length := by
  have hx : x < os.length := by rw [← h.len]; exact (List.getElem?_eq_some_iff.1 hl).1
  by_cases h0 : x = 0
  · subst h0
    rw [h.top (by omega)] at hl
    rw [← Option.some.inj hl]
    exact (h.loc _ 1 rfl (by omega) (by omega)).2
  · obtain ⟨l', h1, h2⟩ := h.mat x (by omega) hx
    rw [h1] at hl
    rw [← Option.some.inj hl]
    have a1 := (h.loc _ (2 * x) rfl (by omega) (by omega)).2
    have a2 := (h.loc _ (2 * x + 1) rfl (by omega) (by omega)).2
    rcases h2 with ⟨-, e, -⟩ | ⟨-, e, -⟩ <;> rw [e] <;> assumption

theorem Full.start {os : List (Option α)} {lost : List Nat} {W : Nat → Nat} (h : Full f os lost W) (hm : 0 < os.length) (o : Option α) : Up f (os.set (W 1) o) lost W (W 1 + os.length) (W 1) := by
  have hi := (h.loc _ 1 rfl (by omega) (by omega)).2
  have hne : ∀ z, 1 ≤ z → z < 2 * os.length → W z = W 1 → Anc z (os.length + W 1) := fun z h1 h2 e => by
    have := (h.loc _ z rfl h1 h2).1
    rwa [e] at this
  have hset : ∀ a b, a ≠ W 1 → b ≠ W 1 → Ahead f os a b → Ahead f (os.set (W 1) o) a b := fun a b ha hb hab r hr => by
    rw [List.getElem?_set_ne (Ne.symm hb)] at hr
    rw [List.getElem?_set_ne (Ne.symm ha)]
    exact hab r hr
  have hpath : ∀ z, Anc z (os.length + W 1) → 1 ≤ z → W z = W 1 := by
    intro z
    induction z using Nat.strongRecOn with
    | _ z ih =>
      intro hz h1
      by_cases h2 : z = 1
      · rw [h2]
      · have hzl := hz.le
        obtain ⟨s1, s2, s3, s4⟩ := sib_half z (by omega)
        have i := ih (z / 2) (by omega) hz.half (by omega)
        obtain ⟨l, -, hmt⟩ := h.mat (z / 2) (by omega) (by omega)
        have hsn : W (sib z) ≠ W 1 := fun e => s2 ((hne (sib z) (by omega) (by omega) e).only hz s1 (by omega))
        have hmm : W (z / 2) = W z ∨ W (z / 2) = W (sib z) := by
          unfold sib
          rcases Nat.mod_two_eq_zero_or_one z with hc | hc
          · rw [if_pos hc]
            rw [show 2 * (z / 2) = z by omega] at hmt
            rcases hmt with ⟨e, -, -⟩ | ⟨e, -, -⟩
            · exact .inl e
            · exact .inr e
          · rw [if_neg (by omega)]
            rw [show 2 * (z / 2) + 1 = z by omega, show 2 * (z / 2) = z - 1 by omega] at hmt
            rcases hmt with ⟨e, -, -⟩ | ⟨e, -, -⟩
            · exact .inr e
            · exact .inl e
        rcases hmm with e | e
        · rw [← e, i]
        · exact absurd (e.symm.trans i) hsn
  have hc : W 1 + os.length = os.length + W 1 := by omega
  refine ⟨by rw [List.length_set]; exact h.len, fun j hj => by rw [List.length_set] at hj ⊢; exact h.leaf j hj, fun x h1 h2 hx => ?_, fun y hy h2 => ?_, ?_, by rw [List.length_set]; exact hi, fun x l hl => by rw [List.length_set]; exact h.llt x l hl⟩
  · rw [List.length_set] at h2
    obtain ⟨l, e, hmt⟩ := h.mat x h1 h2
    refine ⟨l, e, ?_⟩
    have k : ∀ z, 1 ≤ z → z < 2 * os.length → z / 2 = x → W z ≠ W 1 := fun z hz1 hz2 hz e => hx (by
      have a := hne z hz1 hz2 e
      rw [hc]
      rcases a.child with hzc | ⟨y, hy, hyz⟩
      · rw [← hz, hzc]; exact Anc.self _
      · have := (hy.half)
        have hyl : Anc (y / 2) ((os.length + W 1) / 2) := by
          obtain ⟨d, rfl⟩ := hy
          exact ⟨d, by rw [Nat.div_div_eq_div_mul, Nat.div_div_eq_div_mul, Nat.mul_comm]⟩
        rw [hyz] at hyl
        rw [← hz]
        exact hyl.half)
    have k0 := k (2 * x) (by omega) (by omega) (by omega)
    have k1 := k (2 * x + 1) (by omega) (by omega) (by omega)
    rcases hmt with ⟨e1, e2, hmt⟩ | ⟨e1, e2, hmt⟩
    · exact .inl ⟨e1, e2, hset _ _ k0 k1 hmt⟩
    · exact .inr ⟨e1, e2, hset _ _ k1 k0 hmt⟩
  · rw [hc] at hy
    have hyl := hy.le
    obtain ⟨s1, s2, s3, s4⟩ := sib_half y h2
    have hsn : W (sib y) ≠ W 1 := fun e => s2 ((hne (sib y) (by omega) (by
      unfold sib
      split
      · omega
      · omega) e).only hy s1 (by omega))
    have hw := hpath (y / 2) hy.half (by omega)
    obtain ⟨l, e, hmt⟩ := h.mat (y / 2) (by omega) (by omega)
    rw [e]
    unfold sib at hsn ⊢
    rcases Nat.mod_two_eq_zero_or_one y with hc2 | hc2
    · rw [if_pos hc2] at hsn ⊢
      rw [show 2 * (y / 2) = y by omega] at hmt
      rcases hmt with ⟨e1, e2, -⟩ | ⟨e1, e2, -⟩
      · rw [e2]
      · exact absurd (e1.symm.trans hw) hsn
    · rw [if_neg (by omega)] at hsn ⊢
      rw [show 2 * (y / 2) + 1 = y by omega, show 2 * (y / 2) = y - 1 by omega] at hmt
      rcases hmt with ⟨e1, e2, -⟩ | ⟨e1, e2, -⟩
      · exact absurd (e1.symm.trans hw) hsn
      · rw [e2]
  · rw [hc]
    exact h.leaf _ hi

/-- A match that it comes through. -/
theorem Up.step (_hf : Pre f) {os : List (Option α)} {lost : List Nat} {W : Nat → Nat} {c winner q b w l : Nat} (h : Up f os lost W c winner) (hq : c / 2 = q) (h1 : 1 ≤ q) (hc : c < 2 * os.length) (hb : lost[q]? = some b) (hm : Mat f os winner b w l) : ∃ W', Up f os (lost.set q l) W' q w := by
  subst hq
  obtain ⟨W', hW1, hW2⟩ : ∃ W' : Nat → Nat, (∀ x, x ≠ c / 2 → W' x = W x) ∧ W' (c / 2) = w := ⟨fun x => if x = c / 2 then w else W x, fun x h => if_neg h, if_pos rfl⟩
  have hlq : c / 2 < lost.length := by rw [h.len]; omega
  have hbs : b = W (sib c) := by
    have := h.up c (Anc.self c) (by omega)
    rw [hb] at this
    exact Option.some.inj this
  have hup : Anc (c / 2) c := (Anc.self c).half
  have hbl := h.llt _ _ hb
  have hwl : w < os.length ∧ l < os.length := by
    have := h.wlt
    rcases hm with ⟨rfl, rfl, -⟩ | ⟨rfl, rfl, -⟩ <;> constructor <;> assumption
  refine ⟨W', by rw [List.length_set]; exact h.len, fun j hj => ?_, fun x h2 h3 hx => ?_, fun y hy h2 => ?_, hW2, hwl.1, fun x l' hl' => ?_⟩
  · rw [hW1 _ (by omega)]
    exact h.leaf j hj
  · by_cases e : x = c / 2
    · subst e
      refine ⟨l, by rw [List.getElem?_set_self hlq], ?_⟩
      rw [hW1 _ (by omega), hW1 _ (by omega), hW2]
      rw [hbs, ← h.win] at hm
      unfold sib at hm
      rcases Nat.mod_two_eq_zero_or_one c with hc2 | hc2
      · rw [if_pos hc2] at hm
        rw [show 2 * (c / 2) = c by omega]
        exact hm
      · rw [if_neg (by omega)] at hm
        rw [show 2 * (c / 2) + 1 = c by omega, show 2 * (c / 2) = c - 1 by omega]
        exact hm.swap
    · have hx2 : ¬ Anc x (c / 2) := fun ha => by
        rcases ha.child with ha | ⟨y, hy, hyx⟩
        · exact e ha
        · apply hx
          obtain ⟨d, rfl⟩ := hy
          exact ⟨d, by rw [← hyx, div_turn]⟩
      obtain ⟨l', e1, e2⟩ := h.mat x h2 h3 hx2
      refine ⟨l', by rw [List.getElem?_set_ne (Ne.symm e)]; exact e1, ?_⟩
      have n0 : 2 * x ≠ c / 2 := fun e3 => hx (by rw [← e3, show 2 * x / 2 = x by omega]; exact Anc.self x)
      have n1 : 2 * x + 1 ≠ c / 2 := fun e3 => hx (by rw [← e3, show (2 * x + 1) / 2 = x by omega]; exact Anc.self x)
      rw [hW1 _ n0, hW1 _ n1, hW1 _ e]
      exact e2
  · have hyc := hy.trans hup
    have hyl := hy.le
    obtain ⟨s1, s2, s3, s4⟩ := sib_half y h2
    have hsn : sib y ≠ c / 2 := by
      rcases hy.child with e | ⟨z, hz, hzy⟩
      · rw [← e]; exact s2
      · have := hz.le
        omega
    rw [hW1 _ hsn, List.getElem?_set_ne (by omega)]
    exact h.up y hyc h2
  · rcases List.mem_or_eq_of_mem_set (List.mem_of_getElem? hl') with hm' | hm'
    · obtain ⟨x', hx', e'⟩ := List.mem_iff_getElem.1 hm'
      exact h.llt x' l' (by rw [List.getElem?_eq_getElem hx', e'])
    · rw [hm']; exact hwl.2

/-- All of them. -/
theorem Up.full {os : List (Option α)} {lost : List Nat} {W : Nat → Nat} {c winner : Nat} (h : Up f os lost W c winner) (hc : c / 2 = 0) (h1 : 1 ≤ c) : Full f os (lost.set 0 winner) W := by
  have hc1 : c = 1 := by omega
  subst hc1
  have hl : 0 < lost.length := by
    have := h.wlt
    rw [h.len]
    omega
  refine ⟨by rw [List.length_set]; exact h.len, h.leaf, fun x h1 h2 => ?_, fun _ => by rw [List.getElem?_set_self hl, h.win]⟩
  obtain ⟨l, e1, e2⟩ := h.mat x h1 h2 fun ha => by
    have := ha.le
    omega
  exact ⟨l, by rw [List.getElem?_set_ne (by omega)]; exact e1, e2⟩

end Go.Proofs.Ytodjaggihmcllaa.LosWin

/-
  Two values held against each other by ==.
-/
namespace Go.Proofs.Ytodjaggihmcllaa
open Go.RowKit Go.BigFrame

theorem eq_val (a b : V) (w : World) : (binOp .eql 38 a.val b.val).run Try.prog w = .ok (.bool (decide (a = b))) w := by
  obtain ⟨k, n, s⟩ := a
  obtain ⟨k', n', s'⟩ := b
  unfold V.val
  simp only [V.mk.injEq]
  simp [go_sem]
  by_cases h1 : k = k' <;> by_cases h2 : n = n' <;> by_cases h3 : s = s' <;> simp [h1, h2, h3]

end Go.Proofs.Ytodjaggihmcllaa

/-
  The contract of the document's own SameRow.
-/
namespace Go.Proofs.Ytodjaggihmcllaa
open Go.RowKit Go.BigFrame

theorem ne_val (a b : V) (w : World) : (binOp .neq 38 a.val b.val).run Try.prog w = .ok (.bool (decide (a ≠ b))) w := by
  obtain ⟨k, n, s⟩ := a
  obtain ⟨k', n', s'⟩ := b
  unfold V.val
  simp only [ne_eq, V.mk.injEq]
  simp [go_sem]
  by_cases h1 : k = k' <;> by_cases h2 : n = n' <;> by_cases h3 : s = s' <;> simp [h1, h2, h3]

set_option maxRecDepth 100000 in
theorem refSameRow_any (u v : Value) (xs ys : List V) (w : World) (hu : RdVals w u xs) (hv : RdVals w v ys) :
    Calls Try.prog 31 #[u, v] w fun e w' => e = .returned (.bool (decide (xs = ys))) ∧ Ext w w' := by
  obtain ⟨ao, ca, rfl, -, -⟩ := hu.shape
  obtain ⟨bo, cb, rfl, -, -⟩ := hv.shape
  obtain ⟨-, h1, h2, hca⟩ := hu.plain
  obtain ⟨-, h3, h4, hcb⟩ := hv.plain
  have HA := Lib.hid hca
  have HB := Lib.hid hcb
  unfold maxLen at h2 h4
  clear hu hv hca hcb
  by_cases hL : xs.length = ys.length
  · have HL := Lib.hid hL
    generalize hN : ys.length = N at h3
    rw [hL, hN] at h1 ⊢
    replace hN := Lib.hid hN
    clear hL
    go_enter Try.func31, Try.ntmps31
    go_wp2_with fail
    go_loopw [5] (fun i wr => ∃ j : Nat, j ≤ N ∧ i = .int .i64 j ∧ xs.take j = ys.take j ∧ Ext w wr) (fun i _ => N - (intOf i).toNat)
    case atStart => exact ⟨0, Nat.zero_le _, rfl, rfl, Ext.keeps.refl _⟩
    case round =>
      obtain ⟨j, hj, rfl, htk, hext⟩ := hrel
      have HT := Lib.hid htk
      have HE := Lib.hid hext
      clear htk hext
      by_cases hlt : j < N
      · have hjx : j < xs.length := by have := HL.out; have := hN.out; omega
        have hjy : j < ys.length := by have := hN.out; omega
        obtain ⟨g, off, rfl, a0, a1, a2⟩ := HA.out j hjx
        obtain ⟨g', off', rfl, b0, b1, b2⟩ := HB.out j hjy
        have LA := Lib.hid (fun (x : Addr) (y : Value) (h : w.cell? x = some y) (z : Later Ext wr.drew) => (show z.val.cell? x = some y from ((Ext.trans HE.out (Ext.trans (Ext.drew wr) z.ext)).cell (lt_of_cell h)).trans h))
        replace a0 := LA.out _ _ a0
        replace a1 := LA.out _ _ a1
        replace a2 := LA.out _ _ a2
        replace b0 := LA.out _ _ b0
        replace b1 := LA.out _ _ b1
        replace b2 := LA.out _ _ b2
        have HS := Lib.hid (show xs.take (j + 1) = xs.take j ++ [xs[j]] ∧ ys.take (j + 1) = ys.take j ++ [ys[j]] from ⟨List.take_succ_eq_append_getElem hjx, List.take_succ_eq_append_getElem hjy⟩)
        have HG := Lib.hid (show xs[j]? = some xs[j] ∧ ys[j]? = some ys[j] from ⟨List.getElem?_eq_getElem hjx, List.getElem?_eq_getElem hjy⟩)
        have hne := ne_val xs[j] ys[j]
        unfold V.val at hne
        generalize xs[j] = c at a0 a1 a2 HS HG hne
        generalize ys[j] = d at b0 b1 b2 HS HG hne
        clear hjx hjy
        by_cases hcd : c = d
        · subst hcd
          simp only [ne_eq, not_true_eq_false, decide_false] at hne
          go_wp2_with fail
          refine wp_region_segs Ext Ext.keeps [(List.range 9, none)] (by kernel_rfl) (by kernel_rfl) (fun c a a' w e h => (by exact ⟨e ▸ h.1, h.2⟩)) ?_
          simp only [List.range, List.range.loop, pickSegs, pickOps, List.map_cons, List.map_nil, Option.map_none, Option.getD_some, List.getElem?_toArray, List.getElem?_cons_zero, List.getElem?_cons_succ]
          refine wpSegs_none ?_
          repeat go_big_quiet_step (fail)
          refine wpQuiet_nil (wpSegs_nil ?_)
          clear a0 a1 a2 b0 b1 b2 hne
          go_wp2_with fail
          go_roundw
          case rel => exact ⟨j + 1, by omega, by go_num, by rw [HS.out.1, HS.out.2, HT.out], Ext.trans HE.out (Ext.drew wr)⟩
          case measure => simp [intOf]; omega
        · simp only [ne_eq, hcd, not_false_eq_true, decide_true] at hne
          have HNE := Lib.hid (show decide (xs = ys) = false from decide_eq_false (fun h => by subst h; have h1 := HG.out.1; rw [HG.out.2] at h1; exact hcd (Option.some.inj h1).symm))
          clear hcd
          go_wp2_with fail
          refine wp_region_segs Ext Ext.keeps [(List.range 9, none)] (by kernel_rfl) (by kernel_rfl) (fun c a a' w e h => (by exact ⟨e ▸ h.1, h.2⟩)) ?_
          simp only [List.range, List.range.loop, pickSegs, pickOps, List.map_cons, List.map_nil, Option.map_none, Option.getD_some, List.getElem?_toArray, List.getElem?_cons_zero, List.getElem?_cons_succ]
          refine wpSegs_none ?_
          repeat go_big_quiet_step (fail)
          refine wpQuiet_nil (wpSegs_nil ?_)
          clear a0 a1 a2 b0 b1 b2 hne
          go_wp2_with fail
          go_ret
          exact ⟨by rw [HNE.out]; rfl, Ext.trans HE.out (Ext.drew wr)⟩
      · have HEQ := Lib.hid (show decide (xs = ys) = true from decide_eq_true (by have h := HT.out; rw [List.take_of_length_le (by have := HL.out; have := hN.out; omega), List.take_of_length_le (by have := hN.out; omega)] at h; exact h))
        go_wp2_with fail
        go_ret
        exact ⟨by rw [HEQ.out]; rfl, HE.out⟩
  · have HNE := Lib.hid (show decide (xs = ys) = false from decide_eq_false (fun h => hL (by rw [h])))
    have hq : ((xs.length : Int) == (ys.length : Int)) = false := by rw [beq_eq_false_iff_ne]; omega
    clear hL
    generalize xs.length = M at hq h1 ⊢
    generalize ys.length = N at hq h3 ⊢
    go_enter Try.func31, Try.ntmps31
    go_wp2_with fail
    go_ret
    exact ⟨by rw [HNE.out]; rfl, Ext.keeps.refl _⟩

end Go.Proofs.Ytodjaggihmcllaa

/-
  The document's own answers: are both lists of rows, are rows in order, do keys begin with others, why rows can't be ordered so.
-/
namespace Go.Proofs.Ytodjaggihmcllaa
open Go.RowKit Go.BigFrame

set_option maxRecDepth 100000 in
set_option maxHeartbeats 1000000 in
theorem refSameRows_any (u v : Value) (xs ys : List (List V)) (w : World) (hu : RdRows w u xs) (hv : RdRows w v ys) :
    Calls Try.prog 17 #[u, v] w fun e w' => e = .returned (.bool (decide (xs = ys))) ∧ Ext w w' := by
  obtain ⟨ao, ca, rfl, -, -⟩ := hu.shape
  obtain ⟨bo, cb, rfl, -, -⟩ := hv.shape
  obtain ⟨as', ha1, -, h1, h2, hca⟩ := hu.heads
  obtain ⟨bs, hb1, -, h3, h4, hcb⟩ := hv.heads
  have HA := Lib.hid hca
  have HB := Lib.hid hcb
  have HHA := Lib.hid ha1
  have HHB := Lib.hid hb1
  unfold maxLen at h2 h4
  clear hu hv hca hcb ha1 hb1
  by_cases hL : xs.length = ys.length
  · have HL := Lib.hid hL
    generalize hN : ys.length = N at h3
    rw [hL, hN] at h1 ⊢
    replace hN := Lib.hid hN
    clear hL
    go_enter Try.func17, Try.ntmps17
    go_wp2_with fail
    go_loopw [5] (fun i wr => ∃ j : Nat, j ≤ N ∧ i = .int .i64 j ∧ xs.take j = ys.take j ∧ Ext w wr) (fun i _ => N - (intOf i).toNat)
    case atStart => exact ⟨0, Nat.zero_le _, rfl, rfl, Ext.keeps.refl _⟩
    case round =>
      obtain ⟨j, hj, rfl, htk, hext⟩ := hrel
      have HT := Lib.hid htk
      have HE := Lib.hid hext
      clear htk hext
      by_cases hlt : j < N
      · have hjx : j < xs.length := by have := HL.out; have := hN.out; omega
        have hjy : j < ys.length := by have := hN.out; omega
        obtain ⟨a1, a2, a3, ha, hra⟩ := HHA.out.get j hjx
        obtain ⟨b1, b2, b3, hb, hrb⟩ := HHB.out.get j hjy
        obtain ⟨g, off, rfl, c0⟩ := HA.out j _ ha
        obtain ⟨g', off', rfl, c1⟩ := HB.out j _ hb
        have z0 : ∀ z : Later Ext wr.drew, z.val.cell? ⟨g, off + j, none⟩ = some (.slice a1 a2 a3) := fun z => ((Ext.trans HE.out (Ext.trans (Ext.drew wr) z.ext)).cell (lt_of_cell c0)).trans c0
        have z1 : ∀ z : Later Ext wr.drew, z.val.cell? ⟨g', off' + j, none⟩ = some (.slice b1 b2 b3) := fun z => ((Ext.trans HE.out (Ext.trans (Ext.drew wr) z.ext)).cell (lt_of_cell c1)).trans c1
        have HS := Lib.hid (show xs.take (j + 1) = xs.take j ++ [xs[j]] ∧ ys.take (j + 1) = ys.take j ++ [ys[j]] from ⟨List.take_succ_eq_append_getElem hjx, List.take_succ_eq_append_getElem hjy⟩)
        have HG := Lib.hid (show xs[j]? = some xs[j] ∧ ys[j]? = some ys[j] from ⟨List.getElem?_eq_getElem hjx, List.getElem?_eq_getElem hjy⟩)
        have HSR := Lib.hid (refSameRow_any _ _ xs[j] ys[j] wr.drew (hra.mono (Ext.trans HE.out (Ext.drew wr))) (hrb.mono (Ext.trans HE.out (Ext.drew wr))))
        generalize xs[j] = c at HS HG HSR
        generalize ys[j] = d at HS HG HSR
        clear hra hrb ha hb c0 c1
        by_cases he : c = d
        · rw [decide_eq_true he] at HSR
          have HEQ := Lib.hid he
          clear he
          go_wp2_with fail
          refine wp_region_segs Ext Ext.keeps [([0, 1, 2, 3, 4, 5, 6, 7], some 8), ([9], none)] (by kernel_rfl) (by kernel_rfl) (fun c a a' w e h => (by exact ⟨e ▸ h.1, h.2⟩)) ?_
          simp only [pickSegs, pickOps, List.map_cons, List.map_nil, Option.map_some, Option.map_none, Option.getD_some, List.getElem?_toArray, List.getElem?_cons_zero, List.getElem?_cons_succ]
          refine wpSegs_some fun K' hK' => ?_
          repeat go_big_quiet_step (fail)
          refine wpQuiet_nil ?_
          clear z0 z1
          go_wp2_with fail
          refine (HSR.out).mono ?_
          rintro e w3 ⟨rfl, hx3⟩
          have HX3 := Lib.hid hx3
          clear hx3
          go_wp2_with fail
          refine ⟨HX3.out, hK' _ _ ?_⟩
          clear hK' K'
          refine wpSegs_none ?_
          repeat go_big_quiet_step (fail)
          refine wpQuiet_nil (wpSegs_nil ?_)
          go_wp2_with fail
          go_roundw
          case rel => exact ⟨j + 1, by omega, by go_num, by rw [HS.out.1, HS.out.2, HT.out, HEQ.out], Ext.trans HE.out (Ext.trans (Ext.drew wr) HX3.out)⟩
          case measure => simp [intOf]; omega
        · rw [decide_eq_false he] at HSR
          have HNE := Lib.hid (show xs ≠ ys from fun h => by
            have h1 := HG.out.1
            rw [h, HG.out.2] at h1
            exact he (Option.some.inj h1).symm)
          clear he
          go_wp2_with fail
          refine wp_region_segs Ext Ext.keeps [([0, 1, 2, 3, 4, 5, 6, 7], some 8), ([9], none)] (by kernel_rfl) (by kernel_rfl) (fun c a a' w e h => (by exact ⟨e ▸ h.1, h.2⟩)) ?_
          simp only [pickSegs, pickOps, List.map_cons, List.map_nil, Option.map_some, Option.map_none, Option.getD_some, List.getElem?_toArray, List.getElem?_cons_zero, List.getElem?_cons_succ]
          refine wpSegs_some fun K' hK' => ?_
          repeat go_big_quiet_step (fail)
          refine wpQuiet_nil ?_
          clear z0 z1
          go_wp2_with fail
          refine (HSR.out).mono ?_
          rintro e w3 ⟨rfl, hx3⟩
          have HX3 := Lib.hid hx3
          clear hx3
          go_wp2_with fail
          refine ⟨HX3.out, hK' _ _ ?_⟩
          clear hK' K'
          refine wpSegs_none ?_
          repeat go_big_quiet_step (fail)
          refine wpQuiet_nil (wpSegs_nil ?_)
          go_wp2_with fail
          go_ret
          exact ⟨by rw [decide_eq_false HNE.out]; rfl, Ext.trans HE.out (Ext.trans (Ext.drew wr) HX3.out)⟩
      · have HEQ := Lib.hid (show xs = ys by
          have h := HT.out
          have := HL.out
          have := hN.out
          rwa [List.take_of_length_le (by omega), List.take_of_length_le (by omega)] at h)
        go_wp2_with fail
        go_ret
        exact ⟨by rw [decide_eq_true HEQ.out]; rfl, HE.out⟩
  · have hne : xs ≠ ys := fun h => hL (by rw [h])
    rw [decide_eq_false hne]
    generalize xs.length = n at h1 hL
    generalize ys.length = k at h3 hL
    have q1 : ((n : Int) != (k : Int)) = true := bne_iff_ne.2 (by omega)
    clear hL
    go_enter Try.func17, Try.ntmps17
    go_wp2_with fail
    go_ret
    exact ⟨rfl, Ext.keeps.refl _⟩

/-- Rows that fit. -/
def FitRs (m : Nat) (rs : List (List V)) : Prop := ∀ r ∈ rs, FitR m r

end Go.Proofs.Ytodjaggihmcllaa

/-
  The document's own answers: do keys begin with others, why rows can't be ordered so.
-/
namespace Go.Proofs.Ytodjaggihmcllaa
open Go.RowKit Go.BigFrame

theorem ne_key (a b : Ky) (w : World) : (binOp .neq 51 a.val b.val).run Try.prog w = .ok (.bool (decide (a ≠ b))) w := by
  obtain ⟨k, n⟩ := a
  obtain ⟨k', n'⟩ := b
  unfold Ky.val
  simp only [ne_eq, Ky.mk.injEq]
  simp [go_sem]
  by_cases h1 : k = k' <;> by_cases h2 : n = n' <;> simp [h1, h2]

theorem begins_iff (ks bs : List Ky) : beginsK ks bs = true ↔ bs.length ≤ ks.length ∧ bs = ks.take bs.length := by
  unfold beginsK
  rw [decide_eq_true_eq]
  exact ⟨fun h => ⟨h.2, h.1⟩, fun h => ⟨h.2, h.1⟩⟩

theorem rightK_neg {cols : Int} {ks : List Ky} (h : cols < 0) : rightK cols ks = 1 := by unfold rightK; rw [if_pos h]
theorem rightK_long {cols : Int} {ks : List Ky} (h : ¬ cols < 0) (h2 : 8 < ks.length) : rightK cols ks = 3 := by unfold rightK; rw [if_neg h, if_pos h2]
theorem rightK_ok {cols : Int} {ks : List Ky} (h : ¬ cols < 0) (h2 : ¬ 8 < ks.length) (h3 : ∀ i, (hi : i < ks.length) → 0 ≤ ks[i].col ∧ ks[i].col < cols ∧ ∀ j, (hj : j < i) → (ks[j]'(by omega)).col ≠ ks[i].col) : rightK cols ks = 0 := by
  unfold rightK; rw [if_neg h, if_neg h2, if_pos h3]
theorem rightK_no {cols : Int} {ks : List Ky} (h : ¬ cols < 0) (h2 : ¬ 8 < ks.length) (h3 : ¬ ∀ i, (hi : i < ks.length) → 0 ≤ ks[i].col ∧ ks[i].col < cols ∧ ∀ j, (hj : j < i) → (ks[j]'(by omega)).col ≠ ks[i].col) : rightK cols ks = 1 := by
  unfold rightK; rw [if_neg h, if_neg h2, if_neg h3]

end Go.Proofs.Ytodjaggihmcllaa

/-
  The document's own answers: two lists of rows as one.
-/
namespace Go.Proofs.Ytodjaggihmcllaa
open Go.RowKit Go.BigFrame

theorem merge_cons_le {ks : List Ky} {out x y : List (List V)} {r s : List V} (h : cmpR ks r s ≤ 0) : out ++ OrdPure.mergeS (cmpR ks) (r :: x) (s :: y) = (out ++ [r]) ++ OrdPure.mergeS (cmpR ks) x (s :: y) := by
  rw [OrdPure.mergeS_le h, List.append_assoc]
  rfl
theorem merge_cons_gt {ks : List Ky} {out x y : List (List V)} {r s : List V} (h : ¬ cmpR ks r s ≤ 0) : out ++ OrdPure.mergeS (cmpR ks) (r :: x) (s :: y) = (out ++ [s]) ++ OrdPure.mergeS (cmpR ks) (r :: x) y := by
  rw [OrdPure.mergeS_gt h, List.append_assoc]
  rfl

end Go.Proofs.Ytodjaggihmcllaa

/-
  The document's own answers: rows in order.
-/
namespace Go.Proofs.Ytodjaggihmcllaa
open Go.RowKit Go.BigFrame

/-- What the search for a place is at. -/
def Seek (ks : List Ky) (s : List (List V)) (r : List V) (k : Nat) : Prop := k ≤ s.length ∧ ∀ y ∈ s.drop k, 0 < cmpR ks y r
theorem Seek.start (ks : List Ky) (s : List (List V)) (r : List V) : Seek ks s r s.length := ⟨Nat.le_refl _, by simp⟩
theorem Seek.next {ks : List Ky} {s : List (List V)} {r : List V} {k : Nat} (h : Seek ks s r k) (hk : 0 < k) (hc : 0 < cmpR ks (s[k - 1]'(by have := h.1; omega)) r) : Seek ks s r (k - 1) := by
  refine ⟨by have := h.1; omega, fun y hy => ?_⟩
  have hk2 : k - 1 < s.length := by have := h.1; omega
  rw [List.drop_eq_getElem_cons hk2, show k - 1 + 1 = k by omega] at hy
  rcases List.mem_cons.1 hy with rfl | hy
  · exact hc
  · exact h.2 y hy
theorem Seek.place {ks : List Ky} {s : List (List V)} {r : List V} {k : Nat} (h : Seek ks s r k) (hc : ∀ (_ : 0 < k), cmpR ks (s[k - 1]'(by have := h.1; omega)) r ≤ 0) : OrdPure.IsPlace (cmpR ks) s r k :=
  ⟨h.1, h.2, fun j hj e => by
    subst e
    exact hc (by omega)⟩

end Go.Proofs.Ytodjaggihmcllaa

/-
  The law's own helpers of layer 15: a row of a number, so many rows, so many keys, rows in memory of their own.
-/
namespace Go.Proofs.Ytodjaggihmcllaa
open Go.RowKit Go.BigFrame

def numV (n : Int) : List V := [⟨2, n, []⟩]

theorem lit_own (w : World) (r : List V) (hl : r.length ≤ maxLen) : (w.alloc (.cells (r.flatMap V.cells).toArray 38)).ownsRow w.heap.size 38 3 (.slice (some ⟨w.heap.size, 0, none⟩) r.length r.length) r.length (r.flatMap V.cells) := by
  have h := World.ownsRow_lit (base := w.heap.size) (e := 38) (size := 3) w (r.flatMap V.cells).toArray r.length (Nat.le_refl _) hl (by rw [List.size_toArray, valCells_length])
  simpa using h

/-- Rows that the law takes: few, short, of short texts. -/
def FewR (rs : List (List V)) : Prop := rs.length ≤ 100 ∧ ∀ r ∈ rs, r.length ≤ 20 ∧ FitR 200 r

/-- Rows that the program takes: texts and rows of bounded length. -/
def FitL (rs : List (List V)) : Prop := FitRs 5000 rs ∧ ∀ r ∈ rs, r.length ≤ 1000000
theorem FitL.append {xs ys : List (List V)} (h : FitL xs) (h' : FitL ys) : FitL (xs ++ ys) := ⟨fun r hr => by
    rcases List.mem_append.1 hr with hr | hr
    · exact h.1 r hr
    · exact h'.1 r hr, fun r hr => by
    rcases List.mem_append.1 hr with hr | hr
    · exact h.2 r hr
    · exact h'.2 r hr⟩
theorem FitL.sort {rs : List (List V)} (h : FitL rs) (ks : List Ky) : FitL (sortS ks rs) := ⟨fun r hr => h.1 r (((sortS_is ks rs).mem (cmpR_pre ks)).1 hr), fun r hr => h.2 r (((sortS_is ks rs).mem (cmpR_pre ks)).1 hr)⟩
theorem FewR.fitL {rs : List (List V)} (h : FewR rs) : FitL rs := ⟨fun r hr v hv => ⟨((h.2 r hr).2 v hv).1, Nat.le_trans ((h.2 r hr).2 v hv).2 (by decide)⟩, fun r hr => Nat.le_trans (h.2 r hr).1 (by decide)⟩
theorem FewR.fit {rs : List (List V)} (h : FewR rs) : FitRs 200 rs := fun r hr => (h.2 r hr).2

end Go.Proofs.Ytodjaggihmcllaa

/-
  The document's own answers of layer 16: which list's row comes next; the law's own helpers.
-/
namespace Go.Proofs.Ytodjaggihmcllaa
open Go.RowKit Go.BigFrame

/-- Which comes next, as the call answers it. -/
def nextI (ks : List Ky) (os : List (Option (List V))) : Int := match LosPure.nextS (cmpR ks) os with | some i => (i : Int) | none => 0
def nextB (ks : List Ky) (os : List (Option (List V))) : Bool := (LosPure.nextS (cmpR ks) os).isSome

/-- The place of the best so far: below 0, if there is none. -/
def bestI : Option Nat → Int
  | none => -1
  | some i => i

theorem take_next {α : Type} {os : List α} {j : Nat} (hj : j < os.length) {i : Nat} {x : α} (h : (os.take (j + 1))[i]? = some x) : (os.take j)[i]? = some x ∨ (i = j ∧ os[j] = x) := by
  rw [List.getElem?_take] at h ⊢
  by_cases hi : i < j
  · rw [if_pos hi]
    rw [if_pos (by omega)] at h
    exact .inl h
  · by_cases e : i = j
    · subst e
      rw [if_pos (by omega), List.getElem?_eq_getElem hj] at h
      exact .inr ⟨rfl, Option.some.inj h⟩
    · rw [if_neg (by omega)] at h
      cases h
theorem take_more {α : Type} {os : List α} {j i : Nat} {x : α} (h : (os.take j)[i]? = some x) : (os.take (j + 1))[i]? = some x := by
  rw [List.getElem?_take] at h ⊢
  by_cases hi : i < j
  · rw [if_pos hi] at h
    rw [if_pos (by omega)]
    exact h
  · rw [if_neg hi] at h
    cases h
theorem take_lt {α : Type} {os : List α} {j i : Nat} {x : α} (h : (os.take j)[i]? = some x) : i < j ∧ os[i]? = some x := by
  rw [List.getElem?_take] at h
  by_cases hi : i < j
  · rw [if_pos hi] at h; exact ⟨hi, h⟩
  · rw [if_neg hi] at h; cases h

open LosPure in
theorem next_skip {f : List V → List V → Int} {os : List (Option (List V))} {j : Nat} {b : Option Nat} (hj : j < os.length) (h : IsNext f (os.take j) b) (ho : os[j] = none) : IsNext f (os.take (j + 1)) b := by
  cases b with
  | none =>
    intro i r hi
    rcases take_next hj hi with h1 | ⟨-, h1⟩
    · exact h i r h1
    · rw [ho] at h1; cases h1
  | some k =>
    obtain ⟨q, h1, h2⟩ := h
    refine ⟨q, take_more h1, fun i r hi => ?_⟩
    rcases take_next hj hi with h3 | ⟨-, h3⟩
    · exact h2 i r h3
    · rw [ho] at h3; cases h3
open LosPure OrdPure in
theorem next_first {f : List V → List V → Int} (hf : Pre f) {os : List (Option (List V))} {j : Nat} {r : List V} (hj : j < os.length) (h : IsNext f (os.take j) none) (ho : os[j] = some r) : IsNext f (os.take (j + 1)) (some j) := by
  refine ⟨r, by rw [List.getElem?_take, if_pos (by omega), List.getElem?_eq_getElem hj, ho], fun i r' hi => ?_⟩
  rcases take_next hj hi with h1 | ⟨rfl, h1⟩
  · exact absurd h1 (h i r')
  · rw [ho] at h1
    have e := Option.some.inj h1
    subst e
    exact ⟨fun hi => absurd hi (Nat.lt_irrefl _), by rw [hf.refl]; omega⟩
open LosPure OrdPure in
theorem next_better {f : List V → List V → Int} (hf : Pre f) {os : List (Option (List V))} {j k : Nat} {r q : List V} (hj : j < os.length) (h : IsNext f (os.take j) (some k)) (hq : os[k]? = some (some q)) (ho : os[j] = some r) (hlt : f r q < 0) : IsNext f (os.take (j + 1)) (some j) := by
  obtain ⟨q', h1, h2⟩ := h
  have e : q' = q := Option.some.inj (Option.some.inj ((take_lt h1).2.symm.trans hq))
  subst e
  refine ⟨r, by rw [List.getElem?_take, if_pos (by omega), List.getElem?_eq_getElem hj, ho], fun i r' hi => ?_⟩
  rcases take_next hj hi with h3 | ⟨rfl, h3⟩
  · have h4 := (h2 i r' h3).2
    have h5 := hf.trans r q' r' (by omega) h4
    refine ⟨fun _ => ?_, h5⟩
    have h6 := hf.trans q' r' r h4
    have := hf.neg r r'
    have := hf.neg r q'
    omega
  · rw [ho] at h3
    have e := Option.some.inj h3
    subst e
    exact ⟨fun hi => absurd hi (Nat.lt_irrefl _), by rw [hf.refl]; omega⟩
open LosPure OrdPure in
theorem next_stays {f : List V → List V → Int} (hf : Pre f) {os : List (Option (List V))} {j k : Nat} {r q : List V} (hj : j < os.length) (h : IsNext f (os.take j) (some k)) (hq : os[k]? = some (some q)) (ho : os[j] = some r) (hlt : ¬ f r q < 0) : IsNext f (os.take (j + 1)) (some k) := by
  obtain ⟨q', h1, h2⟩ := h
  have e : q' = q := Option.some.inj (Option.some.inj ((take_lt h1).2.symm.trans hq))
  subst e
  have hk := (take_lt h1).1
  refine ⟨q', take_more h1, fun i r' hi => ?_⟩
  rcases take_next hj hi with h3 | ⟨rfl, h3⟩
  · exact h2 i r' h3
  · rw [ho] at h3
    have e := Option.some.inj h3
    subst e
    have := hf.neg r q'
    exact ⟨fun hi => by omega, by omega⟩

set_option maxRecDepth 100000 in
set_option maxHeartbeats 4000000 in
theorem refNext16_any (u x : Value) (hs : List Value) (os : List (Option (List V))) (ks : List Ky) (m : Nat) (w : World) (hu : RdV w u hs) (hh : HdOpt w hs os) (hx : RdKs w x ks) (hf : FitO m os) :
    Calls Try.prog 12 #[u, x] w fun e w' => e = .returned (.tuple #[.int .i64 (nextI ks os), .bool (nextB ks os)]) ∧ Ext w w' := by
  obtain ⟨ao, ca, e0, h1, h2, -⟩ := RdV.cellsAt hu
  subst e0
  obtain ⟨ko, kcap, rfl, -, -⟩ := hx.shape
  have hpl := (RdV.plainV hu).2.2.2
  have HP := Lib.hid hpl
  have HH := Lib.hid hh
  have HC := Lib.hid (fun a b u v W (h : Ext w W) (hu : RdVals W u a) (hv : RdVals W v b) (ha : FitR m a) (hb : FitR m b) => refCompare15_any u v _ a b ks m W hu hv (hx.mono h) ha hb)
  have HF := Lib.hid hf
  generalize ks.length = KN at HC ⊢
  unfold maxLen at h2
  obtain ⟨N, hN⟩ : ∃ N, hs.length = N := ⟨_, rfl⟩
  have HN := Lib.hid hN
  have HNO := Lib.hid (show os.length = N by rw [← hh.1, hN])
  rw [hN] at h1 ⊢
  clear hu hx hpl hh hf hN
  go_enter Try.func12, Try.ntmps12
  go_wp2_with fail
  go_loopw [6, 7] (fun bv i wr => ∃ (j : Nat) (b : Option Nat), j ≤ N ∧ i = .int .i64 j ∧ bv = .int .i64 (bestI b) ∧ LosPure.IsNext (cmpR ks) (os.take j) b ∧ Ext w wr) (fun _ i _ => N - (intOf i).toNat)
  case atStart => exact ⟨0, none, Nat.zero_le _, rfl, rfl, fun i r h => by simp at h, Ext.keeps.refl _⟩
  case round =>
    obtain ⟨j, b, hj, rfl, rfl, hb, hext⟩ := hrel
    have HB := Lib.hid hb
    have HE := Lib.hid hext
    clear hb hext
    by_cases hlt : j < N
    · have hjo : j < os.length := by have := HNO.out; omega
      obtain ⟨v, hv, hov⟩ := HH.out.at j hjo
      obtain ⟨g, off, rfl, c0⟩ := HP.out j _ hv
      have c0w := (HE.out.cell (lt_of_cell c0)).trans c0
      have z0 : ∀ z : Later Ext wr.drew, z.val.cell? ⟨g, off + j, none⟩ = some v := fun z => ((Ext.trans HE.out (Ext.trans (Ext.drew wr) z.ext)).cell (lt_of_cell c0)).trans c0
      cases hoj : os[j] with
      | none =>
        rw [hoj] at hov
        obtain rfl : v = .slice none 0 0 := hov
        have HNX := Lib.hid (next_skip hjo HB.out hoj)
        have hq : ∀ w, (binOp BinOp.neq 26 (.slice none 0 0) (.slice none 0 0)).run Try.prog w = .ok (.bool false) w := fun w => run_neq_slice_nil w _ _ none 0 0 Try.underlying26
        clear hoj hv c0 c0w
        go_wp2_with fail
        refine wp_region_segs Ext Ext.keeps [([0, 1, 2, 3, 4, 5, 6, 7, 8, 9, 10, 11, 12, 13, 14, 15, 16, 17], some 18), ([19, 20, 21], none)] (by kernel_rfl) (by kernel_rfl) (fun c a a' w e h => (by exact ⟨e ▸ h.1, h.2⟩)) ?_
        simp only [pickSegs, pickOps, List.map_cons, List.map_nil, Option.map_some, Option.map_none, Option.getD_some, List.getElem?_toArray, List.getElem?_cons_zero, List.getElem?_cons_succ]
        refine wpSegs_some fun K' hK' => ?_
        repeat go_big_quiet_step (fail)
        refine wpQuiet_nil ?_
        clear z0
        go_wp2_with fail
        refine ⟨Ext.keeps.refl _, hK' _ _ ?_⟩
        clear hK' K'
        refine wpSegs_none ?_
        repeat go_big_quiet_step (fail)
        refine wpQuiet_nil (wpSegs_nil ?_)
        go_wp2_with fail
        go_roundw
        case rel => exact ⟨j + 1, b, by omega, by go_num, rfl, HNX.out, Ext.trans HE.out (Ext.drew wr)⟩
        case measure => simp [intOf]; omega
      | some r =>
        rw [hoj] at hov
        obtain ⟨hrd, ad, n, c, rfl⟩ := hov
        have hq : ∀ w, (binOp BinOp.neq 26 (.slice (some ad) n c) (.slice none 0 0)).run Try.prog w = .ok (.bool true) w := fun w => run_neq_slice_nil w _ _ (some ad) n c Try.underlying26
        have HRD := Lib.hid hrd
        have HFR := Lib.hid (HF.out r (by rw [← hoj]; exact List.getElem_mem hjo))
        have HOJ := Lib.hid hoj
        clear hrd hoj hv c0
        cases b with
        | none =>
          have HNX := Lib.hid (next_first (cmpR_pre ks) hjo HB.out HOJ.out)
          have d0 : decide (bestI none < 0) = true := by decide
          unfold bestI at d0 ⊢
          simp only at d0 ⊢
          clear c0w
          go_wp2_with fail
          refine wp_region_segs Ext Ext.keeps [([0, 1, 2, 3, 4, 5, 6, 7, 8, 9, 10, 11, 12, 13, 14, 15, 16, 17], some 18), ([19, 20, 21], none)] (by kernel_rfl) (by kernel_rfl) (fun c a a' w e h => (by exact ⟨e ▸ h.1, h.2⟩)) ?_
          simp only [pickSegs, pickOps, List.map_cons, List.map_nil, Option.map_some, Option.map_none, Option.getD_some, List.getElem?_toArray, List.getElem?_cons_zero, List.getElem?_cons_succ]
          refine wpSegs_some fun K' hK' => ?_
          repeat go_big_quiet_step (fail)
          refine wpQuiet_nil ?_
          clear z0
          go_wp2_with fail
          refine ⟨Ext.keeps.refl _, hK' _ _ ?_⟩
          clear hK' K'
          refine wpSegs_none ?_
          repeat go_big_quiet_step (fail)
          refine wpQuiet_nil (wpSegs_nil ?_)
          go_wp2_with fail
          go_roundw
          case rel => exact ⟨j + 1, some j, by omega, by go_num, rfl, HNX.out, Ext.trans HE.out (Ext.drew wr)⟩
          case measure => simp [intOf]; omega
        | some k =>
          obtain ⟨q, hkq, -⟩ : ∃ q, os[k]? = some (some q) ∧ True := by
            obtain ⟨q, h1, -⟩ := HB.out
            exact ⟨q, (take_lt h1).2, trivial⟩
          have hkl : k < os.length := (List.getElem?_eq_some_iff.1 hkq).1
          have hkN : k < N := by have := HNO.out; omega
          obtain ⟨v', hv', hov'⟩ := HH.out.at k hkl
          have hk2 : os[k] = some q := by
            rw [List.getElem?_eq_getElem hkl] at hkq
            exact Option.some.inj hkq
          rw [hk2] at hov'
          obtain ⟨hrd', ad', n', c', rfl⟩ := hov'
          obtain ⟨g', off', hgo, c1⟩ := HP.out k _ hv'
          have hgo2 : g' = g ∧ off' = off := by simpa [eq_comm] using hgo
          obtain ⟨rfl, rfl⟩ := hgo2
          have z1 : ∀ z : Later Ext wr.drew, z.val.cell? ⟨g', off' + k, none⟩ = some (.slice (some ad') n' c') := fun z => ((Ext.trans HE.out (Ext.trans (Ext.drew wr) z.ext)).cell (lt_of_cell c1)).trans c1
          have HCC := Lib.hid (HC.out r q _ _ wr.drew (Ext.trans HE.out (Ext.drew wr)) (HRD.out.mono (Ext.trans HE.out (Ext.drew wr))) (hrd'.mono (Ext.trans HE.out (Ext.drew wr))) HFR.out (HF.out q (List.mem_of_getElem? hkq)))
          have HYES := Lib.hid (next_better (cmpR_pre ks) hjo HB.out hkq HOJ.out)
          have HSTAY := Lib.hid (next_stays (cmpR_pre ks) hjo HB.out hkq HOJ.out)
          generalize cmpR ks r q = C at HCC HYES HSTAY
          have d0 : decide ((k : Int) < 0) = false := decide_eq_false (by omega)
          unfold bestI
          simp only
          clear c0w c1 hrd' hv' hk2 hkq hgo
          by_cases hC : C < 0
          · have HNX := Lib.hid (HYES.out hC)
            have d1 : decide (C < 0) = true := decide_eq_true hC
            clear hC
            go_wp2_with fail
            refine wp_region_segs Ext Ext.keeps [([0, 1, 2, 3, 4, 5, 6, 7, 8, 9, 10, 11, 12, 13, 14, 15, 16, 17], some 18), ([19, 20, 21], none)] (by kernel_rfl) (by kernel_rfl) (fun c a a' w e h => (by exact ⟨e ▸ h.1, h.2⟩)) ?_
            simp only [pickSegs, pickOps, List.map_cons, List.map_nil, Option.map_some, Option.map_none, Option.getD_some, List.getElem?_toArray, List.getElem?_cons_zero, List.getElem?_cons_succ]
            refine wpSegs_some fun K' hK' => ?_
            repeat go_big_quiet_step (fail)
            refine wpQuiet_nil ?_
            clear z0 z1
            go_wp2_with fail
            refine (HCC.out).mono ?_
            rintro e w3 ⟨rfl, hx3⟩
            have HX3 := Lib.hid hx3
            clear hx3
            go_wp2_with fail
            refine ⟨HX3.out, hK' _ _ ?_⟩
            clear hK' K'
            refine wpSegs_none ?_
            repeat go_big_quiet_step (fail)
            refine wpQuiet_nil (wpSegs_nil ?_)
            go_wp2_with fail
            go_roundw
            case rel => exact ⟨j + 1, some j, by omega, by go_num, rfl, HNX.out, Ext.trans HE.out (Ext.trans (Ext.drew wr) HX3.out)⟩
            case measure => simp [intOf]; omega
          · have HNX := Lib.hid (HSTAY.out hC)
            have d1 : decide (C < 0) = false := decide_eq_false hC
            clear hC
            go_wp2_with fail
            refine wp_region_segs Ext Ext.keeps [([0, 1, 2, 3, 4, 5, 6, 7, 8, 9, 10, 11, 12, 13, 14, 15, 16, 17], some 18), ([19, 20, 21], none)] (by kernel_rfl) (by kernel_rfl) (fun c a a' w e h => (by exact ⟨e ▸ h.1, h.2⟩)) ?_
            simp only [pickSegs, pickOps, List.map_cons, List.map_nil, Option.map_some, Option.map_none, Option.getD_some, List.getElem?_toArray, List.getElem?_cons_zero, List.getElem?_cons_succ]
            refine wpSegs_some fun K' hK' => ?_
            repeat go_big_quiet_step (fail)
            refine wpQuiet_nil ?_
            clear z0 z1
            go_wp2_with fail
            refine (HCC.out).mono ?_
            rintro e w3 ⟨rfl, hx3⟩
            have HX3 := Lib.hid hx3
            clear hx3
            go_wp2_with fail
            refine ⟨HX3.out, hK' _ _ ?_⟩
            clear hK' K'
            refine wpSegs_none ?_
            repeat go_big_quiet_step (fail)
            refine wpQuiet_nil (wpSegs_nil ?_)
            go_wp2_with fail
            go_roundw
            case rel => exact ⟨j + 1, some k, by omega, by go_num, rfl, HNX.out, Ext.trans HE.out (Ext.trans (Ext.drew wr) HX3.out)⟩
            case measure => simp [intOf]; omega
    · have HEQ := Lib.hid (show LosPure.nextS (cmpR ks) os = b from by
        have h := HB.out
        rw [List.take_of_length_le (by have := HNO.out; omega)] at h
        exact h.eq (cmpR_pre ks))
      cases b with
      | none =>
        have HR := Lib.hid (show nextI ks os = 0 ∧ nextB ks os = false by unfold nextI nextB; rw [HEQ.out]; exact ⟨rfl, rfl⟩)
        have d0 : decide (bestI none < 0) = true := by decide
        unfold bestI at d0 ⊢
        simp only at d0 ⊢
        go_wp2_with fail
        go_ret2
        exact ⟨by rw [HR.out.1, HR.out.2]; rfl, HE.out⟩
      | some k =>
        have HR := Lib.hid (show nextI ks os = (k : Int) ∧ nextB ks os = true by unfold nextI nextB; rw [HEQ.out]; exact ⟨rfl, rfl⟩)
        have d0 : decide ((k : Int) < 0) = false := decide_eq_false (by omega)
        unfold bestI
        simp only
        go_wp2_with fail
        go_ret2
        exact ⟨by rw [HR.out.1, HR.out.2]; rfl, HE.out⟩

end Go.Proofs.Ytodjaggihmcllaa
