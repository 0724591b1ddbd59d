/-
  A text's quote, the elements of a pattern, and what is like one: over lists of bytes and of letters. No program.
-/
import Derived.Test.YtmlaedhmgkcdpaaDoorChars
namespace Go.Proofs.YtmlaedhmgkcdpaaDoor
open Go.Lib (decodeL decodeN)

def special (c : List UInt8) : Bool := decide (c = [37]) || decide (c = [95]) || decide (c = [92])
def qc (c : List UInt8) : List UInt8 := if special c = true then 92 :: c else c
def qls (c : List UInt8) : List (List UInt8) := if special c = true then [[92], c] else [c]
/-- The pattern that is like a text alone. -/
def quote (l : List UInt8) : List UInt8 := (lets l).flatMap qc

theorem special_iff (c : List UInt8) : special c = true ↔ c = [37] ∨ c = [95] ∨ c = [92] := by
  unfold special
  rw [Bool.or_eq_true, Bool.or_eq_true, decide_eq_true_iff, decide_eq_true_iff, decide_eq_true_iff, or_assoc]
theorem special_ascii (c : List UInt8) (h : special c = true) : ∃ b, c = [b] ∧ b.toNat < 128 := by
  rw [special_iff] at h
  rcases h with rfl | rfl | rfl <;> exact ⟨_, rfl, by decide⟩

theorem decode_ascii' (b : UInt8) (r : List UInt8) (h : b.toNat < 128) : decodeL (b :: r) = (b.toNat, 1) := by
  rw [decodeL_eq]
  simp [Go.Lib.decodeN, h]
theorem wid_ascii (b : UInt8) (r : List UInt8) (h : b.toNat < 128) : wid (b :: r) = 1 := by unfold wid; rw [decode_ascii' b r h]
theorem lets_ascii (b : UInt8) (r : List UInt8) (h : b.toNat < 128) : lets (b :: r) = [b] :: lets r := by
  rw [lets_cons _ (by simp), wid_ascii b r h]; rfl
theorem good_ascii (b : UInt8) (r : List UInt8) (h : b.toNat < 128) : good (b :: r) = true := by
  rw [good_iff, decode_ascii' b r h]
  intro hh
  have := hh.1
  simp only at this
  omega
theorem cont_ascii (b : UInt8) (h : b.toNat < 128) : cont b = false := by
  unfold cont
  exact decide_eq_false (by omega)

theorem takeWhile_same {p : UInt8 → Bool} (c x y : List UInt8) (h : x.takeWhile p = y.takeWhile p) : (c ++ x).takeWhile p = (c ++ y).takeWhile p := by
  induction c with
  | nil => exact h
  | cons b t ih =>
    rw [List.cons_append, List.cons_append, List.takeWhile_cons, List.takeWhile_cons, ih]

/-- What goes on with a letter is as it was, ahead of the quote. -/
theorem cont_quote (l : List UInt8) : (quote l).takeWhile cont = l.takeWhile cont := by
  refine lets_ind (M := fun l => (quote l).takeWhile cont = l.takeWhile cont) rfl (fun l h ih => ?_) l
  have e : quote l = qc (l.take (wid l)) ++ quote (l.drop (wid l)) := by unfold quote; rw [lets_cons l h, List.flatMap_cons]
  rw [e]
  conv => rhs; rw [← List.take_append_drop (wid l) l]
  unfold qc
  by_cases hs : special (l.take (wid l)) = true
  · obtain ⟨b, hb, hlt⟩ := special_ascii _ hs
    rw [if_pos hs, hb, List.cons_append, List.takeWhile_cons, cont_ascii 92 (by decide)]
    show _ = (b :: ([] ++ l.drop (wid l))).takeWhile cont
    rw [List.takeWhile_cons, cont_ascii b hlt]
    rfl
  · rw [if_neg hs]
    exact takeWhile_same _ _ _ ih

theorem wid_cont (c x y : List UInt8) (hc : c ≠ []) (h : x.takeWhile cont = y.takeWhile cont) : wid (c ++ x) = wid (c ++ y) := by
  obtain ⟨b, t, rfl⟩ : ∃ b t, c = b :: t := by
    cases c with
    | nil => exact absurd rfl hc
    | cons b t => exact ⟨b, t, rfl⟩
  unfold wid
  rw [List.cons_append, List.cons_append, decode_cont, takeWhile_same t x y h, ← decode_cont]

theorem lets_quote (l : List UInt8) : lets (quote l) = (lets l).flatMap qls := by
  refine lets_ind (M := fun l => lets (quote l) = (lets l).flatMap qls) rfl (fun l h ih => ?_) l
  have hb := wid_bounds l h
  have e : quote l = qc (l.take (wid l)) ++ quote (l.drop (wid l)) := by unfold quote; rw [lets_cons l h, List.flatMap_cons]
  rw [e, lets_cons l h, List.flatMap_cons, ← ih]
  unfold qc qls
  by_cases hs : special (l.take (wid l)) = true
  · obtain ⟨b, hbb, hlt⟩ := special_ascii _ hs
    rw [if_pos hs, if_pos hs, hbb, List.cons_append, lets_ascii _ _ (by decide), List.singleton_append, lets_ascii _ _ hlt]
    rfl
  · rw [if_neg hs, if_neg hs]
    have hne : l.take (wid l) ≠ [] := (letter_take l h).1.1
    have hw : wid (l.take (wid l) ++ quote (l.drop (wid l))) = (l.take (wid l)).length := by
      rw [wid_cont _ _ (l.drop (wid l)) hne (cont_quote _), List.take_append_drop, List.length_take, Nat.min_eq_left hb.2.1]
    rw [lets_cons _ (fun e => hne (List.append_eq_nil_iff.1 e).1), hw, List.take_left, List.drop_left]
    rfl

/-! ### Patterns -/

inductive El where
  | any
  | one
  | lit (c : List UInt8)
deriving DecidableEq

/-- The elements of letters; none: it is no pattern. -/
def els : List (List UInt8) → Option (List El)
  | [] => some []
  | c :: t =>
    if c = [92] then
      match t with
      | [] => none
      | d :: t' => (els t').map (El.lit d :: ·)
    else if c = [37] then (els t).map (El.any :: ·)
    else if c = [95] then (els t).map (El.one :: ·)
    else (els t).map (El.lit c :: ·)

/-- Letters are like elements. -/
def mt : List El → List (List UInt8) → Bool
  | [], l => l.isEmpty
  | .any :: ps, l => (List.range (l.length + 1)).any fun k => mt ps (l.drop k)
  | .one :: ps, l => match l with
    | [] => false
    | _ :: t => mt ps t
  | .lit c :: ps, l => match l with
    | [] => false
    | d :: t => decide (c = d) && mt ps t

theorem mt_nil (l : List (List UInt8)) : mt [] l = true ↔ l = [] := by unfold mt; exact List.isEmpty_iff
theorem mt_any (ps : List El) (l : List (List UInt8)) : mt (.any :: ps) l = true ↔ ∃ k, k ≤ l.length ∧ mt ps (l.drop k) = true := by
  rw [mt, List.any_eq_true]
  exact ⟨fun ⟨k, h1, h2⟩ => ⟨k, by have := List.mem_range.1 h1; omega, h2⟩, fun ⟨k, h1, h2⟩ => ⟨k, List.mem_range.2 (by omega), h2⟩⟩
theorem mt_one (ps : List El) (l : List (List UInt8)) : mt (.one :: ps) l = true ↔ ∃ d t, l = d :: t ∧ mt ps t = true := by
  cases l with
  | nil => exact ⟨(fun h => by rw [mt] at h; cases h), fun ⟨_, _, h, _⟩ => by cases h⟩
  | cons d t =>
    rw [mt]
    exact ⟨fun h => ⟨d, t, rfl, h⟩, (fun ⟨_, _, h, h2⟩ => by cases h; exact h2)⟩
theorem mt_lit (c : List UInt8) (ps : List El) (l : List (List UInt8)) : mt (.lit c :: ps) l = true ↔ ∃ t, l = c :: t ∧ mt ps t = true := by
  cases l with
  | nil => exact ⟨(fun h => by rw [mt] at h; cases h), fun ⟨_, h, _⟩ => by cases h⟩
  | cons d t =>
    rw [mt, Bool.and_eq_true, decide_eq_true_iff]
    exact ⟨fun ⟨h, h2⟩ => ⟨t, by rw [h], h2⟩, fun ⟨_, h, h2⟩ => by cases h; exact ⟨rfl, h2⟩⟩

/-- Of elements, some behind others: the letters are cut somewhere. -/
theorem mt_append (ps qs : List El) : ∀ l, mt (ps ++ qs) l = true ↔ ∃ k, k ≤ l.length ∧ mt ps (l.take k) = true ∧ mt qs (l.drop k) = true := by
  induction ps with
  | nil =>
    intro l
    rw [List.nil_append]
    constructor
    · intro h
      exact ⟨0, Nat.zero_le _, by rw [mt_nil]; rfl, h⟩
    · rintro ⟨k, hk, h1, h2⟩
      rw [mt_nil, List.take_eq_nil_iff] at h1
      rcases h1 with rfl | rfl
      · exact h2
      · simpa using h2
  | cons e ps ih =>
    intro l
    rw [List.cons_append]
    cases e with
    | any =>
      rw [mt_any]
      constructor
      · rintro ⟨j, hj, h⟩
        obtain ⟨k, hk, h1, h2⟩ := (ih _).1 h
        rw [List.length_drop] at hk
        refine ⟨j + k, by omega, (mt_any _ _).2 ⟨j, by rw [List.length_take]; omega, ?_⟩, by rw [List.drop_drop] at h2; exact h2⟩
        rw [List.drop_take, Nat.add_sub_cancel_left]
        exact h1
      · rintro ⟨k, hk, h1, h2⟩
        obtain ⟨j, hj, h3⟩ := (mt_any _ _).1 h1
        rw [List.length_take] at hj
        refine ⟨j, by omega, (ih _).2 ⟨k - j, by rw [List.length_drop]; omega, ?_, ?_⟩⟩
        · rw [List.drop_take] at h3
          exact h3
        · rw [List.drop_drop, show j + (k - j) = k by omega]
          exact h2
    | one =>
      rw [mt_one]
      constructor
      · rintro ⟨d, t, rfl, h⟩
        obtain ⟨k, hk, h1, h2⟩ := (ih _).1 h
        exact ⟨k + 1, by simp; omega, (mt_one _ _).2 ⟨d, t.take k, rfl, h1⟩, h2⟩
      · rintro ⟨k, hk, h1, h2⟩
        obtain ⟨d, t, he, h3⟩ := (mt_one _ _).1 h1
        cases l with
        | nil => simp at he
        | cons d' t' =>
          cases k with
          | zero => simp at he
          | succ k =>
            simp only [List.take_succ_cons, List.cons.injEq] at he
            obtain ⟨rfl, rfl⟩ := he
            exact ⟨_, _, rfl, (ih _).2 ⟨k, by simpa using hk, h3, h2⟩⟩
    | lit c =>
      rw [mt_lit]
      constructor
      · rintro ⟨t, rfl, h⟩
        obtain ⟨k, hk, h1, h2⟩ := (ih _).1 h
        exact ⟨k + 1, by simp; omega, (mt_lit _ _ _).2 ⟨t.take k, rfl, h1⟩, h2⟩
      · rintro ⟨k, hk, h1, h2⟩
        obtain ⟨t, he, h3⟩ := (mt_lit _ _ _).1 h1
        cases l with
        | nil => simp at he
        | cons d' t' =>
          cases k with
          | zero => simp at he
          | succ k =>
            simp only [List.take_succ_cons, List.cons.injEq] at he
            obtain ⟨rfl, rfl⟩ := he
            exact ⟨_, rfl, (ih _).2 ⟨k, by simpa using hk, h3, h2⟩⟩

end Go.Proofs.YtmlaedhmgkcdpaaDoor
