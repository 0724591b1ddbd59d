/-
  What is taken from bytes, by the program's reader and by the document's own.
-/
import Derived.Test.YtmlflicjebjdaaaRefText
import Derived.Test.YtmlflicjebjdaaaFormBack
namespace Go.Proofs.Ytmlflicjebjdaaa
open Go.RowKit Go.BigFrame

/-- A number taken, what is left, and whether the reader is bad then. -/
def tn (l : List UInt8) (bad : Bool) : Nat × List UInt8 × Bool := if bad = true ∨ (front l).2 = 0 then (0, [], true) else ((front l).1, l.drop (front l).2, false)
/-- A text taken. -/
def tt (l : List UInt8) (bad : Bool) : List UInt8 × List UInt8 × Bool :=
  if bad = true ∨ (front l).2 = 0 then ([], [], true)
  else if 1024 < (front l).1 ∨ (l.drop (front l).2).length < (front l).1 then ([], [], true)
  else ((l.drop (front l).2).take (front l).1, (l.drop (front l).2).drop (front l).1, false)

theorem tn_bad (l : List UInt8) (bad : Bool) (h : (tn l bad).2.2 = true) : (tn l bad).2.1 = [] := by
  unfold tn at h ⊢
  split
  · rfl
  · rename_i hn; rw [if_neg hn] at h; cases h
theorem tt_bad (l : List UInt8) (bad : Bool) (h : (tt l bad).2.2 = true) : (tt l bad).2.1 = [] := by
  unfold tt at h ⊢
  split
  · rfl
  · rename_i hn
    rw [if_neg hn] at h
    split
    · rfl
    · rename_i hm; rw [if_neg hm] at h; cases h

theorem RNum_all (B b : Nat) (l : List UInt8) (bad : Bool) (hbl : bad = true → l = []) (w : World) (h : Rdr B w b l bad) :
    Calls Try.prog 18 #[.pointer (some ⟨b, 0, none⟩)] w fun e w' => e = .returned (.int .u64 (tn l bad).1) ∧ Rdr B w' b (tn l bad).2.1 (tn l bad).2.2 ∧ Only b w w' := by
  cases bad with
  | true =>
    rw [hbl rfl] at h ⊢
    refine (RNum_bad B b [] w h).mono ?_
    rintro e w' ⟨rfl, rfl⟩
    exact ⟨rfl, h, Only.refl _ _⟩
  | false =>
    by_cases h0 : (front l).2 = 0
    · have e : tn l false = (0, [], true) := if_pos (.inr h0)
      rw [e]
      exact RNum_no B b l w h h0
    · have e : tn l false = ((front l).1, l.drop (front l).2, false) := if_neg (by simp [h0])
      rw [e]
      exact RNum_yes B b l _ _ w h rfl h0
theorem refRNum_all (B b : Nat) (l : List UInt8) (bad : Bool) (hbl : bad = true → l = []) (w : World) (h : RRef B w b l bad) :
    Calls Try.prog 19 #[.pointer (some ⟨b, 0, none⟩)] w fun e w' => e = .returned (.int .u64 (tn l bad).1) ∧ RRef B w' b (tn l bad).2.1 (tn l bad).2.2 ∧ Only b w w' := by
  cases bad with
  | true =>
    rw [hbl rfl] at h ⊢
    exact refRNum_no B b [] true w h rfl
  | false =>
    by_cases h0 : (front l).2 = 0
    · have e : tn l false = (0, [], true) := if_pos (.inr h0)
      rw [e]
      exact refRNum_no B b l false w h h0
    · have e : tn l false = ((front l).1, l.drop (front l).2, false) := if_neg (by simp [h0])
      rw [e]
      exact refRNum_yes B b l false _ _ w h rfl h0

theorem RInt_all (B b : Nat) (l : List UInt8) (bad : Bool) (hbl : bad = true → l = []) (w : World) (h : Rdr B w b l bad) :
    Calls Try.prog 20 #[.pointer (some ⟨b, 0, none⟩)] w fun e w' => e = .returned (.int .i64 (zag (tn l bad).1)) ∧ Rdr B w' b (tn l bad).2.1 (tn l bad).2.2 ∧ Only b w w' := by
  cases bad with
  | true =>
    rw [hbl rfl] at h ⊢
    refine (RInt_bad B b [] w h).mono ?_
    rintro e w' ⟨rfl, rfl⟩
    exact ⟨rfl, h, Only.refl _ _⟩
  | false =>
    by_cases h0 : (front l).2 = 0
    · have e : tn l false = (0, [], true) := if_pos (.inr h0)
      rw [e]
      exact RInt_no B b l w h h0
    · have e : tn l false = ((front l).1, l.drop (front l).2, false) := if_neg (by simp [h0])
      rw [e]
      exact RInt_yes B b l _ _ w h rfl h0
theorem refRInt_all (B b : Nat) (l : List UInt8) (bad : Bool) (hbl : bad = true → l = []) (w : World) (h : RRef B w b l bad) :
    Calls Try.prog 21 #[.pointer (some ⟨b, 0, none⟩)] w fun e w' => e = .returned (.int .i64 (zag (tn l bad).1)) ∧ RRef B w' b (tn l bad).2.1 (tn l bad).2.2 ∧ Only b w w' := by
  cases bad with
  | true =>
    rw [hbl rfl] at h ⊢
    exact refRInt_no B b [] true w h rfl
  | false =>
    by_cases h0 : (front l).2 = 0
    · have e : tn l false = (0, [], true) := if_pos (.inr h0)
      rw [e]
      exact refRInt_no B b l false w h h0
    · have e : tn l false = ((front l).1, l.drop (front l).2, false) := if_neg (by simp [h0])
      rw [e]
      exact refRInt_yes B b l false _ _ w h rfl h0

theorem RText_all (B b : Nat) (l : List UInt8) (bad : Bool) (hbl : bad = true → l = []) (w : World) (h : Rdr B w b l bad) :
    Calls Try.prog 22 #[.pointer (some ⟨b, 0, none⟩)] w fun e w' => e = .returned (.string ⟨(tt l bad).1.toArray⟩) ∧ Rdr B w' b (tt l bad).2.1 (tt l bad).2.2 ∧ Only b w w' := by
  cases bad with
  | true =>
    rw [hbl rfl] at h ⊢
    refine (RText_bad B b [] w h).mono ?_
    rintro e w' ⟨rfl, rfl⟩
    exact ⟨rfl, h, Only.refl _ _⟩
  | false =>
    by_cases h0 : (front l).2 = 0
    · have e : tt l false = ([], [], true) := if_pos (.inr h0)
      rw [e]
      exact RText_no B b l w h h0
    · by_cases h1 : 1024 < (front l).1 ∨ (l.drop (front l).2).length < (front l).1
      · have e : tt l false = ([], [], true) := by unfold tt; rw [if_neg (by simp [h0]), if_pos h1]
        rw [e]
        exact RText_long B b l _ _ _ w h rfl h0 rfl h1
      · have e : tt l false = ((l.drop (front l).2).take (front l).1, (l.drop (front l).2).drop (front l).1, false) := by unfold tt; rw [if_neg (by simp [h0]), if_neg h1]
        rw [e]
        exact RText_yes B b l _ _ _ w h rfl h0 rfl (by omega) (by omega)
theorem refRText_all (B b : Nat) (l : List UInt8) (bad : Bool) (hbl : bad = true → l = []) (w : World) (h : RRef B w b l bad) :
    Calls Try.prog 23 #[.pointer (some ⟨b, 0, none⟩)] w fun e w' => e = .returned (.string ⟨(tt l bad).1.toArray⟩) ∧ RRef B w' b (tt l bad).2.1 (tt l bad).2.2 ∧ Only b w w' := by
  cases bad with
  | true =>
    rw [hbl rfl] at h ⊢
    exact refRText_no B b [] true w h rfl
  | false =>
    by_cases h0 : (front l).2 = 0
    · have e : tt l false = ([], [], true) := if_pos (.inr h0)
      rw [e]
      exact refRText_no B b l false w h h0
    · by_cases h1 : 1024 < (front l).1 ∨ (l.drop (front l).2).length < (front l).1
      · have e : tt l false = ([], [], true) := by unfold tt; rw [if_neg (by simp [h0]), if_pos h1]
        rw [e]
        exact refRText_long B b l _ false _ _ w h rfl h0 rfl h1
      · have e : tt l false = ((l.drop (front l).2).take (front l).1, (l.drop (front l).2).drop (front l).1, false) := by unfold tt; rw [if_neg (by simp [h0]), if_neg h1]
        rw [e]
        exact refRText_yes B b l _ false _ _ w h rfl h0 rfl (by omega) (by omega)

theorem Left_all (B b : Nat) (l : List UInt8) (bad : Bool) (hbl : bad = true → l = []) (w : World) (h : Rdr B w b l bad) :
    Calls Try.prog 25 #[.pointer (some ⟨b, 0, none⟩)] w fun e w' => e = .returned (.int .i64 l.length) ∧ w = w' := by
  cases bad with
  | true => rw [hbl rfl] at h ⊢; exact Left_bad B b [] w h
  | false => exact Left_any B b l w h
theorem End_all (B b : Nat) (l : List UInt8) (bad : Bool) (w : World) (h : Rdr B w b l bad) :
    Calls Try.prog 26 #[.pointer (some ⟨b, 0, none⟩)] w fun e w' => e = .returned (.int .i64 (if bad = false ∧ l.length = 0 then 0 else 6)) ∧ w = w' := by
  cases bad with
  | true => exact End_bad B b l w h
  | false =>
    refine (End_any B b l w h).mono fun e w' hh => ⟨hh.1.trans ?_, hh.2⟩
    by_cases hl : l.length = 0
    · rw [if_pos hl, if_pos ⟨rfl, hl⟩]
    · rw [if_neg hl, if_neg (fun h => hl h.2)]

/-- Two readers of the same bytes, each in its own memory. -/
def Both (B : Nat) (w : World) (b c : Nat) (l : List UInt8) (bad : Bool) : Prop := b ≠ c ∧ B ≤ b ∧ B ≤ c ∧ (bad = true → l = []) ∧ Rdr B w b l bad ∧ RRef B w c l bad

theorem Rdr.beside {T T' : TypeId} {B b c : Nat} {w w' : World} {l m : List UInt8} {bad bad' : Bool} (h : RdrT T B w b l bad) (k : RdrT T' B w c m bad') (hne : b ≠ c) (ho : Only b w w') : RdrT T' B w' c m bad' := by
  obtain ⟨v, h1, h2, h3⟩ := h
  obtain ⟨u, k1, k2, k3⟩ := k
  obtain ⟨x, cap, rfl, _, _⟩ := h2.shape
  exact ⟨u, (ho.block c (Array.getElem?_eq_some_iff.1 k1).1 (by simp; omega)).trans k1, Rd.apart h1 (by simp) k2 ho, k3⟩

theorem Rd.setBelow {B g i : Nat} {w : World} {v u : Value} {l : List UInt8} (hr : Rd w v l) (hB : ∀ k, v.ownBlock = some k → B ≤ k) (hg : g < B) : Rd (w.setCell ⟨g, i, none⟩ u) v l := by
  rcases hr with ⟨rfl, h1⟩ | ⟨x, cap, rfl, h2, h3, h4⟩
  · exact .inl ⟨rfl, h1⟩
  · have hx : B ≤ x.block := hB _ rfl
    refine .inr ⟨x, cap, rfl, h2, h3, fun k y hk => ?_⟩
    rw [World.cell?_of_block (w := w) (Below.heap_setCell _ _ _ _ (by rw [add_block]; show x.block ≠ g; omega))]
    exact h4 k y hk
theorem Rdr.setBelow {T : TypeId} {B b g i : Nat} {w : World} {u : Value} {l : List UInt8} {bad : Bool} (h : RdrT T B w b l bad) (hb : B ≤ b) (hg : g < B) : RdrT T B (w.setCell ⟨g, i, none⟩ u) b l bad := by
  obtain ⟨v, h1, h2, h3⟩ := h
  exact ⟨v, (Below.heap_setCell _ _ _ _ (by show b ≠ g; omega)).trans h1, h2.setBelow h3 hg, h3⟩
theorem Both.setBelow {B b c g i : Nat} {w : World} {u : Value} {l : List UInt8} {bad : Bool} (h : Both B w b c l bad) (hg : g < B) : Both B (w.setCell ⟨g, i, none⟩ u) b c l bad :=
  ⟨h.1, h.2.1, h.2.2.1, h.2.2.2.1, Rdr.setBelow h.2.2.2.2.1 h.2.1 hg, Rdr.setBelow h.2.2.2.2.2 h.2.2.1 hg⟩

/-- Each reader has taken the same. -/
theorem Both.step {B b c : Nat} {w w1 w2 : World} {l l' : List UInt8} {bad bad' : Bool} (h : Both B w b c l bad) (hbl : bad' = true → l' = []) (h1 : Rdr B w1 b l' bad') (o1 : Only b w w1) (h2 : RRef B w2 c l' bad') (o2 : Only c w1 w2) : Both B w2 b c l' bad' := by
  have k1 : RRef B w1 c l bad := Rdr.beside h.2.2.2.2.1 h.2.2.2.2.2 h.1 o1
  exact ⟨h.1, h.2.1, h.2.2.1, hbl, Rdr.beside k1 h1 (fun e => h.1 e.symm) o2, h2⟩
theorem Both.other {B b c : Nat} {w w1 : World} {l : List UInt8} {bad : Bool} (h : Both B w b c l bad) (o1 : Only b w w1) : RRef B w1 c l bad := Rdr.beside h.2.2.2.2.1 h.2.2.2.2.2 h.1 o1
theorem Both.below {A B b c : Nat} {w w0 w1 w2 : World} {l : List UInt8} {bad : Bool} (h : Both B w b c l bad) (hA : A ≤ B) (hA2 : A ≤ w0.heap.size) (hb : Below A w0 w) (o1 : Only b w w1) (o2 : Only c w1 w2) : Below A w0 w2 := by
  have s0 := hb.size
  have s1 := o1.size
  exact (hb.trans (o1.below (by have := h.2.1; omega) (by omega))).trans (o2.below (by have := h.2.2.1; omega) (by omega))

end Go.Proofs.Ytmlflicjebjdaaa
