/-
  Values, their order, truths: over numbers and lists of bytes. No program.
-/
import Derived.WalkKit
import Derived.Sort.Walk0
namespace Go.Proofs.Ytlbilmmjcfiokaa
open Go.RowKit

/-- A value. -/
structure V where
  k : Int
  n : Int
  s : List UInt8
deriving DecidableEq

def V.zero : V := ⟨0, 0, []⟩
/-- As a value of the model. -/
def V.val (v : V) : Value := .agg #[.int .u8 v.k, .int .i64 v.n, .string ⟨v.s.toArray⟩]
def V.cells (v : V) : List Value := [.int .u8 v.k, .int .i64 v.n, .string ⟨v.s.toArray⟩]
/-- What may come in. -/
structure V.fits (v : V) : Prop where
  k0 : 0 ≤ v.k
  k1 : v.k ≤ 255
  lo : -9223372036854775808 ≤ v.n
  hi : v.n ≤ 9223372036854775807

/-- Which values may be. -/
def rightV (v : V) : Bool :=
  (decide (v.k = 0) && decide (v.n = 0) && decide (v.s = [])) || (decide (v.k = 1) && (decide (v.n = 0) || decide (v.n = 1)) && decide (v.s = [])) ||
  (decide (v.k = 2) && decide (v.s = [])) || (decide (v.k = 3) && decide (v.n = 0) && decide (v.s.length ≤ 1024))

theorem rightV_iff (v : V) : rightV v = true ↔ (v.k = 0 ∧ v.n = 0 ∧ v.s = []) ∨ (v.k = 1 ∧ (v.n = 0 ∨ v.n = 1) ∧ v.s = []) ∨ (v.k = 2 ∧ v.s = []) ∨ (v.k = 3 ∧ v.n = 0 ∧ v.s.length ≤ 1024) := by
  unfold rightV
  simp only [Bool.or_eq_true, Bool.and_eq_true, decide_eq_true_eq, and_assoc, or_assoc]

def cmpN (a b : Int) : Int := if a = b then 0 else if a < b then -1 else 1
def cmpB (a b : List UInt8) : Int := if a = b then 0 else if Op.bytesLess a b = true then -1 else 1
/-- How two values stand. -/
def cmpV (a b : V) : Int := if a.k = b.k then (if a.n = b.n then cmpB a.s b.s else cmpN a.n b.n) else cmpN a.k b.k

theorem cmpN_zero {a b : Int} : cmpN a b = 0 ↔ a = b := by unfold cmpN; split <;> (try split) <;> omega
theorem cmpN_neg (a b : Int) : cmpN b a = -cmpN a b := by unfold cmpN; repeat' split <;> try omega
theorem cmpN_three (a b : Int) : cmpN a b = -1 ∨ cmpN a b = 0 ∨ cmpN a b = 1 := by
  unfold cmpN
  split
  · exact .inr (.inl rfl)
  · split
    · exact .inl rfl
    · exact .inr (.inr rfl)
theorem cmpN_lt {a b : Int} : cmpN a b = -1 ↔ a < b := by
  unfold cmpN
  by_cases h : a = b
  · subst h; simp
  · rw [if_neg h]
    by_cases h2 : a < b
    · simp [h2]
    · simp [h2]

theorem less_iff (a b : List UInt8) : Op.bytesLess a b = true ↔ a < b := by rw [bytesLess_eq]; simp
theorem less_asymm {a b : List UInt8} (h : a < b) : ¬ b < a := List.not_lt.2 (List.le_of_lt h)

theorem cmpB_zero {a b : List UInt8} : cmpB a b = 0 ↔ a = b := by
  unfold cmpB
  by_cases h : a = b
  · simp [h]
  · rw [if_neg h]
    split <;> simp [h]
theorem cmpB_three (a b : List UInt8) : cmpB a b = -1 ∨ cmpB a b = 0 ∨ cmpB a b = 1 := by
  unfold cmpB
  split
  · exact .inr (.inl rfl)
  · split
    · exact .inl rfl
    · exact .inr (.inr rfl)
theorem cmpB_lt {a b : List UInt8} : cmpB a b = -1 ↔ a < b := by
  unfold cmpB
  by_cases h : a = b
  · subst h
    simp
  · rw [if_neg h]
    by_cases hl : Op.bytesLess a b = true
    · rw [if_pos hl]
      simp [(less_iff a b).1 hl]
    · rw [if_neg hl]
      simp only [less_iff] at hl
      simp [hl]
theorem less_total (a b : List UInt8) (h : a ≠ b) : a < b ∨ b < a := by
  rcases Classical.em (a < b) with h1 | h1
  · exact .inl h1
  · right
    rcases Classical.em (b < a) with h2 | h2
    · exact h2
    · exact absurd (List.le_antisymm (List.not_lt.1 h2) (List.not_lt.1 h1)) h
theorem cmpB_neg (a b : List UInt8) : cmpB b a = -cmpB a b := by
  by_cases h : a = b
  · subst h
    have := (cmpB_zero (a := a) (b := a)).2 rfl
    omega
  · rcases less_total a b h with hl | hl
    · have h1 := cmpB_lt.2 hl
      have h2 : cmpB b a ≠ -1 := fun e => less_asymm hl (cmpB_lt.1 e)
      have h3 : cmpB b a ≠ 0 := fun e => h (cmpB_zero.1 e).symm
      have := cmpB_three b a
      omega
    · have h1 := cmpB_lt.2 hl
      have h2 : cmpB a b ≠ -1 := fun e => less_asymm hl (cmpB_lt.1 e)
      have h3 : cmpB a b ≠ 0 := fun e => h (cmpB_zero.1 e)
      have := cmpB_three a b
      omega

theorem cmpV_zero {a b : V} : cmpV a b = 0 ↔ a = b := by
  obtain ⟨k, n, s⟩ := a
  obtain ⟨k', n', s'⟩ := b
  unfold cmpV
  simp only [V.mk.injEq]
  by_cases hk : k = k'
  · rw [if_pos hk]
    by_cases hn : n = n'
    · rw [if_pos hn, cmpB_zero]
      simp [hk, hn]
    · rw [if_neg hn, cmpN_zero]
      simp [hn]
  · rw [if_neg hk, cmpN_zero]
    simp [hk]
theorem cmpV_three (a b : V) : cmpV a b = -1 ∨ cmpV a b = 0 ∨ cmpV a b = 1 := by
  unfold cmpV
  split
  · split
    · exact cmpB_three _ _
    · exact cmpN_three _ _
  · exact cmpN_three _ _
theorem cmpV_neg (a b : V) : cmpV b a = -cmpV a b := by
  unfold cmpV
  by_cases hk : a.k = b.k
  · rw [if_pos hk, if_pos hk.symm]
    by_cases hn : a.n = b.n
    · rw [if_pos hn, if_pos hn.symm, cmpB_neg]
    · rw [if_neg hn, if_neg (Ne.symm hn), cmpN_neg]
  · rw [if_neg hk, if_neg (Ne.symm hk), cmpN_neg]
theorem cmpV_trans {a b c : V} (h1 : cmpV a b = -1) (h2 : cmpV b c = -1) : cmpV a c = -1 := by
  unfold cmpV at *
  by_cases hk : a.k = b.k
  · by_cases hk2 : b.k = c.k
    · rw [if_pos hk] at h1
      rw [if_pos hk2] at h2
      rw [if_pos (hk.trans hk2)]
      by_cases hn : a.n = b.n
      · by_cases hn2 : b.n = c.n
        · rw [if_pos hn] at h1
          rw [if_pos hn2] at h2
          rw [if_pos (hn.trans hn2)]
          exact cmpB_lt.2 (List.lt_trans (cmpB_lt.1 h1) (cmpB_lt.1 h2))
        · rw [if_neg hn2] at h2
          rw [if_neg (by rw [hn]; exact hn2), hn]
          exact h2
      · rw [if_neg hn] at h1
        have l1 := cmpN_lt.1 h1
        by_cases hn2 : b.n = c.n
        · rw [if_neg (by rw [← hn2]; exact hn), ← hn2]
          exact h1
        · rw [if_neg hn2] at h2
          have l2 := cmpN_lt.1 h2
          rw [if_neg (by omega)]
          exact cmpN_lt.2 (by omega)
    · rw [if_neg hk2] at h2
      rw [if_neg (by rw [hk]; exact hk2), hk]
      exact h2
  · rw [if_neg hk] at h1
    have l1 := cmpN_lt.1 h1
    by_cases hk2 : b.k = c.k
    · rw [if_neg (by rw [← hk2]; exact hk), ← hk2]
      exact h1
    · rw [if_neg hk2] at h2
      have l2 := cmpN_lt.1 h2
      rw [if_neg (by omega)]
      exact cmpN_lt.2 (by omega)

/-- The law of the order, of any three. -/
theorem cmpV_law (a b c : V) : (0 < cmpV a b ∨ 0 < cmpV b c) ∨ (cmpV a c ≤ 0 ∧ ((cmpV a b = 0 ∧ cmpV b c = 0) ∨ cmpV a c < 0)) := by
  rcases cmpV_three a b with h | h | h
  · rcases cmpV_three b c with h2 | h2 | h2
    · have := cmpV_trans h h2
      omega
    · have e := cmpV_zero.1 h2
      subst e
      omega
    · omega
  · have e := cmpV_zero.1 h
    subst e
    have := cmpV_three a c
    omega
  · omega

/-! ### Truths -/

def tr (a : Int) : Int := if 2 < a then 1 else a
theorem tr_three {a : Int} (h : 0 ≤ a) : tr a = 0 ∨ tr a = 1 ∨ tr a = 2 := by unfold tr; split <;> omega
def andT (a b : Int) : Int := min (tr a) (tr b)
def orT (a b : Int) : Int := max (tr a) (tr b)
def notT (a : Int) : Int := 2 - tr a

/-- What is known of two values. -/
def knownT (a b : V) (is : Bool) : Int := if a.k = 0 ∨ b.k = 0 then 1 else if is = true then 2 else 0
def equalT (a b : V) : Int := knownT a b (decide (cmpV a b = 0))
def lessT (a b : V) : Int := knownT a b (decide (cmpV a b < 0))

/-! ### Rows of values in memory -/

/-- A slice reads as these values. -/
def RdVals (w : World) (u : Value) (vs : List V) : Prop :=
  ∃ ao cap, u = .slice ao vs.length cap ∧ vs.length ≤ cap ∧ cap ≤ maxLen ∧ ∀ j, (hj : j < vs.length) → ∃ g off, ao = some ⟨g, off, none⟩ ∧ ∀ i y, (vs[j].cells)[i]? = some y → w.cell? ⟨g, off + j * 3 + i, none⟩ = some y

/-- A slice reads as these rows of values. -/
def RdRows (w : World) (u : Value) (rs : List (List V)) : Prop :=
  ∃ ao cap, u = .slice ao rs.length cap ∧ rs.length ≤ cap ∧ cap ≤ maxLen ∧ ∀ j, (hj : j < rs.length) → ∃ x v, ao = some x ∧ RdVals w v rs[j] ∧ w.cell? (x.add j) = some v

theorem RdVals.mono {w w' : World} {u : Value} {vs : List V} (h : RdVals w u vs) (hb : Below w.heap.size w w') : RdVals w' u vs := by
  obtain ⟨ao, cap, h1, h2, h3, h4⟩ := h
  refine ⟨ao, cap, h1, h2, h3, fun j hj => ?_⟩
  obtain ⟨g, off, h5, h6⟩ := h4 j hj
  exact ⟨g, off, h5, fun i y hy => (hb.cell (World.block_lt_of_cell? w _ (h6 i y hy))).trans (h6 i y hy)⟩
theorem RdRows.mono {w w' : World} {u : Value} {rs : List (List V)} (h : RdRows w u rs) (hb : Below w.heap.size w w') : RdRows w' u rs := by
  obtain ⟨ao, cap, h1, h2, h3, h4⟩ := h
  refine ⟨ao, cap, h1, h2, h3, fun j hj => ?_⟩
  obtain ⟨x, v, h5, h6, h7⟩ := h4 j hj
  exact ⟨x, v, h5, h6.mono hb, (hb.cell (World.block_lt_of_cell? w _ h7)).trans h7⟩
theorem RdVals.nil (w : World) : RdVals w (.slice none 0 0) [] := ⟨none, 0, rfl, Nat.le_refl _, by simp [maxLen], fun j hj => by simp at hj⟩
theorem RdRows.nil (w : World) : RdRows w (.slice none 0 0) [] := ⟨none, 0, rfl, Nat.le_refl _, by simp [maxLen], fun j hj => by simp at hj⟩
theorem RdVals.shape {w : World} {u : Value} {vs : List V} (h : RdVals w u vs) : ∃ a cap, u = .slice a vs.length cap ∧ vs.length ≤ cap ∧ cap ≤ maxLen := by
  obtain ⟨a, cap, h1, h2, h3, _⟩ := h
  exact ⟨a, cap, h1, h2, h3⟩
theorem RdRows.shape {w : World} {u : Value} {rs : List (List V)} (h : RdRows w u rs) : ∃ a cap, u = .slice a rs.length cap ∧ rs.length ≤ cap ∧ cap ≤ maxLen := by
  obtain ⟨a, cap, h1, h2, h3, _⟩ := h
  exact ⟨a, cap, h1, h2, h3⟩

/-- What a row counts for. -/
def rowCost (vs : List V) : Int := 8 + ((vs.map fun v => 8 + v.s.length).sum : Nat)
def rowsCost (rs : List (List V)) : Int := (rs.map rowCost).sum

end Go.Proofs.Ytlbilmmjcfiokaa
