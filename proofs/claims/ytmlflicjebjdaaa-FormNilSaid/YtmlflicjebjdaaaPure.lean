/-
  The document's encoding of an unsigned integer, as a function on numbers, and plain facts of it. No program.
-/
import Derived.Lib.BitFns
import Derived.WalkKit
import Derived.Test.YtmlflicjebjdaaaBase
namespace Go.Proofs.Ytmlflicjebjdaaa
open Go.RowKit

/-- The k bytes of n, the most significant first. -/
def be : Nat → Nat → List UInt8
  | 0, _ => []
  | k + 1, n => UInt8.ofNat (n / 256 ^ k) :: be k n

/-- How many bytes hold n. -/
def nb (n : Nat) : Nat := (Lib.bitLen n + 7) / 8

/-- The encoding of n. -/
def enc (n : Nat) : List UInt8 := if n < 248 then [UInt8.ofNat n] else UInt8.ofNat (247 + nb n) :: be (nb n) n

theorem be_length : ∀ k n, (be k n).length = k
  | 0, _ => rfl
  | k + 1, n => by simp [be, be_length k n]

theorem be_take_snoc : ∀ (k j n : Nat), j < k → (be k n).take (k - j) = (be k n).take (k - (j + 1)) ++ [UInt8.ofNat (n / 256 ^ j)]
  | 0, j, n, h => by omega
  | k + 1, j, n, h => by
    by_cases hj : j = k
    · subst hj
      simp [be, show j + 1 - j = 1 from by omega]
    · rw [show k + 1 - j = (k - j) + 1 from by omega, show k + 1 - (j + 1) = (k - (j + 1)) + 1 from by omega]
      simp only [be, List.take_succ_cons, List.cons_append]
      rw [be_take_snoc k j n (by omega)]

theorem bitLen_le (n : Nat) : Lib.bitLen n ≤ 64 := by
  unfold Lib.bitLen
  generalize 64 = f
  induction f generalizing n with
  | zero => simp [Lib.bitLenAux]
  | succ f ih =>
    simp only [Lib.bitLenAux]
    have := ih (n / 2)
    split <;> omega

theorem nb_le (n : Nat) : nb n ≤ 8 := by have := bitLen_le n; unfold nb; omega

theorem enc_length (n : Nat) : (enc n).length ≤ 9 := by
  have := nb_le n
  unfold enc
  split <;> simp [be_length]
  omega

theorem bitLen_lt (n : Nat) (h : n < 2 ^ 64) : n < 2 ^ Lib.bitLen n := by
  have key : ∀ f n, n < 2 ^ f → n < 2 ^ Lib.bitLenAux f n := by
    intro f
    induction f with
    | zero => intro n h; simpa [Lib.bitLenAux] using h
    | succ f ih =>
      intro n h
      simp only [Lib.bitLenAux]
      split
      · subst_vars; simp
      · have := ih (n / 2) (by rw [Nat.pow_succ] at h; omega)
        rw [Nat.add_comm, Nat.pow_succ]
        omega
  exact key 64 n h

theorem bitLen_ge (n : Nat) (h0 : n ≠ 0) : 2 ^ (Lib.bitLen n - 1) ≤ n := by
  have key : ∀ f n, n ≠ 0 → 2 ^ (Lib.bitLenAux f n - 1) ≤ n := by
    intro f
    induction f with
    | zero => intro n h; simp [Lib.bitLenAux]; omega
    | succ f ih =>
      intro n h
      simp only [Lib.bitLenAux, if_neg h]
      by_cases h2 : n / 2 = 0
      · have : Lib.bitLenAux f (n / 2) = 0 := by rw [h2]; cases f <;> simp [Lib.bitLenAux]
        rw [this]; simp; omega
      · have := ih (n / 2) h2
        by_cases hz : Lib.bitLenAux f (n / 2) = 0
        · rw [hz]; simp; omega
        · rw [show 1 + Lib.bitLenAux f (n / 2) - 1 = (Lib.bitLenAux f (n / 2) - 1) + 1 from by omega, Nat.pow_succ]
          omega
  exact key 64 n h0

end Go.Proofs.Ytmlflicjebjdaaa
