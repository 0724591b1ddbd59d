/-
  Bits within 32 that are turned, and what the sum is then. No program.
-/
import Derived.Test.YthelgjoobckbaaaSum
namespace Go.Proofs.Ythelgjoobckbaaa

/-- The bits that are turned. -/
def turns (n a : Nat) (which : Nat) : List Bool := List.replicate a false ++ ((List.range (min 32 (n - a))).map (fun i => which.testBit i) ++ List.replicate (n - a - min 32 (n - a)) false)
theorem turns_length (n a which : Nat) (h : a ≤ n) : (turns n a which).length = n := by
  unfold turns
  rw [List.length_append, List.length_append, List.length_replicate, List.length_replicate, List.length_map, List.length_range]
  omega
theorem turns_get (n a which k : Nat) (h : a ≤ n) (hk : k < n) : (turns n a which)[k]? = some (decide (a ≤ k ∧ k < a + 32) && which.testBit (k - a)) := by
  unfold turns
  by_cases h1 : k < a
  · rw [List.getElem?_append_left (by rw [List.length_replicate]; exact h1), List.getElem?_replicate, if_pos h1, decide_eq_false (by omega)]
    rfl
  · rw [List.getElem?_append_right (by rw [List.length_replicate]; omega), List.length_replicate]
    by_cases h2 : k < a + 32
    · rw [List.getElem?_append_left (by rw [List.length_map, List.length_range]; omega), List.getElem?_map, List.getElem?_range (by omega), decide_eq_true (by omega)]
      rfl
    · rw [List.getElem?_append_right (by rw [List.length_map, List.length_range]; omega), List.length_map, List.length_range, List.getElem?_replicate, if_pos (by omega), decide_eq_false (by omega)]
      rfl

/-- Bytes whose bits are others just where they are turned come to 0 only where none is turned. -/
theorem burst_sum (x y : List UInt8) (a which : Nat) (hl : y.length = x.length) (ha : a ≤ 8 * x.length)
    (hb : ∀ k, k < 8 * x.length → (bitsOf y)[k]? = (bitsOf x)[k]?.map fun b => b ^^ (decide (a ≤ k ∧ k < a + 32) && which.testBit (k - a))) (h0 : sumOf x = 0#32) :
    sumOf y = 0#32 ↔ ∀ i, i < 32 → a + i < 8 * x.length → which.testBit i = false := by
  have hx := bitsOf_length x
  have hy := bitsOf_length y
  have ht := turns_length (8 * x.length) a which ha
  have e : bitsOf y = List.zipWith (· ^^ ·) (bitsOf x) (turns (8 * x.length) a which) := by
    refine List.ext_getElem? fun k => ?_
    by_cases hk : k < 8 * x.length
    · rw [hb k hk, List.getElem?_zipWith, turns_get _ _ _ _ ha hk, List.getElem?_eq_getElem (by omega)]
      rfl
    · rw [List.getElem?_eq_none (by omega), List.getElem?_eq_none (by rw [List.length_zipWith]; omega)]
  have h1 : sumOf y = feed 0#32 (turns (8 * x.length) a which) := by
    unfold sumOf more at h0 ⊢
    have := feed_xor (bitsOf x) (turns (8 * x.length) a which) 0xFFFFFFFF#32 0#32 (by omega)
    rw [← e, h0, BitVec.xor_zero, BitVec.zero_xor] at this
    exact this
  rw [h1]
  unfold turns
  rw [feed_burst _ _ _ (by rw [List.length_map, List.length_range]; omega)]
  constructor
  · intro hh i hi hai
    exact hh _ (List.mem_map.2 ⟨i, List.mem_range.2 (by omega), rfl⟩)
  · intro hh b hbm
    obtain ⟨i, hi, rfl⟩ := List.mem_map.1 hbm
    have := List.mem_range.1 hi
    exact hh i (by omega) (by omega)

/-- One bit is turned. -/
theorem turn_bit (l : List UInt8) (k : Nat) (c : UInt8) (hc : l[k / 8]? = some c) (j : Nat) :
    (bitsOf (l.set (k / 8) (c ^^^ UInt8.ofNat (2 ^ (7 - k % 8)))))[j]? = (bitsOf l)[j]?.map fun b => b ^^ decide (j = k) := by
  have hk : k / 8 < l.length := (List.getElem?_eq_some_iff.1 hc).1
  have hp : (UInt8.ofNat (2 ^ (7 - k % 8))).toNat = 2 ^ (7 - k % 8) := by
    rw [UInt8.toNat_ofNat']
    exact Nat.mod_eq_of_lt (Nat.pow_lt_pow_right (by decide) (by omega))
  rw [bitsOf_get, bitsOf_get]
  by_cases h : j / 8 = k / 8
  · rw [h, List.getElem?_set_self hk, hc]
    simp only [Option.map_some, Option.some.injEq]
    rw [UInt8.toNat_xor, hp, Nat.testBit_xor, Nat.testBit_two_pow]
    congr 1
    exact decide_eq_decide.2 (by omega)
  · rw [List.getElem?_set_ne (fun e => h e.symm), decide_eq_false (by omega)]
    simp
    rfl

end Go.Proofs.Ythelgjoobckbaaa
