/-
  A sum behind a byte by a table: plain facts. No program.
-/
import Derived.Test.YthelgjoobckbaaaSum
namespace Go.Proofs.Ythelgjoobckbaaa

/-- The sum of one byte from 0, as a number. -/
def tab (k : Nat) : Nat := (feed 0#32 (bits8 (UInt8.ofNat k))).toNat

theorem tab_lt (k : Nat) : tab k < 4294967296 := (feed 0#32 (bits8 (UInt8.ofNat k))).isLt
theorem tab_zero : tab 0 = 0 := by decide +kernel
theorem tab_all : ∀ k < 128, tab (2 * k) = stN (tab k) 0 ∧ tab (2 * k + 1) = tab (2 * k) ^^^ 2168537515 := by decide +kernel
theorem top_all : ∀ n < 256, feed (BitVec.ofNat 32 (n * 16777216)) (bits8 (UInt8.ofNat n)) = 0#32 := by decide +kernel

theorem stp_low (s : BitVec 32) (h : s.toNat < 2147483648) : stp s false = BitVec.ofNat 32 (s.toNat * 2) := by
  apply BitVec.eq_of_toNat_eq
  rw [← stN_eq, BitVec.toNat_ofNat]
  unfold stN
  rw [if_pos (by rw [Nat.div_eq_of_lt h]; rfl)]
theorem feed_low (n : Nat) (k : Nat) (h : n * 2 ^ k < 4294967296) : feed (BitVec.ofNat 32 n) (List.replicate k false) = BitVec.ofNat 32 (n * 2 ^ k) := by
  induction k generalizing n with
  | zero => rw [Nat.pow_zero, Nat.mul_one]; rfl
  | succ k ih =>
    have h2 : n * 2 * 2 ^ k = n * 2 ^ (k + 1) := by rw [Nat.pow_succ, Nat.mul_assoc, Nat.mul_comm 2]
    have h3 : n * 2 ≤ n * 2 * 2 ^ k := Nat.le_mul_of_pos_right _ (Nat.two_pow_pos k)
    have hn : (BitVec.ofNat 32 n).toNat = n := by rw [BitVec.toNat_ofNat]; exact Nat.mod_eq_of_lt (by omega)
    rw [List.replicate_succ, feed_cons, stp_low _ (by rw [hn]; omega), hn, ih _ (by omega), h2]

theorem split_xor (n : Nat) : (n % 16777216) ^^^ (n / 16777216 * 16777216) = n := by
  refine Nat.eq_of_testBit_eq fun i => ?_
  rw [Nat.testBit_xor, show (16777216 : Nat) = 2 ^ 24 by rfl, Nat.testBit_mod_two_pow, Nat.mul_comm, Nat.testBit_two_pow_mul, Nat.testBit_div_two_pow]
  by_cases h : i < 24
  · rw [decide_eq_true h, decide_eq_false (by omega)]; simp
  · rw [decide_eq_false h, decide_eq_true (by omega), show i - 24 + 24 = i by omega]; simp

/-- A byte more, by the sum that the table has for what the byte and the sum's greatest one differ in. -/
theorem feed_byte (s : BitVec 32) (c : UInt8) :
    (feed s (bits8 c)).toNat = (s.toNat * 256 % 4294967296) ^^^ tab (s.toNat / 16777216 ^^^ c.toNat) := by
  have hs := s.isLt
  have hh : s.toNat / 16777216 < 256 := by omega
  have e1 : s = BitVec.ofNat 32 (s.toNat % 16777216) ^^^ BitVec.ofNat 32 (s.toNat / 16777216 * 16777216) := by
    apply BitVec.eq_of_toNat_eq
    have a1 : s.toNat % 16777216 % 2 ^ 32 = s.toNat % 16777216 := Nat.mod_eq_of_lt (by omega)
    have a2 : s.toNat / 16777216 * 16777216 % 2 ^ 32 = s.toNat / 16777216 * 16777216 := Nat.mod_eq_of_lt (by omega)
    rw [BitVec.toNat_xor, BitVec.toNat_ofNat, BitVec.toNat_ofNat, a1, a2, split_xor]
  have e2 : bits8 c = List.zipWith (· ^^ ·) (List.replicate 8 false) (bits8 c) := by
    simp [bits8, List.replicate]
  have e3 : feed s (bits8 c) = feed (BitVec.ofNat 32 (s.toNat % 16777216)) (List.replicate 8 false) ^^^ feed (BitVec.ofNat 32 (s.toNat / 16777216 * 16777216)) (bits8 c) := by
    rw [← feed_xor _ _ _ _ (by rw [List.length_replicate, bits8_length]), ← e1, ← e2]
  have e4 : bits8 c = List.zipWith (· ^^ ·) (bits8 (UInt8.ofNat (s.toNat / 16777216))) (bits8 (UInt8.ofNat (s.toNat / 16777216 ^^^ c.toNat))) := by
    rw [← xor_bits]
    congr 1
    apply UInt8.toNat_inj.1
    rw [UInt8.toNat_xor, UInt8.toNat_ofNat_of_lt' (by exact hh), UInt8.toNat_ofNat_of_lt' (Nat.xor_lt_two_pow (n := 8) hh c.toNat_lt), ← Nat.xor_assoc, Nat.xor_self, Nat.zero_xor]
  have e5 : feed (BitVec.ofNat 32 (s.toNat / 16777216 * 16777216)) (bits8 c) = feed 0#32 (bits8 (UInt8.ofNat (s.toNat / 16777216 ^^^ c.toNat))) := by
    have := feed_xor (bits8 (UInt8.ofNat (s.toNat / 16777216))) (bits8 (UInt8.ofNat (s.toNat / 16777216 ^^^ c.toNat))) (BitVec.ofNat 32 (s.toNat / 16777216 * 16777216)) 0#32 rfl
    rw [← e4, top_all _ hh, BitVec.xor_zero, BitVec.zero_xor] at this
    exact this
  have a3 : s.toNat % 16777216 * 2 ^ 8 < 4294967296 := by omega
  have a4 : (BitVec.ofNat 32 (s.toNat % 16777216 * 2 ^ 8)).toNat = s.toNat * 256 % 4294967296 := by rw [BitVec.toNat_ofNat]; omega
  rw [e3, e5, feed_low _ 8 a3, BitVec.toNat_xor, a4]
  rfl

end Go.Proofs.Ythelgjoobckbaaa
