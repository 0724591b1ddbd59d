/-
  Several bits at once: what the program's own Pack and Unpack reckon. No program.
-/
import Derived.Laws.BitsAllLaws
import Derived.Test.YtgfgmgekkmaipaaPackPure
namespace Go.Proofs.Ytgfgmgekkmaipaa
open Go.RowKit

theorem or_add {a b k : Nat} (h : a < 2 ^ k) : a ||| (2 ^ k * b) = a + 2 ^ k * b := by
  rw [Nat.or_comm, ← Nat.two_pow_add_eq_or_of_lt h, Nat.add_comm]
theorem bitLen_or {a b : Nat} (ha : a < 2 ^ 64) (hb : b < 2 ^ 64) : Lib.bitLen (a ||| b) = max (Lib.bitLen a) (Lib.bitLen b) := by
  have hab : a ||| b < 2 ^ 64 := Nat.or_lt_two_pow ha hb
  apply Nat.le_antisymm
  · rw [bitLen_le_iff hab]
    exact Nat.or_lt_two_pow ((bitLen_le_iff ha).1 (Nat.le_max_left _ _)) ((bitLen_le_iff hb).1 (Nat.le_max_right _ _))
  · rw [Nat.max_le]
    have h := (bitLen_le_iff hab).1 (Nat.le_refl _)
    exact ⟨(bitLen_le_iff ha).2 (Nat.lt_of_le_of_lt Nat.left_le_or h), (bitLen_le_iff hb).2 (Nat.lt_of_le_of_lt Nat.right_le_or h)⟩

/-- Some bits more, all of one byte: that byte changes. -/
theorem le_bits (n P k d : Nat) (hP : P < 2 ^ k) (hk : k / 8 < n) (hd : d < 2 ^ (8 - k % 8)) :
    le n (P + 2 ^ k * d) = (le n P).set (k / 8) (UInt8.ofNat (P / 256 ^ (k / 8) % 256 + d * 2 ^ (k % 8))) ∧ P / 256 ^ (k / 8) % 256 < 2 ^ (k % 8) := by
  have hpow : 2 ^ k = 256 ^ (k / 8) * 2 ^ (k % 8) := by
    rw [show (256 : Nat) = 2 ^ 8 from rfl, ← Nat.pow_mul, ← Nat.pow_add]
    congr 1
    omega
  have hlt : P / 256 ^ (k / 8) < 2 ^ (k % 8) := by
    rw [Nat.div_lt_iff_lt_mul (Nat.pow_pos (by decide)), Nat.mul_comm, ← hpow]
    exact hP
  have h7 : 2 ^ (k % 8) ≤ 128 := by
    have : 2 ^ (k % 8) ≤ 2 ^ 7 := Nat.pow_le_pow_right (by decide) (by omega)
    simpa using this
  have hd8 : d * 2 ^ (k % 8) + 2 ^ (k % 8) ≤ 256 := by
    have h1 : (d + 1) * 2 ^ (k % 8) ≤ 2 ^ (8 - k % 8) * 2 ^ (k % 8) := Nat.mul_le_mul_right _ hd
    rw [← Nat.pow_add, show 8 - k % 8 + k % 8 = 8 by omega, Nat.add_mul, Nat.one_mul] at h1
    exact h1
  have hmod : P / 256 ^ (k / 8) % 256 = P / 256 ^ (k / 8) := Nat.mod_eq_of_lt (by omega)
  refine ⟨?_, by omega⟩
  apply List.ext_getElem?
  intro j
  by_cases hj : j < n
  · rw [le_get _ _ _ hj, List.getElem?_set, le_length]
    by_cases e : k / 8 = j
    · rw [if_pos e, if_pos hk]
      subst e
      congr 2
      rw [hpow, Nat.mul_assoc, Nat.add_mul_div_left _ _ (Nat.pow_pos (by decide)), hmod, Nat.mul_comm _ d, Nat.mod_eq_of_lt (by omega)]
    · rw [if_neg e, le_get _ _ _ hj]
      congr 2
      rcases Nat.lt_or_ge j (k / 8) with hlo | hhi
      · have hd' : 2 ^ k * d = 256 ^ j * (256 * (256 ^ (k / 8 - j - 1) * 2 ^ (k % 8) * d)) := by
          rw [hpow, ← Nat.mul_assoc, ← Nat.mul_assoc, ← Nat.mul_assoc, Nat.mul_assoc (256 ^ j), ← Nat.pow_succ', ← Nat.pow_add, show j + (k / 8 - j - 1 + 1) = k / 8 by omega]
        rw [hd', Nat.add_mul_div_left _ _ (Nat.pow_pos (by decide)), Nat.add_mul_mod_self_left]
      · have hle : 256 ^ (k / 8 + 1) ≤ 256 ^ j := Nat.pow_le_pow_right (by decide) (by omega)
        have hP2 : P + 2 ^ k * d < 256 ^ (k / 8 + 1) := by
          rw [Nat.pow_succ]
          have h1 : 2 ^ k * d + 2 ^ k ≤ 256 ^ (k / 8) * 256 := by
            rw [hpow, Nat.mul_assoc, ← Nat.mul_add, Nat.mul_comm _ d]
            exact Nat.mul_le_mul_left _ hd8
          omega
        rw [Nat.div_eq_of_lt (Nat.lt_of_lt_of_le hP2 hle), Nat.div_eq_of_lt (by omega)]
  · rw [List.getElem?_eq_none (by rw [le_length]; omega), List.getElem?_eq_none (by rw [List.length_set, le_length]; omega)]

/-- A byte of the number. -/
theorem ofLe_byte (l : List UInt8) (i : Nat) (hi : i < l.length) : (l[i]).toNat = ofLe l / 256 ^ i % 256 := by
  have h := le_get l.length (ofLe l) i hi
  rw [le_ofLe, List.getElem?_eq_getElem hi] at h
  rw [Option.some.inj h, UInt8.toNat_ofNat']
  omega
theorem byte_shift (B k : Nat) : B / 256 ^ (k / 8) % 256 / 2 ^ (k % 8) = B / 2 ^ k % 2 ^ (8 - k % 8) := by
  have h : (256 : Nat) = 2 ^ (k % 8) * 2 ^ (8 - k % 8) := by
    rw [← Nat.pow_add, show k % 8 + (8 - k % 8) = 8 by omega]
  have hpow : 2 ^ k = 256 ^ (k / 8) * 2 ^ (k % 8) := by
    rw [show (256 : Nat) = 2 ^ 8 from rfl, ← Nat.pow_mul, ← Nat.pow_add]
    congr 1
    omega
  rw [hpow, ← Nat.div_div_eq_div_mul]
  generalize B / 256 ^ (k / 8) = x
  conv => lhs; rw [h]
  rw [Nat.mod_mul_right_div_self]
theorem bits_step (B a g h : Nat) : B / 2 ^ a % 2 ^ (g + h) = B / 2 ^ a % 2 ^ g + 2 ^ g * (B / 2 ^ (a + g) % 2 ^ h) := by
  rw [Nat.pow_add, Nat.mod_mul, Nat.div_div_eq_div_mul, ← Nat.pow_add]

/-- The byte with some bits more, as the walk says it. -/
theorem put_byte {C m s : Nat} (hC : C < 2 ^ s) (hs : s < 8) : bits .or .u8 (C : Int) (IntKind.u8.wrap (IntKind.u64.wrap ((m : Int) * 2 ^ s))) = ((C + m % 2 ^ (8 - s) * 2 ^ s : Nat) : Int) ∧ C + m % 2 ^ (8 - s) * 2 ^ s < 256 := by
  have h1 : 2 ^ (8 - s) * 2 ^ s = 256 := by rw [← Nat.pow_add, show 8 - s + s = 8 by omega]
  have e : IntKind.u8.wrap (IntKind.u64.wrap ((m : Int) * 2 ^ s)) = ((m % 2 ^ (8 - s) * 2 ^ s : Nat) : Int) := by
    rw [← Nat.mul_mod_mul_right, h1]
    have e1 : (m : Int) * 2 ^ s = ((m * 2 ^ s : Nat) : Int) := by rw [Int.natCast_mul, Int.natCast_pow]; rfl
    rw [e1]
    generalize m * 2 ^ s = q
    show ((q : Int) % 18446744073709551616) % 256 = _
    omega
  have hd : m % 2 ^ (8 - s) < 2 ^ (8 - s) := Nat.mod_lt _ (Nat.two_pow_pos _)
  have hd8 : m % 2 ^ (8 - s) * 2 ^ s + 2 ^ s ≤ 256 := by
    have h2 : (m % 2 ^ (8 - s) + 1) * 2 ^ s ≤ 2 ^ (8 - s) * 2 ^ s := Nat.mul_le_mul_right _ hd
    rw [h1, Nat.add_mul, Nat.one_mul] at h2
    exact h2
  have h256 : 2 ^ s ≤ 2 ^ 7 := Nat.pow_le_pow_right (by decide) (by omega)
  refine ⟨?_, by omega⟩
  rw [e, u8_or_nat _ _ (by omega) (by omega), Nat.mul_comm _ (2 ^ s), or_add hC]

/-- The number with some bits more in front, as the walk says it. -/
theorem more_bits {X c s g : Nat} (hX : X < 2 ^ g) (hg : g < 64) (hc : c < 256) : bits .or .u64 (X : Int) (IntKind.u64.wrap (IntKind.u64.wrap ((c : Int) / 2 ^ s) * 2 ^ g)) = (((X + 2 ^ g * (c / 2 ^ s)) % 2 ^ 64 : Nat) : Int) := by
  have e0 : ((c : Int) / 2 ^ s) = ((c / 2 ^ s : Nat) : Int) := by rw [Int.natCast_ediv, Int.natCast_pow]; rfl
  have hc2 : c / 2 ^ s < 256 := Nat.lt_of_le_of_lt (Nat.div_le_self _ _) hc
  rw [e0]
  generalize c / 2 ^ s = q at hc2
  have e5 : IntKind.u64.wrap (q : Int) = (q : Int) := by
    show (q : Int) % 18446744073709551616 = _
    omega
  rw [e5]
  have h64 : 2 ^ g * 2 ^ (64 - g) = 2 ^ 64 := by rw [← Nat.pow_add, show g + (64 - g) = 64 by omega]
  have hm : 2 ^ g * q % 2 ^ 64 = 2 ^ g * (q % 2 ^ (64 - g)) := by rw [← h64, Nat.mul_mod_mul_left]
  have e1 : IntKind.u64.wrap ((q : Int) * 2 ^ g) = ((2 ^ g * (q % 2 ^ (64 - g)) : Nat) : Int) := by
    rw [← hm]
    have e2 : (q : Int) * 2 ^ g = ((2 ^ g * q : Nat) : Int) := by rw [Nat.mul_comm, Int.natCast_mul, Int.natCast_pow]; rfl
    rw [e2]
    generalize 2 ^ g * q = z
    show (z : Int) % 18446744073709551616 = _
    omega
  have hlt : 2 ^ g * (q % 2 ^ (64 - g)) + 2 ^ g ≤ 2 ^ 64 := by
    have h2 : 2 ^ g * (q % 2 ^ (64 - g) + 1) ≤ 2 ^ g * 2 ^ (64 - g) := Nat.mul_le_mul_left _ (Nat.mod_lt _ (Nat.two_pow_pos _))
    rw [h64, Nat.mul_add, Nat.mul_one] at h2
    exact h2
  have h3 : 2 ^ g * q = 2 ^ g * (q % 2 ^ (64 - g)) + 2 ^ 64 * (q / 2 ^ (64 - g)) := by
    rw [← h64, Nat.mul_assoc, ← Nat.mul_add, Nat.mod_add_div]
  have h4 : (X + 2 ^ g * q) % 2 ^ 64 = X + 2 ^ g * (q % 2 ^ (64 - g)) := by
    rw [h3, ← Nat.add_assoc, Nat.add_mul_mod_self_left, Nat.mod_eq_of_lt (by omega)]
  rw [e1, u64_or_nat _ _ (by omega) (by omega), or_add hX, h4]
/-- The lowest bits, as the walk says it. -/
theorem low_bits {X W : Nat} (hX : X < 2 ^ 64) (hW : W ≤ 64) : bits .and .u64 (X : Int) (IntKind.u64.wrap (IntKind.u64.wrap (2 ^ W) - 1)) = ((X % 2 ^ W : Nat) : Int) := by
  have e : IntKind.u64.wrap (IntKind.u64.wrap (2 ^ W) - 1) = ((2 ^ W - 1 : Nat) : Int) := by
    have e1 : (2 : Int) ^ W = ((2 ^ W : Nat) : Int) := by rw [Int.natCast_pow]; rfl
    rw [e1]
    have h1 : 1 ≤ 2 ^ W := Nat.two_pow_pos W
    have h2 : 2 ^ W ≤ 2 ^ 64 := Nat.pow_le_pow_right (by decide) hW
    generalize 2 ^ W = z at h1 h2
    show ((z : Int) % 18446744073709551616 - 1) % 18446744073709551616 = _
    omega
  have h2 : 2 ^ W ≤ 2 ^ 64 := Nat.pow_le_pow_right (by decide) hW
  have h1 : 1 ≤ 2 ^ W := Nat.two_pow_pos W
  rw [e, u64_and_nat _ _ (by omega) (by omega), Nat.and_two_pow_sub_one_eq_mod]
/-- What takeBits has come to, one byte later. -/
theorem take_step {B a g : Nat} (hg : g < 64) : (B / 2 ^ a % 2 ^ g % 2 ^ 64 + 2 ^ g * (B / 256 ^ ((a + g) / 8) % 256 / 2 ^ ((a + g) % 8))) % 2 ^ 64 = B / 2 ^ a % 2 ^ (g + (8 - (a + g) % 8)) % 2 ^ 64 := by
  have h : B / 2 ^ a % 2 ^ g < 2 ^ 64 := Nat.lt_of_lt_of_le (Nat.mod_lt _ (Nat.two_pow_pos g)) (Nat.pow_le_pow_right (by decide) (by omega))
  rw [Nat.mod_eq_of_lt h, byte_shift, bits_step]
theorem take_end {B a g W : Nat} (hg : W ≤ g) (hW : W ≤ 64) : B / 2 ^ a % 2 ^ g % 2 ^ 64 % 2 ^ W = B / 2 ^ a % 2 ^ W := by
  rw [Nat.mod_mod_of_dvd _ (Nat.pow_dvd_pow 2 hW), Nat.mod_mod_of_dvd _ (Nat.pow_dvd_pow 2 hg)]
/-- Whether the bits behind the last number are 0. -/
theorem rest_zero {b : List UInt8} {used : Nat} (h : b.length = (used + 7) / 8) (hu : used % 8 ≠ 0) (hp : b.length - 1 < b.length) : (b[b.length - 1]).toNat / 2 ^ (used % 8) = 0 ↔ ofLe b < 2 ^ used := by
  have hi : b.length - 1 = used / 8 := by omega
  rw [ofLe_byte b (b.length - 1) hp, hi]
  have hB : ofLe b < 256 ^ (used / 8 + 1) := by
    have := ofLe_lt b
    rwa [show b.length = used / 8 + 1 by omega] at this
  have hpow : 2 ^ used = 256 ^ (used / 8) * 2 ^ (used % 8) := by
    rw [show (256 : Nat) = 2 ^ 8 from rfl, ← Nat.pow_mul, ← Nat.pow_add]
    congr 1
    omega
  have h256 : ofLe b / 256 ^ (used / 8) < 256 := by
    rw [Nat.div_lt_iff_lt_mul (Nat.pow_pos (by decide)), Nat.mul_comm, ← Nat.pow_succ]
    exact hB
  rw [Nat.mod_eq_of_lt h256, Nat.div_eq_zero_iff]
  have hne : ¬ 2 ^ (used % 8) = 0 := by have := Nat.two_pow_pos (used % 8); omega
  rw [hpow, Nat.mul_comm, ← Nat.div_lt_iff_lt_mul (Nat.pow_pos (by decide))]
  constructor
  · intro h
    rcases h with h | h
    · exact absurd h hne
    · exact h
  · exact .inr
theorem rest_full {b : List UInt8} {used : Nat} (h : b.length = (used + 7) / 8) (hu : used % 8 = 0) : ofLe b < 2 ^ used := by
  have := ofLe_lt b
  rw [show (256 : Nat) = 2 ^ 8 from rfl, ← Nat.pow_mul, show 8 * b.length = used by omega] at this
  exact this
/-- One byte of bits more: what is done, and what is left. -/
theorem put_step {P k m E h : Nat} (hP : P < 2 ^ k) (hm : m < 2 ^ (E - k)) : P + 2 ^ k * (m % 2 ^ h) < 2 ^ (k + h) ∧ m / 2 ^ h < 2 ^ (E - (k + h)) ∧ P + 2 ^ k * (m % 2 ^ h) + 2 ^ (k + h) * (m / 2 ^ h) = P + 2 ^ k * m := by
  refine ⟨?_, ?_, ?_⟩
  · have h1 : m % 2 ^ h + 1 ≤ 2 ^ h := Nat.mod_lt _ (Nat.two_pow_pos h)
    have h2 : 2 ^ k * (m % 2 ^ h + 1) ≤ 2 ^ k * 2 ^ h := Nat.mul_le_mul_left _ h1
    rw [Nat.mul_add, Nat.mul_one, ← Nat.pow_add] at h2
    omega
  · apply Nat.div_lt_of_lt_mul
    rw [← Nat.pow_add]
    exact Nat.lt_of_lt_of_le hm (Nat.pow_le_pow_right (by decide) (by omega))
  · rw [Nat.pow_add, Nat.mul_assoc, Nat.add_assoc, ← Nat.mul_add, Nat.mod_add_div]
theorem bv_put (X : Nat) : bv (UInt8.ofNat X) = .int .u8 ((X % 256 : Nat) : Int) := by
  unfold bv
  rw [UInt8.toNat_ofNat']

end Go.Proofs.Ytgfgmgekkmaipaa
