/-
  Sums of bits and bytes as the document has them, as functions on 32 bits, and plain facts of them: they are XORed as their bytes are, a sum behind its own bytes comes to 0, and bits within 32 never do. No program.
-/
import Derived.WalkKit
namespace Go.Proofs.Ythelgjoobckbaaa

/-- A sum behind one bit more. -/
def stp (s : BitVec 32) (b : Bool) : BitVec 32 := if s.msb != b then (s <<< 1) ^^^ 0x814141AB#32 else s <<< 1
/-- A sum behind more bits. -/
def feed (s : BitVec 32) (bs : List Bool) : BitVec 32 := bs.foldl stp s

theorem feed_nil (s : BitVec 32) : feed s [] = s := rfl
theorem feed_cons (s : BitVec 32) (b : Bool) (t : List Bool) : feed s (b :: t) = feed (stp s b) t := rfl
theorem feed_append (s : BitVec 32) (x y : List Bool) : feed s (x ++ y) = feed (feed s x) y := List.foldl_append

theorem shl_xor (s t : BitVec 32) : (s ^^^ t) <<< 1 = (s <<< 1) ^^^ (t <<< 1) := BitVec.shiftLeft_xor_distrib s t 1
theorem stp_xor (s t : BitVec 32) (a b : Bool) : stp (s ^^^ t) (a ^^ b) = stp s a ^^^ stp t b := by
  unfold stp
  rw [BitVec.msb_xor, shl_xor]
  generalize s <<< 1 = x
  generalize t <<< 1 = y
  have e1 : ∀ p : BitVec 32, (x ^^^ y) ^^^ p = (x ^^^ p) ^^^ y := fun p => by rw [BitVec.xor_assoc, BitVec.xor_comm y p, ← BitVec.xor_assoc]
  have e2 : ∀ p : BitVec 32, (x ^^^ p) ^^^ (y ^^^ p) = x ^^^ y := fun p => by
    rw [BitVec.xor_comm y p, BitVec.xor_assoc, ← BitVec.xor_assoc p p y, BitVec.xor_self, BitVec.zero_xor]
  cases s.msb <;> cases t.msb <;> cases a <;> cases b <;> simp [e1, e2, BitVec.xor_assoc] <;> exact BitVec.xor_comm _ _

theorem feed_xor : ∀ (a b : List Bool) (s t : BitVec 32), a.length = b.length → feed (s ^^^ t) (List.zipWith (· ^^ ·) a b) = feed s a ^^^ feed t b
  | [], [], _, _, _ => rfl
  | x :: a, y :: b, s, t, h => by
    rw [List.zipWith_cons_cons, feed_cons, feed_cons, feed_cons, stp_xor]
    exact feed_xor a b _ _ (by simpa using h)

/-- The sum of bits comes to 0 where the register holds just these bits. -/
theorem feed_zero : ∀ (bs : List Bool) (s : BitVec 32), bs.length ≤ 32 → (feed s bs = 0#32 ↔ ∀ i, i < 32 → s.getMsbD i = bs.getD i false)
  | [], s, _ => by
    rw [feed_nil]
    constructor
    · rintro rfl i _; simp
    · intro h
      refine BitVec.eq_of_getMsbD_eq fun i hi => ?_
      rw [h i hi]; simp
  | b :: t, s, hl => by
    rw [feed_cons, feed_zero t (stp s b) (by simp at hl; omega)]
    simp only [List.length_cons] at hl
    by_cases hm : s.msb = b
    · have e : stp s b = s <<< 1 := by unfold stp; rw [if_neg (by simp [hm])]
      rw [e]
      constructor
      · intro h i hi
        cases i with
        | zero => simpa [BitVec.msb] using hm
        | succ i =>
          have := h i (by omega)
          rw [BitVec.getMsbD_shiftLeft] at this
          rw [List.getD_cons_succ, ← this, Nat.add_comm]
      · intro h i hi
        rw [BitVec.getMsbD_shiftLeft]
        by_cases h31 : i + 1 < 32
        · have := h (i + 1) h31
          rw [List.getD_cons_succ] at this
          rw [← this, Nat.add_comm]
        · have : i = 31 := by omega
          subst this
          rw [List.getD_eq_getElem?_getD, List.getElem?_eq_none (by omega)]
          simp
    · have e : (stp s b).getMsbD 31 = true := by
        unfold stp
        rw [if_pos (by simp [hm])]
        rw [BitVec.getMsbD_xor, BitVec.getMsbD_shiftLeft, BitVec.getMsbD_of_ge s (31 + 1) (by omega)]
        decide
      constructor
      · intro h
        have := h 31 (by omega)
        rw [e, List.getD_eq_getElem?_getD, List.getElem?_eq_none (by omega)] at this
        cases this
      · intro h
        have := h 0 (by omega)
        exact absurd (by simpa [BitVec.msb] using this) hm

theorem feed_falses (n : Nat) (s : BitVec 32) : feed s (List.replicate n false) = 0#32 ↔ s = 0#32 := by
  induction n generalizing s with
  | zero => exact Iff.rfl
  | succ n ih =>
    rw [List.replicate_succ, feed_cons, ih]
    have h1 := feed_zero [false] s (by simp)
    rw [feed_cons, feed_nil] at h1
    rw [h1]
    constructor
    · intro h
      refine BitVec.eq_of_getMsbD_eq fun i hi => ?_
      rw [h i hi]
      cases i <;> simp
    · rintro rfl i hi
      cases i <;> simp
theorem feed_still (n : Nat) : feed 0#32 (List.replicate n false) = 0#32 := (feed_falses n 0#32).2 rfl

/-- Bits of which all that are set stand within 32: the sum from 0 is 0 just where none is. -/
theorem feed_burst (n m : Nat) (mid : List Bool) (h : mid.length ≤ 32) : feed 0#32 (List.replicate n false ++ (mid ++ List.replicate m false)) = 0#32 ↔ ∀ b ∈ mid, b = false := by
  rw [feed_append, feed_append, feed_still, feed_falses, feed_zero mid 0#32 h]
  constructor
  · intro hh b hb
    obtain ⟨i, hi, rfl⟩ := List.getElem_of_mem hb
    have := hh i (by omega)
    rw [List.getD_eq_getElem?_getD, List.getElem?_eq_getElem hi] at this
    simpa using this.symm
  · intro hh i hi
    rw [List.getD_eq_getElem?_getD]
    cases e : mid[i]? with
    | none => simp
    | some b => rw [hh b (List.mem_of_getElem? e)]; simp


/-! ### Bytes -/

/-- A byte's bits, the greatest first. -/
def bits8 (c : UInt8) : List Bool := [c.toNat.testBit 7, c.toNat.testBit 6, c.toNat.testBit 5, c.toNat.testBit 4, c.toNat.testBit 3, c.toNat.testBit 2, c.toNat.testBit 1, c.toNat.testBit 0]
def bitsOf (l : List UInt8) : List Bool := l.flatMap bits8
/-- A sum behind more bytes. -/
def more (s : BitVec 32) (l : List UInt8) : BitVec 32 := feed s (bitsOf l)

theorem bits8_length (c : UInt8) : (bits8 c).length = 8 := rfl
theorem bitsOf_length (l : List UInt8) : (bitsOf l).length = 8 * l.length := by
  induction l with
  | nil => rfl
  | cons c t ih => rw [bitsOf, List.flatMap_cons, List.length_append, bits8_length, List.length_cons]; change 8 + (bitsOf t).length = _; rw [ih]; omega
theorem bitsOf_append (x y : List UInt8) : bitsOf (x ++ y) = bitsOf x ++ bitsOf y := List.flatMap_append
theorem more_append (s : BitVec 32) (x y : List UInt8) : more s (x ++ y) = more (more s x) y := by unfold more; rw [bitsOf_append, feed_append]
theorem more_nil (s : BitVec 32) : more s [] = s := rfl

theorem bits8_get (c : UInt8) (k : Nat) (h : k < 8) : (bits8 c)[k]? = some (c.toNat.testBit (7 - k)) := by
  match k, h with
  | 0, _ | 1, _ | 2, _ | 3, _ | 4, _ | 5, _ | 6, _ | 7, _ => rfl
theorem bitsOf_get (l : List UInt8) (j : Nat) : (bitsOf l)[j]? = l[j / 8]?.map fun c => c.toNat.testBit (7 - j % 8) := by
  induction l generalizing j with
  | nil => simp [bitsOf]
  | cons c t ih =>
    change (bits8 c ++ bitsOf t)[j]? = _
    by_cases h : j < 8
    · rw [List.getElem?_append_left (by rw [bits8_length]; exact h), bits8_get c j h, Nat.div_eq_of_lt h, Nat.mod_eq_of_lt h]; rfl
    · rw [List.getElem?_append_right (by rw [bits8_length]; omega), bits8_length, ih, show j / 8 = (j - 8) / 8 + 1 by omega, show j % 8 = (j - 8) % 8 by omega]; rfl

theorem xor_bits (a b : UInt8) : bits8 (a ^^^ b) = List.zipWith (· ^^ ·) (bits8 a) (bits8 b) := by
  simp only [bits8, List.zipWith_cons_cons, List.zipWith_nil_left, UInt8.toNat_xor, Nat.testBit_xor]
theorem bitsOf_xor : ∀ (a b : List UInt8), bitsOf (List.zipWith (· ^^^ ·) a b) = List.zipWith (· ^^ ·) (bitsOf a) (bitsOf b) 
  | [], _ => by simp [bitsOf]
  | x :: a, [] => by simp [bitsOf]
  | x :: a, y :: b => by
    rw [List.zipWith_cons_cons]
    change bits8 (x ^^^ y) ++ bitsOf _ = List.zipWith _ (bits8 x ++ bitsOf a) (bits8 y ++ bitsOf b)
    rw [List.zipWith_append (by rfl), xor_bits, bitsOf_xor a b]
theorem more_xor (s t : BitVec 32) (a b : List UInt8) (h : a.length = b.length) : more (s ^^^ t) (List.zipWith (· ^^^ ·) a b) = more s a ^^^ more t b := by
  unfold more
  rw [bitsOf_xor, feed_xor _ _ _ _ (by rw [bitsOf_length, bitsOf_length, h])]

/-! ### A sum as four bytes -/

/-- A sum's bytes, the greatest first. -/
def be4 (s : BitVec 32) : List UInt8 := [UInt8.ofNat (s.toNat / 16777216), UInt8.ofNat (s.toNat / 65536 % 256), UInt8.ofNat (s.toNat / 256 % 256), UInt8.ofNat (s.toNat % 256)]
theorem byte_bit (n k i : Nat) (h : k < 8) : (UInt8.ofNat (n / 2 ^ i % 256)).toNat.testBit k = n.testBit (i + k) := by
  rw [UInt8.toNat_ofNat', show (2 : Nat) ^ 8 = 256 by rfl, Nat.mod_mod, show (256 : Nat) = 2 ^ 8 by rfl, Nat.testBit_mod_two_pow, Nat.testBit_div_two_pow, Nat.add_comm]
  simp [h]
theorem be4_bits (s : BitVec 32) (i : Nat) (h : i < 32) : (bitsOf (be4 s)).getD i false = s.getMsbD i := by
  have hs := s.isLt
  have e : be4 s = [UInt8.ofNat (s.toNat / 2 ^ 24 % 256), UInt8.ofNat (s.toNat / 2 ^ 16 % 256), UInt8.ofNat (s.toNat / 2 ^ 8 % 256), UInt8.ofNat (s.toNat / 2 ^ 0 % 256)] := by
    unfold be4
    rw [Nat.mod_eq_of_lt (show s.toNat / 2 ^ 24 < 256 by omega)]
    simp
  rw [e, List.getD_eq_getElem?_getD, bitsOf_get, BitVec.getMsbD_eq_getLsbD]
  have hm : i % 8 < 8 := Nat.mod_lt _ (by omega)
  have hq : i / 8 = 0 ∨ i / 8 = 1 ∨ i / 8 = 2 ∨ i / 8 = 3 := by omega
  have h2 : decide (i < 32) = true := decide_eq_true h
  rw [h2, Bool.true_and]
  unfold BitVec.getLsbD
  rcases hq with q | q | q | q <;> rw [q] <;> simp only [List.getElem?_cons_zero, List.getElem?_cons_succ, Option.map_some, Option.getD_some] <;> rw [byte_bit _ _ _ (by omega)] <;> congr 1 <;> omega
/-- A sum with bytes behind it comes to 0 just where these are the sum. -/
theorem more_four (s : BitVec 32) (t : List UInt8) (h : t.length = 4) : more s t = 0#32 ↔ t = be4 s := by
  unfold more
  rw [feed_zero _ _ (by rw [bitsOf_length, h]; exact Nat.le_refl 32)]
  constructor
  · intro hh
    refine List.ext_getElem? fun k => ?_
    by_cases hk : k < 4
    · have ht : ∃ c, t[k]? = some c := ⟨_, List.getElem?_eq_getElem (by omega)⟩
      have hb : ∃ c, (be4 s)[k]? = some c := ⟨_, List.getElem?_eq_getElem (show k < (be4 s).length from hk)⟩
      obtain ⟨c, hc⟩ := ht
      obtain ⟨d, hd⟩ := hb
      rw [hc, hd]
      congr 1
      refine UInt8.toNat_inj.1 (Nat.eq_of_testBit_eq fun j => ?_)
      by_cases hj : j < 8
      · have h1 := hh (8 * k + (7 - j)) (by omega)
        rw [← be4_bits s _ (by omega), List.getD_eq_getElem?_getD, List.getD_eq_getElem?_getD, bitsOf_get, bitsOf_get, show (8 * k + (7 - j)) / 8 = k by omega, show 7 - (8 * k + (7 - j)) % 8 = j by omega, hc, hd] at h1
        simpa using h1.symm
      · have e1 := c.toNat_lt
        have e2 := d.toNat_lt
        have : 2 ^ 8 ≤ 2 ^ j := Nat.pow_le_pow_right (by decide) (by omega)
        rw [Nat.testBit_lt_two_pow (by omega), Nat.testBit_lt_two_pow (by omega)]
    · rw [List.getElem?_eq_none (by omega), List.getElem?_eq_none (show (be4 s).length ≤ k by change 4 ≤ k; omega)]
  · rintro rfl i hi
    exact (be4_bits s i hi).symm

/-! ### What is sealed -/

def sumOf (l : List UInt8) : BitVec 32 := more 0xFFFFFFFF#32 l
def sealed (l : List UInt8) : List UInt8 := l ++ be4 (sumOf l)
theorem sealed_zero (l : List UInt8) : sumOf (sealed l) = 0#32 := by
  unfold sumOf sealed
  rw [more_append]
  exact (more_four _ _ rfl).2 rfl
/-- What is opened, and only that, comes to 0. -/
theorem opens_zero (l : List UInt8) (h : 4 ≤ l.length) : sealed (l.take (l.length - 4)) = l ↔ sumOf l = 0#32 := by
  have e := List.take_append_drop (l.length - 4) l
  have h4 : (l.drop (l.length - 4)).length = 4 := by rw [List.length_drop]; omega
  have e2 : sumOf l = more (sumOf (l.take (l.length - 4))) (l.drop (l.length - 4)) := by
    unfold sumOf
    rw [← more_append, e]
  rw [e2, more_four _ _ h4]
  unfold sealed
  constructor
  · intro hh
    rw [← e] at hh
    have := List.append_inj_right hh (by rw [e])
    rw [e] at this
    exact this.symm
  · intro hh
    rw [← hh, e]

/-! ### In numbers -/

/-- A sum behind one bit more, in numbers. -/
def stN (n b : Nat) : Nat := if n / 2147483648 = b then n * 2 % 4294967296 else (n * 2 % 4294967296) ^^^ 2168537515
theorem stN_eq (s : BitVec 32) (b : Bool) : stN s.toNat b.toNat = (stp s b).toNat := by
  have hs := s.isLt
  have hm : s.msb.toNat = s.toNat / 2147483648 := by
    rw [BitVec.msb_eq_decide]
    by_cases h : 2147483648 ≤ s.toNat
    · rw [decide_eq_true (by simpa using h)]; simp; omega
    · rw [decide_eq_false (by simpa using h)]; simp; omega
  have h2 : (s <<< 1).toNat = s.toNat * 2 % 4294967296 := by
    rw [BitVec.toNat_shiftLeft, Nat.shiftLeft_eq]
  unfold stN stp
  rw [← hm]
  by_cases h : s.msb = b
  · rw [if_pos (by rw [h]), if_neg (by simp [h]), h2]
  · rw [if_neg (by intro hh; exact h (by revert hh; cases s.msb <;> cases b <;> simp)), if_pos (by simp [h]), BitVec.toNat_xor, h2]
    rfl

end Go.Proofs.Ythelgjoobckbaaa
