/-
  Texts of this proof, merged: Sum, PagesPure, Base, Can, Slices.
-/
import Derived.WalkKit
import Derived.WalkSpells
import Derived.WalkLawsBesides
import Derived.Lib.Hide
import Derived.Laws.BytesArg
import Derived.Laws.AppendOwnNone
import Derived.Laws.IdiomStrings
import Derived.OrdersHeld
import Derived.Deep.Quiet
import Derived.Test.YtoagpaphghgkmaaRows
/-
  Sums of bits and bytes as the document has them, as functions on 32 bits, and plain facts of them: they are XORed as their bytes are, a sum behind its own bytes comes to 0, and bits within 32 never do. No program.
-/
namespace Go.Proofs.Ytoagpaphghgkmaa

/-- A sum behind one bit more. -/
def stp (s : BitVec 32) (b : Bool) : BitVec 32 := if s.msb != b then (s <<< 1) ^^^ 0x814141AB#32 else s <<< 1
/-- A sum behind more bits. -/
def feed (s : BitVec 32) (bs : List Bool) : BitVec 32 := bs.foldl stp s

theorem feed_nil (s : BitVec 32) : feed s [] = s := rfl
theorem feed_cons (s : BitVec 32) (b : Bool) (t : List Bool) : feed s (b :: t) = feed (stp s b) t := rfl
theorem feed_append (s : BitVec 32) (x y : List Bool) : feed s (x ++ y) = feed (feed s x) y := List.foldl_append

theorem shl_xor (s t : BitVec 32) : (s ^^^ t) <<< 1 = (s <<< 1) ^^^ (t <<< 1) := BitVec.shiftLeft_xor_distrib s t 1
theorem stp_xor (s t : BitVec 32) (a b : Bool) : stp (s ^^^ t) (a ^^ b) = stp s a ^^^ stp t b := by
  unfold stp
  rw [BitVec.msb_xor, shl_xor]
  generalize s <<< 1 = x
  generalize t <<< 1 = y
  have e1 : ∀ p : BitVec 32, (x ^^^ y) ^^^ p = (x ^^^ p) ^^^ y := fun p => by rw [BitVec.xor_assoc, BitVec.xor_comm y p, ← BitVec.xor_assoc]
  have e2 : ∀ p : BitVec 32, (x ^^^ p) ^^^ (y ^^^ p) = x ^^^ y := fun p => by
    rw [BitVec.xor_comm y p, BitVec.xor_assoc, ← BitVec.xor_assoc p p y, BitVec.xor_self, BitVec.zero_xor]
  cases s.msb <;> cases t.msb <;> cases a <;> cases b <;> simp [e1, e2, BitVec.xor_assoc] <;> exact BitVec.xor_comm _ _

theorem feed_xor : ∀ (a b : List Bool) (s t : BitVec 32), a.length = b.length → feed (s ^^^ t) (List.zipWith (· ^^ ·) a b) = feed s a ^^^ feed t b
  | [], [], _, _, _ => rfl
  | x :: a, y :: b, s, t, h => by
    rw [List.zipWith_cons_cons, feed_cons, feed_cons, feed_cons, stp_xor]
    exact feed_xor a b _ _ (by simpa using h)

/-- The sum of bits comes to 0 where the register holds just these bits. -/
theorem feed_zero : ∀ (bs : List Bool) (s : BitVec 32), bs.length ≤ 32 → (feed s bs = 0#32 ↔ ∀ i, i < 32 → s.getMsbD i = bs.getD i false)
  | [], s, _ => by
    rw [feed_nil]
    constructor
    · rintro rfl i _; simp
    · intro h
      refine BitVec.eq_of_getMsbD_eq fun i hi => ?_
      rw [h i hi]; simp
  | b :: t, s, hl => by
    rw [feed_cons, feed_zero t (stp s b) (by simp at hl; omega)]
    simp only [List.length_cons] at hl
    by_cases hm : s.msb = b
    · have e : stp s b = s <<< 1 := by unfold stp; rw [if_neg (by simp [hm])]
      rw [e]
      constructor
      · intro h i hi
        cases i with
        | zero => simpa [BitVec.msb] using hm
        | succ i =>
          have := h i (by omega)
          rw [BitVec.getMsbD_shiftLeft] at this
          rw [List.getD_cons_succ, ← this, Nat.add_comm]
      · intro h i hi
        rw [BitVec.getMsbD_shiftLeft]
        by_cases h31 : i + 1 < 32
        · have := h (i + 1) h31
          rw [List.getD_cons_succ] at this
          rw [← this, Nat.add_comm]
        · have : i = 31 := by omega
          subst this
          rw [List.getD_eq_getElem?_getD, List.getElem?_eq_none (by omega)]
          simp
    · have e : (stp s b).getMsbD 31 = true := by
        unfold stp
        rw [if_pos (by simp [hm])]
        rw [BitVec.getMsbD_xor, BitVec.getMsbD_shiftLeft, BitVec.getMsbD_of_ge s (31 + 1) (by omega)]
        decide
      constructor
      · intro h
        have := h 31 (by omega)
        rw [e, List.getD_eq_getElem?_getD, List.getElem?_eq_none (by omega)] at this
        cases this
      · intro h
        have := h 0 (by omega)
        exact absurd (by simpa [BitVec.msb] using this) hm

theorem feed_falses (n : Nat) (s : BitVec 32) : feed s (List.replicate n false) = 0#32 ↔ s = 0#32 := by
  induction n generalizing s with
  | zero => exact Iff.rfl
  | succ n ih =>
    rw [List.replicate_succ, feed_cons, ih]
    have h1 := feed_zero [false] s (by simp)
    rw [feed_cons, feed_nil] at h1
    rw [h1]
    constructor
    · intro h
      refine BitVec.eq_of_getMsbD_eq fun i hi => ?_
      rw [h i hi]
      cases i <;> simp
    · rintro rfl i hi
      cases i <;> simp
theorem feed_still (n : Nat) : feed 0#32 (List.replicate n false) = 0#32 := (feed_falses n 0#32).2 rfl

/-- Bits of which all that are set stand within 32: the sum from 0 is 0 just where none is. -/
theorem feed_burst (n m : Nat) (mid : List Bool) (h : mid.length ≤ 32) : feed 0#32 (List.replicate n false ++ (mid ++ List.replicate m false)) = 0#32 ↔ ∀ b ∈ mid, b = false := by
  rw [feed_append, feed_append, feed_still, feed_falses, feed_zero mid 0#32 h]
  constructor
  · intro hh b hb
    obtain ⟨i, hi, rfl⟩ := List.getElem_of_mem hb
    have := hh i (by omega)
    rw [List.getD_eq_getElem?_getD, List.getElem?_eq_getElem hi] at this
    simpa using this.symm
  · intro hh i hi
    rw [List.getD_eq_getElem?_getD]
    cases e : mid[i]? with
    | none => simp
    | some b => rw [hh b (List.mem_of_getElem? e)]; simp


/-! ### Bytes -/

/-- A byte's bits, the greatest first. -/
def bits8 (c : UInt8) : List Bool := [c.toNat.testBit 7, c.toNat.testBit 6, c.toNat.testBit 5, c.toNat.testBit 4, c.toNat.testBit 3, c.toNat.testBit 2, c.toNat.testBit 1, c.toNat.testBit 0]
def bitsOf (l : List UInt8) : List Bool := l.flatMap bits8
/-- A sum behind more bytes. -/
def more (s : BitVec 32) (l : List UInt8) : BitVec 32 := feed s (bitsOf l)

theorem bits8_length (c : UInt8) : (bits8 c).length = 8 := rfl
theorem bitsOf_length (l : List UInt8) : (bitsOf l).length = 8 * l.length := by
  induction l with
  | nil => rfl
  | cons c t ih => rw [bitsOf, List.flatMap_cons, List.length_append, bits8_length, List.length_cons]; change 8 + (bitsOf t).length = _; rw [ih]; omega
theorem bitsOf_append (x y : List UInt8) : bitsOf (x ++ y) = bitsOf x ++ bitsOf y := List.flatMap_append
theorem more_append (s : BitVec 32) (x y : List UInt8) : more s (x ++ y) = more (more s x) y := by unfold more; rw [bitsOf_append, feed_append]
theorem more_nil (s : BitVec 32) : more s [] = s := rfl

theorem bits8_get (c : UInt8) (k : Nat) (h : k < 8) : (bits8 c)[k]? = some (c.toNat.testBit (7 - k)) := by
  match k, h with
  | 0, _ | 1, _ | 2, _ | 3, _ | 4, _ | 5, _ | 6, _ | 7, _ => rfl
theorem bitsOf_get (l : List UInt8) (j : Nat) : (bitsOf l)[j]? = l[j / 8]?.map fun c => c.toNat.testBit (7 - j % 8) := by
  induction l generalizing j with
  | nil => simp [bitsOf]
  | cons c t ih =>
    change (bits8 c ++ bitsOf t)[j]? = _
    by_cases h : j < 8
    · rw [List.getElem?_append_left (by rw [bits8_length]; exact h), bits8_get c j h, Nat.div_eq_of_lt h, Nat.mod_eq_of_lt h]; rfl
    · rw [List.getElem?_append_right (by rw [bits8_length]; omega), bits8_length, ih, show j / 8 = (j - 8) / 8 + 1 by omega, show j % 8 = (j - 8) % 8 by omega]; rfl

theorem xor_bits (a b : UInt8) : bits8 (a ^^^ b) = List.zipWith (· ^^ ·) (bits8 a) (bits8 b) := by
  simp only [bits8, List.zipWith_cons_cons, List.zipWith_nil_left, UInt8.toNat_xor, Nat.testBit_xor]
theorem bitsOf_xor : ∀ (a b : List UInt8), bitsOf (List.zipWith (· ^^^ ·) a b) = List.zipWith (· ^^ ·) (bitsOf a) (bitsOf b) 
  | [], _ => by simp [bitsOf]
  | x :: a, [] => by simp [bitsOf]
  | x :: a, y :: b => by
    rw [List.zipWith_cons_cons]
    change bits8 (x ^^^ y) ++ bitsOf _ = List.zipWith _ (bits8 x ++ bitsOf a) (bits8 y ++ bitsOf b)
    rw [List.zipWith_append (by rfl), xor_bits, bitsOf_xor a b]
theorem more_xor (s t : BitVec 32) (a b : List UInt8) (h : a.length = b.length) : more (s ^^^ t) (List.zipWith (· ^^^ ·) a b) = more s a ^^^ more t b := by
  unfold more
  rw [bitsOf_xor, feed_xor _ _ _ _ (by rw [bitsOf_length, bitsOf_length, h])]

/-! ### A sum as four bytes -/

/-- A sum's bytes, the greatest first. -/
def be4 (s : BitVec 32) : List UInt8 := [UInt8.ofNat (s.toNat / 16777216), UInt8.ofNat (s.toNat / 65536 % 256), UInt8.ofNat (s.toNat / 256 % 256), UInt8.ofNat (s.toNat % 256)]
theorem byte_bit (n k i : Nat) (h : k < 8) : (UInt8.ofNat (n / 2 ^ i % 256)).toNat.testBit k = n.testBit (i + k) := by
  rw [UInt8.toNat_ofNat', show (2 : Nat) ^ 8 = 256 by rfl, Nat.mod_mod, show (256 : Nat) = 2 ^ 8 by rfl, Nat.testBit_mod_two_pow, Nat.testBit_div_two_pow, Nat.add_comm]
  simp [h]
theorem be4_bits (s : BitVec 32) (i : Nat) (h : i < 32) : (bitsOf (be4 s)).getD i false = s.getMsbD i := by
  have hs := s.isLt
  have e : be4 s = [UInt8.ofNat (s.toNat / 2 ^ 24 % 256), UInt8.ofNat (s.toNat / 2 ^ 16 % 256), UInt8.ofNat (s.toNat / 2 ^ 8 % 256), UInt8.ofNat (s.toNat / 2 ^ 0 % 256)] := by
    unfold be4
    rw [Nat.mod_eq_of_lt (show s.toNat / 2 ^ 24 < 256 by omega)]
    simp
  rw [e, List.getD_eq_getElem?_getD, bitsOf_get, BitVec.getMsbD_eq_getLsbD]
  have hm : i % 8 < 8 := Nat.mod_lt _ (by omega)
  have hq : i / 8 = 0 ∨ i / 8 = 1 ∨ i / 8 = 2 ∨ i / 8 = 3 := by omega
  have h2 : decide (i < 32) = true := decide_eq_true h
  rw [h2, Bool.true_and]
  unfold BitVec.getLsbD
  rcases hq with q | q | q | q <;> rw [q] <;> simp only [List.getElem?_cons_zero, List.getElem?_cons_succ, Option.map_some, Option.getD_some] <;> rw [byte_bit _ _ _ (by omega)] <;> congr 1 <;> omega
/-- A sum with bytes behind it comes to 0 just where these are the sum. -/
theorem more_four (s : BitVec 32) (t : List UInt8) (h : t.length = 4) : more s t = 0#32 ↔ t = be4 s := by
  unfold more
  rw [feed_zero _ _ (by rw [bitsOf_length, h]; exact Nat.le_refl 32)]
  constructor
  · intro hh
    refine List.ext_getElem? fun k => ?_
    by_cases hk : k < 4
    · have ht : ∃ c, t[k]? = some c := ⟨_, List.getElem?_eq_getElem (by omega)⟩
      have hb : ∃ c, (be4 s)[k]? = some c := ⟨_, List.getElem?_eq_getElem (show k < (be4 s).length from hk)⟩
      obtain ⟨c, hc⟩ := ht
      obtain ⟨d, hd⟩ := hb
      rw [hc, hd]
      congr 1
      refine UInt8.toNat_inj.1 (Nat.eq_of_testBit_eq fun j => ?_)
      by_cases hj : j < 8
      · have h1 := hh (8 * k + (7 - j)) (by omega)
        rw [← be4_bits s _ (by omega), List.getD_eq_getElem?_getD, List.getD_eq_getElem?_getD, bitsOf_get, bitsOf_get, show (8 * k + (7 - j)) / 8 = k by omega, show 7 - (8 * k + (7 - j)) % 8 = j by omega, hc, hd] at h1
        simpa using h1.symm
      · have e1 := c.toNat_lt
        have e2 := d.toNat_lt
        have : 2 ^ 8 ≤ 2 ^ j := Nat.pow_le_pow_right (by decide) (by omega)
        rw [Nat.testBit_lt_two_pow (by omega), Nat.testBit_lt_two_pow (by omega)]
    · rw [List.getElem?_eq_none (by omega), List.getElem?_eq_none (show (be4 s).length ≤ k by change 4 ≤ k; omega)]
  · rintro rfl i hi
    exact (be4_bits s i hi).symm

/-! ### What is sealed -/

def sumOf (l : List UInt8) : BitVec 32 := more 0xFFFFFFFF#32 l
def sealed (l : List UInt8) : List UInt8 := l ++ be4 (sumOf l)
theorem sealed_zero (l : List UInt8) : sumOf (sealed l) = 0#32 := by
  unfold sumOf sealed
  rw [more_append]
  exact (more_four _ _ rfl).2 rfl
/-- What is opened, and only that, comes to 0. -/
theorem opens_zero (l : List UInt8) (h : 4 ≤ l.length) : sealed (l.take (l.length - 4)) = l ↔ sumOf l = 0#32 := by
  have e := List.take_append_drop (l.length - 4) l
  have h4 : (l.drop (l.length - 4)).length = 4 := by rw [List.length_drop]; omega
  have e2 : sumOf l = more (sumOf (l.take (l.length - 4))) (l.drop (l.length - 4)) := by
    unfold sumOf
    rw [← more_append, e]
  rw [e2, more_four _ _ h4]
  unfold sealed
  constructor
  · intro hh
    rw [← e] at hh
    have := List.append_inj_right hh (by rw [e])
    rw [e] at this
    exact this.symm
  · intro hh
    rw [← hh, e]

/-! ### In numbers -/

/-- A sum behind one bit more, in numbers. -/
def stN (n b : Nat) : Nat := if n / 2147483648 = b then n * 2 % 4294967296 else (n * 2 % 4294967296) ^^^ 2168537515
theorem stN_eq (s : BitVec 32) (b : Bool) : stN s.toNat b.toNat = (stp s b).toNat := by
  have hs := s.isLt
  have hm : s.msb.toNat = s.toNat / 2147483648 := by
    rw [BitVec.msb_eq_decide]
    by_cases h : 2147483648 ≤ s.toNat
    · rw [decide_eq_true (by simpa using h)]; simp; omega
    · rw [decide_eq_false (by simpa using h)]; simp; omega
  have h2 : (s <<< 1).toNat = s.toNat * 2 % 4294967296 := by
    rw [BitVec.toNat_shiftLeft, Nat.shiftLeft_eq]
  unfold stN stp
  rw [← hm]
  by_cases h : s.msb = b
  · rw [if_pos (by rw [h]), if_neg (by simp [h]), h2]
  · rw [if_neg (by intro hh; exact h (by revert hh; cases s.msb <;> cases b <;> simp)), if_pos (by simp [h]), BitVec.toNat_xor, h2]
    rfl

end Go.Proofs.Ytoagpaphghgkmaa

/-
  Pages: a store as a list of pages, each free or bytes. No program.
-/
namespace Go.Proofs.Ytoagpaphghgkmaa
open Go.RowKit

def zeros (n : Nat) : List UInt8 := List.replicate n 0
/-- A page's number, as it lies there. -/
def id4 (id : Nat) : List UInt8 := [UInt8.ofNat (id / 16777216), UInt8.ofNat (id / 65536), UInt8.ofNat (id / 256), UInt8.ofNat id]
def fill (b : List UInt8) : List UInt8 := b ++ zeros (56 - b.length)
/-- A page's bytes. -/
def layP (id : Nat) (b : List UInt8) : List UInt8 := sealed (fill b ++ id4 id)

theorem fill_length (b : List UInt8) (h : b.length ≤ 56) : (fill b).length = 56 := by
  unfold fill zeros
  rw [List.length_append, List.length_replicate]
  omega
theorem layP_length (id : Nat) (b : List UInt8) (h : b.length ≤ 56) : (layP id b).length = 64 := by
  unfold layP sealed be4 id4
  rw [List.length_append, List.length_append, fill_length b h]
  rfl
theorem layP_take (id : Nat) (b : List UInt8) (h : b.length ≤ 56) : (layP id b).take 56 = fill b := by
  unfold layP sealed
  rw [List.append_assoc, List.take_append_of_le_length (by rw [fill_length b h]; exact Nat.le_refl _), List.take_of_length_le (by rw [fill_length b h]; exact Nat.le_refl _)]
theorem fill_full (b : List UInt8) (h : b.length = 56) : fill b = b := by
  unfold fill zeros
  rw [h]
  simp

/-- A store: of each page that it is free, or its bytes. -/
abbrev St := List (Option (List UInt8))
def usedS (s : St) : Nat := s.countP Option.isSome
/-- A page that is not free. -/
def pageS (s : St) (id : Int) : Option (List UInt8) := if 0 ≤ id then (s[id.toNat]?).join else none
/-- The first n free pages, from number i on, taken. -/
def takeS (i : Nat) : Nat → St → List Nat × St
  | 0, s => ([], s)
  | _ + 1, [] => ([], [])
  | n + 1, none :: t => (i :: (takeS (i + 1) n t).1, some (layP i []) :: (takeS (i + 1) n t).2)
  | n + 1, some p :: t => ((takeS (i + 1) (n + 1) t).1, some p :: (takeS (i + 1) (n + 1) t).2)

def allocS (s : St) (n : Int) : (List Nat × Int) × St :=
  if n < 0 then (([], 1), s) else if ((s.length : Int) - usedS s) < n then (([], 4), s) else (((takeS 0 n.toNat s).1, 0), (takeS 0 n.toNat s).2)
def setS (s : St) (id : Int) (p : Option (List UInt8)) : St := s.set id.toNat p
def freeS (s : St) (id : Int) : Int × St := match pageS s id with | none => (2, s) | some _ => (0, setS s id none)
def writeS (s : St) (id : Int) (b : List UInt8) : Int × St :=
  match pageS s id with
  | none => (2, s)
  | some _ => if 56 < b.length then (3, s) else (0, setS s id (some (layP id.toNat b)))
def readS (s : St) (id : Int) : List UInt8 × Int :=
  match pageS s id with
  | none => ([], 2)
  | some p => if layP id.toNat (p.take 56) = p then (p.take 56, 0) else ([], 6)
def rawS (s : St) (id : Int) : List UInt8 × Int := match pageS s id with | none => ([], 2) | some p => (p, 0)
/-- A byte turned. -/
def turnB (p : List UInt8) (k : Nat) (m : UInt8) : List UInt8 := p.set k (p.getD k 0 ^^^ m)
def flipS (s : St) (id k : Int) (m : UInt8) : St :=
  match pageS s id with
  | none => s
  | some p => if 0 ≤ k ∧ k < 64 then setS s id (some (turnB p k.toNat m)) else s
def needS (n : Int) : Int := if n < 1 then 0 else (n - 1) / 56 + 1
/-- Bytes onto pages, 56 to each. -/
def writesS : List Nat → List UInt8 → St → St
  | [], _, s => s
  | id :: t, b, s => writesS t (b.drop 56) (s.set id (some (layP id (b.take 56))))
def putS (s : St) (b : List UInt8) : (List Nat × Int) × St :=
  if (allocS s (needS b.length)).1.2 = 0 then (((allocS s (needS b.length)).1.1, 0), writesS (allocS s (needS b.length)).1.1 b (allocS s (needS b.length)).2)
  else (([], (allocS s (needS b.length)).1.2), s)
/-- What pages hold, one behind the other, or the first error. -/
def readsS (s : St) : List Int → List UInt8 × Int
  | [] => ([], 0)
  | id :: t => if (readS s id).2 = 0 then (if (readsS s t).2 = 0 then ((readS s id).1 ++ (readsS s t).1, 0) else ([], (readsS s t).2)) else ([], (readS s id).2)
def getS (s : St) (ids : List Int) (n : Int) : List UInt8 × Int :=
  if n < 0 ∨ (ids.length : Int) ≠ needS n then ([], 1)
  else if (readsS s ids).2 ≠ 0 then ([], (readsS s ids).2)
  else if ((readsS s ids).1.drop n.toNat).all (· == 0) = true then ((readsS s ids).1.take n.toNat, 0) else ([], 6)
def dropS (s : St) : List Int → St
  | [] => s
  | id :: t => dropS (freeS s id).2 t

/-- Each page that is not free has its bytes. -/
def okS (s : St) : Prop := s.length ≤ 4096 ∧ ∀ p, some p ∈ s → p.length = 64

theorem pageS_mem {s : St} {id : Int} {p : List UInt8} (h : pageS s id = some p) : some p ∈ s := by
  unfold pageS at h
  split at h
  · cases hg : s[id.toNat]? with
    | none => rw [hg] at h; cases h
    | some q =>
      rw [hg] at h
      simp only [Option.join_some] at h
      subst h
      exact List.mem_of_getElem? hg
  · cases h
theorem pageS_lt {s : St} {id : Int} {p : List UInt8} (h : pageS s id = some p) : 0 ≤ id ∧ id < s.length ∧ s[id.toNat]? = some (some p) := by
  unfold pageS at h
  split at h
  · rename_i h0
    cases hg : s[id.toNat]? with
    | none => rw [hg] at h; cases h
    | some q =>
      rw [hg] at h
      simp only [Option.join_some] at h
      subst h
      have := (List.getElem?_eq_some_iff.1 hg).1
      exact ⟨h0, by omega, rfl⟩
  · cases h
theorem okS.set {s : St} (h : okS s) (i : Nat) (p : Option (List UInt8)) (hp : ∀ q, p = some q → q.length = 64) : okS (s.set i p) := by
  refine ⟨by rw [List.length_set]; exact h.1, fun q hq => ?_⟩
  rcases List.mem_or_eq_of_mem_set hq with h1 | h1
  · exact h.2 q h1
  · exact hp q h1.symm
theorem takeS_length : ∀ (n i : Nat) (s : St), (takeS i n s).2.length = s.length
  | 0, _, _ => by simp only [takeS]
  | _ + 1, _, [] => rfl
  | n + 1, i, none :: t => by simp only [takeS, List.length_cons, takeS_length n (i + 1) t]
  | n + 1, i, some _ :: t => by simp only [takeS, List.length_cons, takeS_length (n + 1) (i + 1) t]
theorem takeS_ok : ∀ (n i : Nat) (s : St), (∀ p, some p ∈ s → p.length = 64) → ∀ p, some p ∈ (takeS i n s).2 → p.length = 64
  | 0, _, _, h, p, hp => by
    simp only [takeS] at hp
    exact h p hp
  | _ + 1, _, [], _, p, hp => by cases hp
  | n + 1, i, none :: t, h, p, hp => by
    simp only [takeS, List.mem_cons, Option.some.injEq] at hp
    rcases hp with rfl | hp
    · exact layP_length i [] (by simp)
    · exact takeS_ok n (i + 1) t (fun q hq => h q (.tail _ hq)) p hp
  | n + 1, i, some q :: t, h, p, hp => by
    simp only [takeS, List.mem_cons, Option.some.injEq] at hp
    rcases hp with rfl | hp
    · exact h p (.head _)
    · exact takeS_ok (n + 1) (i + 1) t (fun q hq => h q (.tail _ hq)) p hp
theorem allocS_ok {s : St} (h : okS s) (n : Int) : okS (allocS s n).2 := by
  unfold allocS
  split
  · exact h
  · split
    · exact h
    · exact ⟨by rw [takeS_length]; exact h.1, takeS_ok _ _ s h.2⟩
theorem freeS_ok {s : St} (h : okS s) (id : Int) : okS (freeS s id).2 := by
  unfold freeS
  split
  · exact h
  · exact h.set _ _ (fun q hq => by cases hq)
theorem writeS_ok {s : St} (h : okS s) (id : Int) (b : List UInt8) : okS (writeS s id b).2 := by
  unfold writeS
  split
  · exact h
  · split
    · exact h
    · exact h.set _ _ (fun q hq => by cases hq; exact layP_length _ b (by omega))
theorem flipS_ok {s : St} (h : okS s) (id k : Int) (m : UInt8) : okS (flipS s id k m) := by
  unfold flipS
  split
  · exact h
  · rename_i p hp
    split
    · exact h.set _ _ (fun q hq => by cases hq; unfold turnB; rw [List.length_set]; exact h.2 p (pageS_mem hp))
    · exact h
theorem writesS_ok : ∀ (ids : List Nat) (b : List UInt8) (s : St), okS s → okS (writesS ids b s)
  | [], _, _, h => h
  | id :: t, b, s, h => writesS_ok t _ _ (h.set _ _ (fun q hq => by cases hq; exact layP_length _ _ (by rw [List.length_take]; omega)))
theorem putS_ok {s : St} (h : okS s) (b : List UInt8) : okS (putS s b).2 := by
  unfold putS
  split
  · exact writesS_ok _ _ _ (allocS_ok h _)
  · exact h
theorem dropS_ok : ∀ (ids : List Int) (s : St), okS s → okS (dropS s ids)
  | [], _, h => h
  | id :: t, _, h => dropS_ok t _ (freeS_ok h id)

end Go.Proofs.Ytoagpaphghgkmaa

/-
  Words on slices of bytes and of numbers, as values of the model, that hold over any program: what a slice value reads as, and that it goes on reading so while old blocks stay as they are.
-/
namespace Go.Proofs.Ytoagpaphghgkmaa
open Go.RowKit

/-- A byte as a value. -/
def bv (c : UInt8) : Value := .int .u8 (c.toNat : Int)

/-- The slice value v (nil, or leading to cells) has these values as its elements (cells of one value each). -/
def RdV (w : World) (v : Value) (xs : List Value) : Prop :=
  (v = .slice none 0 0 ∧ xs = []) ∨
  ∃ x cap, v = .slice (some x) xs.length cap ∧ xs.length ≤ cap ∧ cap ≤ maxLen ∧ ∀ i u, xs[i]? = some u → w.cell? (x.add i) = some u

/-- The slice value v reads as these bytes. -/
def Rd (w : World) (v : Value) (l : List UInt8) : Prop := RdV w v (l.map bv)

theorem lt_of_cell {w : World} {a : Addr} {u : Value} (h : w.cell? a = some u) : a.block < w.heap.size := World.block_lt_of_cell? w a h

theorem RdV.mono {w w' : World} {v : Value} {xs : List Value} (h : RdV w v xs) (hb : Below w.heap.size w w') : RdV w' v xs := by
  rcases h with h | ⟨x, cap, h1, h2, h3, h4⟩
  · exact .inl h
  · refine .inr ⟨x, cap, h1, h2, h3, fun i u hu => ?_⟩
    have hc := h4 i u hu
    exact (hb.cell (lt_of_cell hc)).trans hc

theorem Rd.mono {w w' : World} {v : Value} {l : List UInt8} (h : Rd w v l) (hb : Below w.heap.size w w') : Rd w' v l := RdV.mono h hb

theorem RdV.nil (w : World) : RdV w (.slice none 0 0) [] := .inl ⟨rfl, rfl⟩
theorem Rd.nil (w : World) : Rd w (.slice none 0 0) [] := .inl ⟨rfl, rfl⟩

theorem add_zero (x : Addr) : x.add 0 = x := by unfold Addr.add; simp

/-- Where there is a cell the address is plain. -/
theorem plain_of {w : World} {x : Addr} {u : Value} (h : w.cell? x = some u) : ∃ b off, x = ⟨b, off, none⟩ ∧ b < w.heap.size := by
  obtain ⟨b, off, spot⟩ := x
  have hspot : spot = none := World.cell?_spot h
  subst hspot
  exact ⟨b, off, rfl, lt_of_cell h⟩

theorem add_at (b off i : Nat) : (⟨b, off, none⟩ : Addr).add i = ⟨b, off + i, none⟩ := by unfold Addr.add; split <;> simp_all

theorem RdV.of_owns {w : World} {base : Nat} {e : TypeId} {v : Value} {n : Nat} {xs : List Value} (h : w.ownsRow base e 1 v n xs) : RdV w v xs := by
  have hl : xs.length = n := by simpa using h.1
  have hc := fun g hg => h.cells (g := g) hg
  rcases h.2 with ⟨rfl, rfl⟩ | ⟨g, cap, cur, rfl, h1, h2, h3, h4, h5, h6⟩
  · have : xs = [] := List.length_eq_zero_iff.1 hl
    subst this
    exact RdV.nil w
  · exact .inr ⟨_, cap, by rw [hl], by omega, h4, fun i u hu => hc g rfl i u hu⟩

theorem RdV.takes {w : World} {x : Addr} {cap : Nat} {xs : List Value} (h2 : xs.length ≤ cap) (h3 : cap ≤ maxLen) (h4 : ∀ i u, xs[i]? = some u → w.cell? (x.add i) = some u) (n m : Nat) (hn : m = min n xs.length) : RdV w (.slice (some x) m cap) (xs.take n) := by
  subst hn
  refine .inr ⟨x, cap, by rw [List.length_take], by rw [List.length_take]; omega, h3, fun i u hu => h4 i u ?_⟩
  rw [List.getElem?_take] at hu
  split at hu
  · exact hu
  · cases hu

theorem Rd.shape {w : World} {v : Value} {l : List UInt8} (h : Rd w v l) : ∃ a cap, v = .slice a l.length cap ∧ l.length ≤ cap ∧ cap ≤ maxLen := by
  rcases h with ⟨rfl, h1⟩ | ⟨x, cap, rfl, h2, h3, _⟩
  · have : l = [] := by simpa using h1
    subst this
    exact ⟨none, 0, rfl, Nat.le_refl _, by simp [maxLen]⟩
  · rw [List.length_map] at *
    exact ⟨_, cap, rfl, h2, h3⟩
theorem add_block (x : Addr) (n : Nat) : (x.add n).block = x.block := by unfold Addr.add; split <;> rfl

theorem bv_oneCell (l : List UInt8) : ∀ u ∈ l.map bv, u.oneCell' = true := by
  intro u hu
  obtain ⟨c, _, rfl⟩ := List.mem_map.1 hu
  rfl

theorem strOfNums_bv (l : List UInt8) : strOfNums (l.map fun c => (c.toNat : Int)) = ⟨l.toArray⟩ := by
  have h : (l.map fun c => (c.toNat : Int)).map (fun n => UInt8.ofNat n.toNat) = l := by
    rw [List.map_map]
    conv => rhs; rw [← List.map_id l]
    apply List.map_congr_left
    intro c _
    simp
  unfold strOfNums
  rw [h]

/-- string(b). -/
theorem Rd.string {P : Program} {w : World} {v : Value} {l : List UInt8} (h : Rd w v l) (src dst e : TypeId) (hs : P.underlying src = some (.slice e)) (he : P.underlying e = some (.int .u8)) (hd : P.underlying dst = some .string) :
    (convert src dst v).run P w = .ok (.string ⟨l.toArray⟩) w := by
  rcases h with ⟨rfl, h1⟩ | ⟨x, cap, rfl, h2, h3, h4⟩
  · have : l = [] := by simpa using h1
    subst this
    rw [run_convert_bytes_nil (P := P) w src e hs he _ _ dst hd]; rfl
  · have hl : (loadCells x (l.map bv).length).run P w = .ok (((l.map fun c => (c.toNat : Int)).map (Value.int .u8)).toArray) w := by
      have := run_loadCells_list (P := P) w x (l.map bv) h4
      rw [this]
      simp [bv]
    rw [run_convert_bytes_string w src dst e _ _ _ hs he hd, run_bytesToString w x _ cap _ hl, foldl_push_bytes]
    have := strOfNums_bv l
    unfold strOfNums at this
    simp only [ByteArray.mk.injEq] at this
    rw [this]
    simp [ByteArray.empty, ByteArray.emptyWithCapacity]
    rfl

theorem u64_or (a b : Nat) (ha : a < 18446744073709551616) (hb : b < 18446744073709551616) : bits BinOp.or IntKind.u64 (a : Int) (b : Int) = ((a ||| b : Nat) : Int) :=
  (bits_nat .u64 64 (by decide) (fun n h0 h1 => IntWalk.u64_in n ⟨h0, by omega⟩) a b ha hb).2
theorem u64_and (a b : Nat) (ha : a < 18446744073709551616) (hb : b < 18446744073709551616) : bits BinOp.and IntKind.u64 (a : Int) (b : Int) = ((a &&& b : Nat) : Int) :=
  (bits_nat .u64 64 (by decide) (fun n h0 h1 => IntWalk.u64_in n ⟨h0, by omega⟩) a b ha hb).1
/-- x times a power of two, or-ed with what is below that power: the sum. -/
theorem nat_or_low (X C i : Nat) (hC : C < 2 ^ i) : (X * 2 ^ i ||| C) = X * 2 ^ i + C := by
  have := Nat.shiftLeft_add_eq_or_of_lt hC X
  rw [Nat.shiftLeft_eq] at this
  exact this.symm
theorem cast_mul_pow (X i : Nat) : ((X : Int) * 2 ^ i) = ((X * 2 ^ i : Nat) : Int) := by rw [Int.natCast_mul, Int.natCast_pow]; rfl
theorem u64_or_low (x c : Int) (i : Nat) (h0 : 0 ≤ x) (hc0 : 0 ≤ c) (hc : c < 2 ^ i) (h1 : x * 2 ^ i + c < 18446744073709551616) : bits BinOp.or IntKind.u64 (x * 2 ^ i) c = x * 2 ^ i + c := by
  obtain ⟨X, rfl⟩ := Int.eq_ofNat_of_zero_le h0
  obtain ⟨C, rfl⟩ := Int.eq_ofNat_of_zero_le hc0
  have hC : C < 2 ^ i := by exact_mod_cast hc
  rw [cast_mul_pow] at h1 ⊢
  rw [u64_or _ _ (by omega) (by omega), nat_or_low X C i hC, Int.natCast_add]

/-- append of a slice (nil or not) to one of the call's own: cells of one value each. -/
theorem wpList_append_rd {P : Program} {w : World} {ops : Array Oper} {rest : List Oper} {o : Oper} {a : Act} {Q : Exit → Act → World → Prop} (hgd : o.guard = none) (s x : Operand) (t : TypeId)
    (ho : o.op = .call { callee := .builtin .append, args := #[s, x], argTypes := #[t, t] })
    (base : Nat) (e : TypeId) (i : TypeInfo) (z : Value) (bytes : Nat) (ht : P.underlying t = some (.slice e)) (hi : P.info? e = some i) (hz : i.zero = some z)
    (hsize : i.size = 1) (hby : i.bytes = bytes) (hzs : z.cells.size = 1)
    (v : Value) (n : Nat) (xs : List Value) (hs : a.eval s = v) (hown : w.ownsRow base e 1 v n xs)
    (u : Value) (news : List Value) (hx : a.eval x = u) (hu : RdV w u news) (h1 : ∀ u ∈ news, u.oneCell' = true)
    (h63 : n + news.length ≤ maxLen) (hbytes : (n + news.length) * bytes ≤ 140737488355328) (hbase : base ≤ w.heap.size)
    (h : ∀ v' w', w'.ownsRow base e 1 v' (n + news.length) (xs ++ news) → w.grownBy w' v.ownBlock → wpList P ops Q rest (a.put o.dst v') w') : wpList P ops Q (o :: rest) a w := by
  rcases hu with ⟨rfl, rfl⟩ | ⟨ad, cap, rfl, h2, h3, h4⟩
  · refine wpList_append_own_none hgd s x t ho base e i 1 ht hi v n xs hs hown hx ?_
    refine h v w ?_ ⟨rfl, rfl, rfl, Nat.le_refl _, fun _ _ _ => rfl⟩
    simpa using hown
  · exact wpList_append_own w hgd s x t ho base e i z 1 bytes ht hi hz hsize hby hzs (by decide) v n xs hs hown ad news.length cap news hx (by rw [Nat.mul_one]) h4 h1 h63 hbytes hbase fun v' w' a b _ => h v' w' a b

/-- []byte(s): a new row that reads as the string's bytes. -/
theorem bytes_of {P : Program} (w : World) (src dst e : TypeId) (s : ByteArray) (hs : P.underlying src = some .string) (hd : P.underlying dst = some (.slice e)) (he : P.underlying e = some (.int .u8)) (hm : s.size ≤ maxLen) :
    ∃ u w', (convert src dst (.string s)).run P w = .ok u w' ∧ Rd w' u s.data.toList ∧ Below w.heap.size w w' := by
  refine ⟨_, _, run_bytes_of_string w src dst e s hs hd he, ?_, ?_⟩
  · have hl : s.data.toList.length = s.size := Array.length_toList
    refine .inr ⟨⟨w.heap.size, 0, none⟩, grownCap w s.size 0 e, by rw [List.length_map, hl], by rw [List.length_map, hl]; exact grownCap_ge w _ _ _, grownCap_le_maxLen w _ _ _ hm, fun i u hu => ?_⟩
    rw [add_at, Nat.zero_add]
    rw [List.getElem?_map] at hu
    obtain ⟨c, hc, rfl⟩ := Option.map_eq_some_iff.1 hu
    have hi : i < s.data.size := by
      have := (List.getElem?_eq_some_iff.1 hc).1
      simpa using this
    show ((w.drew.alloc _).cell? ⟨w.drew.heap.size, i, none⟩) = _
    unfold World.cell?
    rw [heap_alloc_new]
    simp only [Option.isSome_none, Bool.false_eq_true, if_false, bytesRow]
    rw [Array.getElem?_append_left (by simpa using hi), Array.getElem?_map]
    have : s.data[i]? = some c := by rw [← Array.getElem?_toList]; exact hc
    rw [this]
    rfl
  · exact ((Below.refl _ w).drew).alloc (Nat.le_refl _) _

end Go.Proofs.Ytoagpaphghgkmaa

/-
  A statement that leaves its order open, walked once: operations that only read are taken as soon as they may come up; what stands between them (a call, a making of memory) comes up alone, and leaves what was there as it was. Over any program.
-/
namespace Go.Proofs.Ytoagpaphghgkmaa
open Go.RowKit

/-- A world that stands to w as R says. -/
structure Later (R : World → World → Prop) (w : World) where
  val : World
  ext : R w val

/-- What is kept from a world to a later one. -/
structure Keeps (R : World → World → Prop) : Prop where
  refl : ∀ w, R w w
  trans : ∀ a b c, R a b → R b c → R a c

/-- w' has all that w has, as w has it. -/
def Ext (w w' : World) : Prop := Below w.heap.size w w'
/-- Nothing is asked. -/
def Free (_ _ : World) : Prop := True

theorem ext_trans {a b c : World} (h : Below a.heap.size a b) (k : Below b.heap.size b c) : Below a.heap.size a c := h.trans (k.mono h.size)

theorem Ext.keeps : Keeps Ext := ⟨fun _ => Below.refl _ _, fun _ _ _ => ext_trans⟩
theorem Free.keeps : Keeps Free := ⟨fun _ => trivial, fun _ _ _ _ _ => trivial⟩

instance (w : World) : Inhabited (Later Ext w) := ⟨⟨w, Below.refl _ _⟩⟩
instance (w : World) : Inhabited (Later Free w) := ⟨⟨w, trivial⟩⟩

theorem Ext.drew (w : World) : Ext w w.drew := (Below.refl _ _).drew
theorem Ext.trans {a b c : World} (h : Ext a b) (k : Ext b c) : Ext a c := Ext.keeps.trans _ _ _ h k

/-- An operation that yields a value, if it comes through at all. -/
def calmOp : Op → Bool
  | .move _ | .assign _ | .pick .. | .load .. | .build .. | .nilCheck _ | .binOp .. | .unOp .. | .convert .. | .slice .. | .fieldAddr .. | .field .. | .indexAddr .. | .index .. | .extract .. | .makeInterface .. | .typeAssert .. | .lookup .. | .sliceToArrayPointer .. => true
  | .call c => match c.callee with | .builtin .len | .builtin .cap | .builtin .min | .builtin .max => true | _ => false
  | _ => false

theorem value_of_bind {P : Program} {s : Sem Value} {w w' : World} {n : Next} (h : (do pure (Next.value (← s)) : Sem Next).run P w = .ok n w') : ∃ v, n = .value v := by
  simp only [Sem.run_bind] at h
  cases hs : s.run P w with
  | ok a w1 => rw [hs] at h; simp [Result.andThen] at h; exact ⟨a, h.1.symm⟩
  | halt x w1 => rw [hs] at h; simp [Result.andThen] at h

theorem value_of_andThen {r : Result Value} {w' : World} {n : Next} (h : (r.andThen fun a w' => Result.ok (Next.value a) w') = .ok n w') : ∃ v, n = .value v := by
  cases r with
  | ok a w1 => simp [Result.andThen] at h; exact ⟨a, h.1.symm⟩
  | halt x w1 => simp [Result.andThen] at h

theorem nilDeref_not {P : Program} {w w' : World} {n : Next} (h : (runtimePanic .nilDeref : Sem Next).run P w = .ok n w') : False := by
  unfold runtimePanic at h
  simp [goPanic, go_sem] at h

theorem calm_value {P : Program} {ρ : Operand → Value} {o : Oper} {w w' : World} {n : Next} (hc : calmOp o.op = true) (h : (execOp ρ o).run P w = .ok n w') : ∃ v, n = .value v := by
  obtain ⟨dst, op, type, pos, after, guard⟩ := o
  cases op <;> simp only [calmOp, Bool.false_eq_true] at hc <;> simp only [execOp] at h
  case move => simp at h; exact ⟨_, h.1.symm⟩
  case assign => simp at h; exact ⟨_, h.1.symm⟩
  case pick c a b =>
    simp only [Sem.run_bind] at h
    cases hs : (asBool (ρ c)).run P w with
    | ok t w1 => rw [hs] at h; simp [Result.andThen] at h; exact ⟨_, h.1.symm⟩
    | halt x w1 => rw [hs] at h; simp [Result.andThen] at h
  case nilCheck x =>
    split at h
    · exact (nilDeref_not h).elim
    · exact (nilDeref_not h).elim
    · exact (nilDeref_not h).elim
    · split at h
      · exact (nilDeref_not h).elim
      · simp only [Sem.run_bind] at h
        simp [Result.andThen] at h
        split at h
        · split at h
          · simp at h; exact ⟨_, h.1.symm⟩
          · simp [go_sem] at h
        · cases h
      · simp at h; exact ⟨_, h.1.symm⟩
    · simp at h; exact ⟨_, h.1.symm⟩
  case call c =>
    obtain ⟨callee, args, argTypes⟩ := c
    cases callee with
    | builtin b => cases b <;> simp only [Bool.false_eq_true] at hc <;> (simp only [resolve, invoke, builtin, Sem.run_bind, Sem.run_pure, Result.andThen_ok] at h; exact value_of_andThen h)
    | _ => simp at hc
  all_goals exact value_of_bind h

/-- The operations of these numbers. -/
def pickOps (ops : Array Oper) (l : List Nat) : List Oper := l.map fun i => (ops[i]?).getD default

/-- A part of a plan: operations that only read, then one that may make memory. -/
def wpSegs (P : Program) (R : World → World → Prop) (ops : Array Oper) (Q : Exit → Act → World → Prop) : List (List Oper × Option Oper) → Act → World → Prop
  | [], a, w => Q .normal a w
  | (qs, none) :: rest, a, w => wpQuiet P ops (fun w' => ∃ p : Later R w, w' = p.val) (fun a' => wpSegs P R ops Q rest a' w) qs a
  | (qs, some o) :: rest, a, w => wpQuiet P ops (fun w' => ∃ p : Later R w, w' = p.val) (fun a' => wpList P ops (Exit.then (fun a'' w'' => R w w'' ∧ wpSegs P R ops Q rest a'' w'') Q) [o] a' w) qs a

def quietOk (ops : Array Oper) : List Nat → Array Bool → Bool
  | [], _ => true
  | i :: qs, listed => (Region.ready .any ops listed).contains i && Region.free .any ops listed i && ((ops[i]?).map fun o => calmOp o.op).getD false && quietOk ops qs (listed.setIfInBounds i true)

def marked : List Nat → Array Bool → Array Bool
  | [], listed => listed
  | i :: qs, listed => marked qs (listed.setIfInBounds i true)

def segsOk (ops : Array Oper) : List (List Nat × Option Nat) → Array Bool → Bool
  | [], listed => (Region.ready .any ops listed).isEmpty
  | (qs, none) :: rest, listed => quietOk ops qs listed && segsOk ops rest (marked qs listed)
  | (qs, some i) :: rest, listed => quietOk ops qs listed && (Region.ready .any ops (marked qs listed) == [i]) && segsOk ops rest ((marked qs listed).setIfInBounds i true)

def segsCount : List (List Nat × Option Nat) → Nat
  | [] => 0
  | (qs, none) :: rest => qs.length + segsCount rest
  | (qs, some _) :: rest => qs.length + (segsCount rest + 1)

def pickSegs (ops : Array Oper) (l : List (List Nat × Option Nat)) : List (List Oper × Option Oper) := l.map fun s => (pickOps ops s.1, s.2.map fun i => (ops[i]?).getD default)

section
variable {P : Program} {ops : Array Oper} {Q : Exit → Act → World → Prop} {R : World → World → Prop}

theorem wpAnyH_weaken {S S' : World → Prop} (h : ∀ w, S w → S' w) : ∀ (fuel : Nat) (listed : Array Bool) (a : Act) (w : World), wpAnyH P .any ops Q S fuel listed a w → wpAnyH P .any ops Q S' fuel listed a w
  | 0, _, _, _, hh => hh
  | fuel + 1, _, _, _, hh => ⟨hh.1, fun i hi => wpOp_mono (fun _ _ h' => ⟨h _ h'.1, wpAnyH_weaken h fuel _ _ _ h'.2⟩) (hh.2 i hi)⟩

theorem quietSeg (hR : Keeps R) (hs : Region.noSelect ops = true) (hQ : ∀ c (a : Act) (i : Nat) (o : Oper) v w, ops[i]? = some o → Q (.panic c) (a.put o.dst v) w → Q (.panic c) a w) {K : Act → Prop} {w : World} (fuel : Nat) :
    ∀ (qs : List Nat) (listed : Array Bool) (a : Act), quietOk ops qs listed = true → wpQuiet P ops (fun w' => ∃ p : Later R w, w' = p.val) K (pickOps ops qs) a →
      (∀ a', K a' → wpAnyH P .any ops Q (R w) fuel (marked qs listed) a' w) → wpAnyH P .any ops Q (R w) (qs.length + fuel) listed a w
  | [], listed, a, _, h, hk => by
    simp only [List.length_nil, Nat.zero_add]
    exact hk a h
  | i :: qs, listed, a, hok, h, hk => by
    simp only [quietOk, Bool.and_eq_true] at hok
    obtain ⟨⟨⟨hr, hf⟩, hc⟩, hrest⟩ := hok
    cases ho : ops[i]? with
    | none => simp [ho] at hc
    | some o =>
      simp only [ho, Option.map_some, Option.getD_some] at hc
      have hp : pickOps ops (i :: qs) = o :: pickOps ops qs := by simp [pickOps, ho]
      rw [hp] at h
      simp only [wpQuiet] at h
      rw [List.length_cons, Nat.add_right_comm]
      by_cases hw : Region.wanted o (yielded ops a.tmps) = true
      · rw [if_pos hw] at h
        obtain ⟨v, hv, hnext⟩ := h
        refine wpAnyH_take (v := v) ho hs hf hr (fun c a' w' hq => hQ c _ _ _ _ w' ho hq) (.inl ⟨hw, fun w' hw' => ?_⟩) (hR.refl _) (quietSeg hR hs hQ fuel qs _ _ hrest hnext hk)
        have hq := hv w' ⟨⟨w', hw'⟩, rfl⟩
        unfold Oper.quietAt at hq
        generalize hrun : (execOp a.eval o).run P w' = r at hq
        cases r with
        | ok n w1 =>
          obtain ⟨u, rfl⟩ := calm_value hc hrun
          simp only [Oper.quietUpon] at hq
          rw [hq.1, hq.2]
        | halt x w1 => simp only [Oper.quietUpon] at hq
      · rw [if_neg hw] at h
        exact wpAnyH_take (v := undef) ho hs hf hr (fun c a' w' hq => hQ c _ _ _ _ w' ho hq) (.inr ⟨by simpa using hw, rfl⟩) (hR.refl _) (quietSeg hR hs hQ fuel qs _ _ hrest h hk)

theorem wpOp_of_list {i : Nat} {o : Oper} {K : Act → World → Prop} {a : Act} {w : World} (ho : ops[i]? = some o) (h : wpList P ops (Exit.then K Q) [o] a w) : wpOp P ops Q i K a w := by
  unfold wpOp
  simp only [ho]
  simp only [wpList] at h
  split
  · rename_i hw
    rw [if_pos hw] at h
    rcases h with h | ⟨h1, h2⟩
    · refine .inl ?_
      unfold Oper.wp at *
      generalize (execOp a.eval o).run P w = r at *
      cases r with
      | ok n w' =>
        cases n <;> simp only [Oper.upon] at h ⊢ <;> first
          | exact h
          | exact Calls.mono h (fun e w'' he => by cases e <;> exact he)
          | exact Rows.mono h (fun _ _ he => he)
      | halt x w' => cases x <;> simp only [Oper.upon] at h ⊢ <;> exact h
    · exact .inr ⟨h1, h2⟩
  · rename_i hw
    rw [if_neg hw] at h
    exact h

theorem segs_sound (hR : Keeps R) (hs : Region.noSelect ops = true) (hQ : ∀ c (a : Act) (i : Nat) (o : Oper) v w, ops[i]? = some o → Q (.panic c) (a.put o.dst v) w → Q (.panic c) a w) :
    ∀ (segs : List (List Nat × Option Nat)) (listed : Array Bool) (a : Act) (w : World) (fuel : Nat), segsOk ops segs listed = true → wpSegs P R ops Q (pickSegs ops segs) a w →
      wpAnyH P .any ops Q (R w) (segsCount segs + fuel) listed a w
  | [], listed, a, w, fuel, hok, h => wpAnyH_done (by simpa [segsOk] using hok) h _
  | (qs, none) :: rest, listed, a, w, fuel, hok, h => by
    simp only [segsOk, Bool.and_eq_true] at hok
    rw [segsCount, Nat.add_assoc]
    exact quietSeg hR hs hQ _ qs listed a hok.1 h fun a' h' => segs_sound hR hs hQ rest _ _ _ fuel hok.2 h'
  | (qs, some i) :: rest, listed, a, w, fuel, hok, h => by
    simp only [segsOk, Bool.and_eq_true, beq_iff_eq] at hok
    obtain ⟨⟨h1, h2⟩, h3⟩ := hok
    have hi : ∃ o, ops[i]? = some o := by
      have : i ∈ Region.ready .any ops (marked qs listed) := by rw [h2]; simp
      obtain ⟨_, o, ho, _⟩ := mem_ready.1 this
      exact ⟨o, ho⟩
    obtain ⟨o, ho⟩ := hi
    have hp : pickSegs ops ((qs, some i) :: rest) = (pickOps ops qs, some o) :: pickSegs ops rest := by simp [pickSegs, ho]
    rw [hp] at h
    rw [segsCount, Nat.add_assoc, Nat.add_right_comm]
    refine quietSeg hR hs hQ _ qs listed a h1 h fun a' h' => wpAnyH_all h2 (by simp) fun j hj => ?_
    obtain rfl : j = i := by simpa using hj
    refine wpOp_mono (fun a'' w'' h'' => ⟨h''.1, ?_⟩) (wpOp_of_list ho h')
    exact wpAnyH_weaken (fun w3 h3' => hR.trans _ _ _ h''.1 h3') _ _ _ _ (segs_sound hR hs hQ rest _ _ _ fuel h3 h''.2)

/-- A region that draws its order, by a plan: R says what each call (and each making of memory) keeps. -/
theorem wp_region_segs {id : Nat} {a : Act} {w : World} {l : List Oper} (R : World → World → Prop) (hR : Keeps R) (segs : List (List Nat × Option Nat)) (hm : P.follows .mixedOrders = true)
    (hok : (Region.noSelect l.toArray && segsOk l.toArray segs (Array.replicate l.length false) && (segsCount segs == l.length)) = true)
    {Q : Exit → Act → World → Prop} (hQ : ∀ c (a a' : Act) w, a.defers = a'.defers → Q (.panic c) a w → Q (.panic c) a' w)
    (h : wpSegs P R l.toArray Q (pickSegs l.toArray segs) a w.drew) : (Code.region id l.toArray true).wp P Q a w := by
  simp only [Bool.and_eq_true, beq_iff_eq] at hok
  have := segs_sound (P := P) hR hok.1.1 (fun c a i o v w _ hq => hQ c _ a w (by cases o.dst <;> rfl) hq) segs (Array.replicate l.length false) a w.drew 0 hok.1.2 h
  rw [hok.2, Nat.add_zero] at this
  refine wp_region_held (S := R w.drew) hm ?_
  simpa using this

theorem wpSegs_nil {a : Act} {w : World} (h : Q .normal a w) : wpSegs P R ops Q [] a w := h
theorem wpSegs_none {qs : List Oper} {rest : List (List Oper × Option Oper)} {a : Act} {w : World}
    (h : wpQuiet P ops (fun w' => ∃ p : Later R w, w' = p.val) (fun a' => wpSegs P R ops Q rest a' w) qs a) : wpSegs P R ops Q ((qs, none) :: rest) a w := h
theorem wpSegs_some {qs : List Oper} {o : Oper} {rest : List (List Oper × Option Oper)} {a : Act} {w : World}
    (h : ∀ K : Act → World → Prop, (∀ a w, wpSegs P R ops Q rest a w → K a w) → wpQuiet P ops (fun w' => ∃ p : Later R w, w' = p.val) (fun a' => wpList P ops (Exit.then (fun a'' w'' => R w w'' ∧ K a'' w'') Q) [o] a' w) qs a) : wpSegs P R ops Q ((qs, some o) :: rest) a w :=
  h _ fun _ _ hh => hh

end

end Go.Proofs.Ytoagpaphghgkmaa

/-
  New rows of bytes: what a call hands back, what it owns, what stays as it was.
-/
namespace Go.Proofs.Ytoagpaphghgkmaa
open Go.RowKit

theorem Try.info5 : (Try.prog.info? 5).map (fun i => (i.zero, i.size, i.bytes)) = some (some (.int .u8 0), 1, 1) := by kernel_rfl

/-- What a call leaves that hands back a slice of its own. -/
def Fresh (e : TypeId) (w : World) (xs : List Value) (r : Ending) (w' : World) : Prop :=
  ∃ v, r = .returned v ∧ w'.ownsRow w.heap.size e 1 v xs.length xs ∧ Below w.heap.size w w'

theorem kept_cells {w w' : World} (hg : w.grownBy w' none) {x : Addr} {xs : List Value} (h : ∀ i u, xs[i]? = some u → w.cell? (x.add i) = some u) : ∀ i u, xs[i]? = some u → w'.cell? (x.add i) = some u :=
  fun i u hu => hg.cell (h i u hu) (by simp)

/-- append([]byte{}, b...): what stands ahead of every encoding of the reference. -/
theorem empty_owned (w : World) : (w.alloc (.cells #[] 5)).ownsRow w.heap.size 5 1 (.slice (some ⟨w.heap.size, 0, none⟩) 0 0) 0 [] := World.ownsRow_made w #[] 0 (Nat.le_refl _) (by simp [maxLen]) rfl

/-- A new block of one cell is the call's own. -/
theorem one_owned (w : World) (base : Nat) (x : Value) (hb : base ≤ w.heap.size) : (w.alloc (.cells #[x] 5)).ownsRow base 5 1 (.slice (some ⟨w.heap.size, 0, none⟩) 1 1) 1 [x] :=
  ⟨rfl, .inr ⟨w.heap.size, 1, #[x], rfl, hb, heap_alloc_new w _, Nat.le_refl _, by simp [maxLen], rfl, rfl⟩⟩

/-- What reads from elsewhere goes on so while the call's own row grows. -/
theorem kept_owned {w w4 : World} {o : Obj} {v u : Value} {l : List UInt8} (hg : (w.alloc o).grownBy w4 v.ownBlock) (hd : ∀ k, u.ownBlock = some k → v.ownBlock ≠ some k) (hr : Rd w u l) : Rd w4 u l := by
  rcases hr with h | ⟨x, cap, rfl, h2, h3, h4⟩
  · exact .inl h
  · refine .inr ⟨x, cap, rfl, h2, h3, fun i y hy => ?_⟩
    have hc := h4 i y hy
    have hc' : (w.alloc o).cell? (x.add i) = some y := by
      rw [(((Below.refl _ w).alloc (Nat.le_refl _) o).cell (lt_of_cell hc))]; exact hc
    refine hg.cell hc' (fun hh => ?_)
    rw [add_block] at hh
    exact hd x.block rfl hh.symm

/-- A row of bytes of the call's own, whatever they are. -/
def OwnB (base : Nat) (w : World) (v : Value) (n : Nat) : Prop := ∃ xs, w.ownsRow base 5 1 v n xs ∧ ∀ u ∈ xs, ∃ z : Int, u = .int .u8 z

theorem OwnB.of_bytes {base : Nat} {w : World} {v : Value} {n : Nat} {l : List UInt8} (h : w.ownsRow base 5 1 v n (l.map bv)) : OwnB base w v n :=
  ⟨_, h, fun u hu => by obtain ⟨c, _, rfl⟩ := List.mem_map.1 hu; exact ⟨_, rfl⟩⟩

theorem owns_later {base : Nat} {e : TypeId} {w w' : World} {v : Value} {n : Nat} {xs : List Value} (h : w.ownsRow base e 1 v n xs) (hb : Below w.heap.size w w') : w'.ownsRow base e 1 v n xs :=
  h.kept (row := none) ⟨hb.os, hb.tape, hb.output, hb.size, fun k hk _ => hb.block k hk⟩ (by cases v.ownBlock <;> simp)

theorem OwnB.at {base g n cap i : Nat} {w : World} (h : OwnB base w (.slice (some ⟨g, 0, none⟩) n cap) n) (hi : i < n) : ∃ z : Int, w.cell? ⟨g, i, none⟩ = some (.int .u8 z) := by
  obtain ⟨xs, ho, hx⟩ := h
  have hl : xs.length = n := by simpa using ho.1
  have hc := ho.cellAt i (by omega)
  rw [List.getElem?_eq_getElem (by omega)] at hc
  obtain ⟨z, hz⟩ := hx _ (List.getElem_mem (show i < xs.length by omega))
  exact ⟨z, by rw [hc, hz]⟩

theorem OwnB.free {base g n cap : Nat} {w : World} (h : OwnB base w (.slice (some ⟨g, 0, none⟩) n cap) n) (i : Nat) : w.frozen? ⟨g, i, none⟩ = false := h.choose_spec.1.frozenAt i

theorem OwnB.put {base g n cap : Nat} {w : World} (h : OwnB base w (.slice (some ⟨g, 0, none⟩) n cap) n) (i : Nat) (z : Int) : OwnB base (w.setCell ⟨g, i, none⟩ (.int .u8 z)) (.slice (some ⟨g, 0, none⟩) n cap) n := by
  obtain ⟨xs, ho, hx⟩ := h
  refine ⟨_, (ho.stored i _).1, fun u hu => ?_⟩
  rcases List.mem_or_eq_of_mem_set hu with h | rfl
  · exact hx u h
  · exact ⟨z, rfl⟩

theorem OwnB.other {base g i n : Nat} {w : World} {v u : Value} (h : OwnB base w v n) (hd : v.ownBlock ≠ some g) (_hg : g < w.heap.size) : OwnB base (w.setCell ⟨g, i, none⟩ u) v n := by
  obtain ⟨xs, ho, hx⟩ := h
  exact ⟨xs, ho.kept (row := some g) ⟨rfl, rfl, rfl, by simp [World.setCell], fun k _ hk => Below.heap_setCell _ _ _ _ (fun e => hk (by rw [e]))⟩ (.inr hd), hx⟩

theorem OwnB.lt {base g n cap m : Nat} {w : World} (h : OwnB base w (.slice (some ⟨g, 0, none⟩) n cap) m) : base ≤ g ∧ g < w.heap.size := h.choose_spec.1.lt g rfl

theorem OwnB.base {b b' n : Nat} {w : World} {v : Value} (h : OwnB b w v n) (hb : b' ≤ b) : OwnB b' w v n := by
  obtain ⟨xs, ho, hx⟩ := h
  refine ⟨xs, ⟨ho.1, ?_⟩, hx⟩
  rcases ho.2 with h | ⟨g, cap, cur, h1, h2, h3⟩
  · exact .inl h
  · exact .inr ⟨g, cap, cur, h1, by omega, h3⟩

theorem owns_shape {base : Nat} {e : TypeId} {w : World} {v : Value} {n : Nat} {xs : List Value} (h : w.ownsRow base e 1 v n xs) (hn : 0 < n) : ∃ g cap, v = .slice (some ⟨g, 0, none⟩) n cap ∧ base ≤ g ∧ g < w.heap.size ∧ n ≤ cap ∧ cap ≤ maxLen := by
  rcases h.2 with ⟨_, h0⟩ | ⟨g, cap, cur, rfl, hb, hg, h1, h2, _⟩
  · omega
  · exact ⟨g, cap, rfl, hb, (Array.getElem?_eq_some_iff.1 hg).1, h1, h2⟩

/-- A slice as its cells, nil or not. -/
theorem RdV.cellsAt {w : World} {v : Value} {xs : List Value} (h : RdV w v xs) :
    ∃ ao cap, v = .slice ao xs.length cap ∧ xs.length ≤ cap ∧ cap ≤ maxLen ∧ ∀ i u, xs[i]? = some u → ∃ x, ao = some x ∧ w.cell? (x.add i) = some u := by
  rcases h with ⟨rfl, rfl⟩ | ⟨x, cap, rfl, h2, h3, h4⟩
  · exact ⟨none, 0, rfl, Nat.le_refl _, by simp [maxLen], fun i u hu => by simp at hu⟩
  · exact ⟨some x, cap, rfl, h2, h3, fun i u hu => ⟨x, rfl, h4 i u hu⟩⟩

/-- An operation whose guard holds is as without it. -/
theorem wpList_struck {P : Program} {ops : Array Oper} {Q : Exit → Act → World → Prop} {rest : List Oper} {o : Oper} {a : Act} {w : World} (hw : Region.wanted o (yielded ops a.tmps) = true)
    (h : wpList P ops Q ({ o with guard := none } :: rest) a w) : wpList P ops Q (o :: rest) a w := by
  unfold wpList at h ⊢
  rw [if_pos hw]
  rw [if_pos (by simp [Region.wanted])] at h
  exact h

theorem OwnB.start {base L cap k : Nat} {w : World} {a : Option Addr} (h : OwnB base w (.slice a L cap) L) (hk : k < L) : ∃ g, a = some ⟨g, 0, none⟩ := by
  obtain ⟨xs, ho, _⟩ := h
  obtain ⟨g, c, e, _⟩ := owns_shape ho (by omega)
  simp only [Value.slice.injEq] at e
  exact ⟨g, e.1⟩

theorem OwnB.later {base n : Nat} {w w' : World} {v : Value} (h : OwnB base w v n) (hb : Below w.heap.size w w') : OwnB base w' v n := by
  obtain ⟨xs, ho, hx⟩ := h
  exact ⟨xs, owns_later ho hb, hx⟩

end Go.Proofs.Ytoagpaphghgkmaa
