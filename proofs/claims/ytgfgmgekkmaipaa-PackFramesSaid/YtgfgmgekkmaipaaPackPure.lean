/-
  Numbers bit by bit: bytes as the digits of one great number. No program.
-/
import Derived.WalkKit
import Derived.Test.YtgfgmgekkmaipaaPure
namespace Go.Proofs.Ytgfgmgekkmaipaa
open Go.RowKit

/-- n bytes of a number, the least one first. -/
def le : Nat → Nat → List UInt8
  | 0, _ => []
  | n + 1, B => UInt8.ofNat (B % 256) :: le n (B / 256)
/-- The number whose bytes those are. -/
def ofLe : List UInt8 → Nat
  | [] => 0
  | c :: t => c.toNat + 256 * ofLe t

theorem le_length (n B : Nat) : (le n B).length = n := by
  induction n generalizing B with
  | zero => rfl
  | succ n ih => rw [le, List.length_cons, ih]
theorem le_get (n B k : Nat) (hk : k < n) : (le n B)[k]? = some (UInt8.ofNat (B / 256 ^ k % 256)) := by
  induction n generalizing B k with
  | zero => omega
  | succ n ih =>
    rw [le]
    cases k with
    | zero => simp
    | succ k =>
      rw [List.getElem?_cons_succ, ih _ _ (by omega), Nat.div_div_eq_div_mul, Nat.pow_succ, Nat.mul_comm 256]
theorem ofLe_lt (l : List UInt8) : ofLe l < 256 ^ l.length := by
  induction l with
  | nil => decide
  | cons c t ih =>
    have hc : c.toNat < 256 := UInt8.toNat_lt c
    rw [ofLe, List.length_cons, Nat.pow_succ]
    omega
theorem ofLe_le (n B : Nat) : ofLe (le n B) = B % 256 ^ n := by
  induction n generalizing B with
  | zero => rw [Nat.pow_zero, Nat.mod_one]; rfl
  | succ n ih =>
    have e : (UInt8.ofNat (B % 256)).toNat = B % 256 := by rw [UInt8.toNat_ofNat']; omega
    rw [le, ofLe, ih, e, Nat.pow_succ, Nat.mul_comm (256 ^ n), Nat.mod_mul]
theorem le_ofLe (l : List UInt8) : le l.length (ofLe l) = l := by
  induction l with
  | nil => rfl
  | cons c t ih =>
    have hc : c.toNat < 256 := UInt8.toNat_lt c
    rw [List.length_cons, le, ofLe]
    have e1 : (c.toNat + 256 * ofLe t) % 256 = c.toNat := by omega
    have e2 : (c.toNat + 256 * ofLe t) / 256 = ofLe t := by omega
    rw [e1, e2, ih, UInt8.ofNat_toNat]
theorem le_inj {n A B : Nat} (ha : A < 256 ^ n) (hb : B < 256 ^ n) (h : le n A = le n B) : A = B := by
  have h1 := ofLe_le n A
  have h2 := ofLe_le n B
  rw [h] at h1
  rw [h1, Nat.mod_eq_of_lt hb, Nat.mod_eq_of_lt ha] at h2
  exact h2
/-- A bit of the number, and of its byte. -/
theorem ofLe_bit (l : List UInt8) (k : Nat) (hk : k / 8 < l.length) : ofLe l / 2 ^ k % 2 = (l[k / 8]).toNat / 2 ^ (k % 8) % 2 := by
  induction l generalizing k with
  | nil => simp at hk
  | cons c t ih =>
    have hc : c.toNat < 256 := UInt8.toNat_lt c
    by_cases h8 : k < 8
    · have e : k / 8 = 0 := by omega
      have e2 : k % 8 = k := by omega
      simp only [e, e2, List.getElem_cons_zero]
      rw [ofLe]
      have h256 : 256 * ofLe t = 2 ^ k * (2 * (2 ^ (7 - k) * ofLe t)) := by
        rw [← Nat.mul_assoc, ← Nat.mul_assoc, Nat.mul_assoc (2 ^ k), ← Nat.pow_succ', ← Nat.pow_add, show k + (7 - k + 1) = 8 by omega]
      rw [h256, Nat.add_mul_div_left _ _ (Nat.two_pow_pos k), Nat.add_mul_mod_self_left]
    · obtain ⟨j, rfl⟩ : ∃ j, k = j + 8 := ⟨k - 8, by omega⟩
      have e : (j + 8) / 8 = j / 8 + 1 := by omega
      have e2 : (j + 8) % 8 = j % 8 := by omega
      simp only [e, e2, List.getElem_cons_succ]
      rw [← ih j (by rw [List.length_cons] at hk; omega), ofLe, Nat.pow_add, Nat.mul_comm (2 ^ j), ← Nat.div_div_eq_div_mul]
      congr 2
      show (c.toNat + 256 * ofLe t) / 256 = _
      omega
/-- A bit more: one byte changes. -/
theorem le_bit (n P k : Nat) (hP : P < 2 ^ k) (hk : k / 8 < n) :
    le n (P + 2 ^ k) = (le n P).set (k / 8) (UInt8.ofNat (P / 256 ^ (k / 8) % 256 + 2 ^ (k % 8))) ∧ P / 256 ^ (k / 8) % 256 + 2 ^ (k % 8) < 256 := by
  have hpow : 2 ^ k = 256 ^ (k / 8) * 2 ^ (k % 8) := by
    rw [show (256 : Nat) = 2 ^ 8 from rfl, ← Nat.pow_mul, ← Nat.pow_add]
    congr 1
    omega
  have hlt : P / 256 ^ (k / 8) < 2 ^ (k % 8) := by
    rw [Nat.div_lt_iff_lt_mul (Nat.pow_pos (by decide)), Nat.mul_comm, ← hpow]
    exact hP
  have h7 : 2 ^ (k % 8) ≤ 128 := by
    have : 2 ^ (k % 8) ≤ 2 ^ 7 := Nat.pow_le_pow_right (by decide) (by omega)
    simpa using this
  have hmod : P / 256 ^ (k / 8) % 256 = P / 256 ^ (k / 8) := Nat.mod_eq_of_lt (by omega)
  refine ⟨?_, by omega⟩
  apply List.ext_getElem?
  intro j
  by_cases hj : j < n
  · rw [le_get _ _ _ hj, List.getElem?_set, le_length]
    by_cases e : k / 8 = j
    · rw [if_pos e, if_pos hk]
      subst e
      congr 2
      rw [hpow, Nat.add_mul_div_left _ _ (Nat.pow_pos (by decide)), hmod, Nat.mod_eq_of_lt (by omega)]
    · rw [if_neg e, le_get _ _ _ hj]
      congr 2
      rcases Nat.lt_or_ge j (k / 8) with hlo | hhi
      · have hd : 2 ^ k = 256 ^ j * (256 * (256 ^ (k / 8 - j - 1) * 2 ^ (k % 8))) := by
          rw [hpow, ← Nat.mul_assoc, ← Nat.mul_assoc, Nat.mul_assoc (256 ^ j), ← Nat.pow_succ', ← Nat.pow_add, show j + (k / 8 - j - 1 + 1) = k / 8 by omega]
        rw [hd, Nat.add_mul_div_left _ _ (Nat.pow_pos (by decide)), Nat.add_mul_mod_self_left]
      · have hle : 256 ^ (k / 8 + 1) ≤ 256 ^ j := Nat.pow_le_pow_right (by decide) (by omega)
        have hkk : 2 ^ k * 2 ≤ 256 ^ (k / 8 + 1) := by
          rw [hpow, Nat.pow_succ, Nat.mul_assoc]
          exact Nat.mul_le_mul_left _ (by omega)
        rw [Nat.div_eq_of_lt (by omega), Nat.div_eq_of_lt (by omega)]
  · rw [List.getElem?_eq_none (by rw [le_length]; omega), List.getElem?_eq_none (by rw [List.length_set, le_length]; omega)]

/-! ### Numbers of so many bits each -/

def bigOf (w : Nat) : List Nat → Nat
  | [] => 0
  | x :: t => x + 2 ^ w * bigOf w t
def digits (w : Nat) : Nat → Nat → List Nat
  | 0, _ => []
  | m + 1, B => B % 2 ^ w :: digits w m (B / 2 ^ w)

theorem digits_length (w m B : Nat) : (digits w m B).length = m := by
  induction m generalizing B with
  | zero => rfl
  | succ m ih => rw [digits, List.length_cons, ih]
theorem digits_lt (w m B : Nat) : ∀ x ∈ digits w m B, x < 2 ^ w := by
  induction m generalizing B with
  | zero => intro x hx; cases hx
  | succ m ih =>
    intro x hx
    rcases List.mem_cons.1 hx with rfl | hx
    · exact Nat.mod_lt _ (Nat.two_pow_pos w)
    · exact ih _ x hx
theorem digits_get (w m B i : Nat) (hi : i < m) : (digits w m B)[i]? = some (B / 2 ^ (i * w) % 2 ^ w) := by
  induction m generalizing B i with
  | zero => omega
  | succ m ih =>
    rw [digits]
    cases i with
    | zero => simp
    | succ i =>
      rw [List.getElem?_cons_succ, ih _ _ (by omega), Nat.div_div_eq_div_mul, ← Nat.pow_add, show w + i * w = (i + 1) * w by rw [Nat.add_mul, Nat.one_mul, Nat.add_comm]]
theorem bigOf_lt (w : Nat) (l : List Nat) (h : ∀ x ∈ l, x < 2 ^ w) : bigOf w l < 2 ^ (l.length * w) := by
  induction l with
  | nil => rw [List.length_nil, Nat.zero_mul]; exact Nat.one_pos
  | cons x t ih =>
    have h1 := h x (by simp)
    have h2 := ih fun y hy => h y (by simp [hy])
    rw [bigOf, List.length_cons, Nat.add_mul, Nat.one_mul, Nat.pow_add, Nat.mul_comm (2 ^ (t.length * w))]
    have : 2 ^ w * (bigOf w t + 1) ≤ 2 ^ w * 2 ^ (t.length * w) := Nat.mul_le_mul_left _ h2
    rw [Nat.mul_add, Nat.mul_one] at this
    omega
theorem digits_bigOf (w : Nat) (l : List Nat) (h : ∀ x ∈ l, x < 2 ^ w) : digits w l.length (bigOf w l) = l := by
  induction l with
  | nil => rfl
  | cons x t ih =>
    have h1 := h x (by simp)
    rw [List.length_cons, digits, bigOf, Nat.add_mul_mod_self_left, Nat.mod_eq_of_lt h1, Nat.add_mul_div_left _ _ (Nat.two_pow_pos w), Nat.div_eq_of_lt h1, Nat.zero_add, ih fun y hy => h y (by simp [hy])]
theorem bigOf_digits (w m B : Nat) : bigOf w (digits w m B) = B % 2 ^ (m * w) := by
  induction m generalizing B with
  | zero => rw [Nat.zero_mul, Nat.pow_zero, Nat.mod_one]; rfl
  | succ m ih => rw [digits, bigOf, ih, Nat.add_mul, Nat.one_mul, Nat.add_comm (m * w), Nat.pow_add, Nat.mod_mul]
theorem bigOf_snoc (w : Nat) (l : List Nat) (x : Nat) : bigOf w (l ++ [x]) = bigOf w l + 2 ^ (l.length * w) * x := by
  induction l with
  | nil => simp [bigOf]
  | cons a t ih =>
    rw [List.cons_append, bigOf, bigOf, ih, List.length_cons, Nat.add_mul, Nat.one_mul, Nat.add_comm (t.length * w), Nat.pow_add, Nat.mul_add, Nat.mul_assoc, Nat.add_assoc]

/-! ### How many bits -/

theorem bitLen_le_iff {x w : Nat} (hx : x < 2 ^ 64) : Lib.bitLen x ≤ w ↔ x < 2 ^ w := by
  constructor
  · intro h
    exact Nat.lt_of_lt_of_le (bitLen_lt x hx) (Nat.pow_le_pow_right (by decide) h)
  · intro h
    by_cases h0 : x = 0
    · subst h0
      exact Nat.le_trans (by decide) (Nat.zero_le w)
    · have h1 := bitLen_ge x h0
      rcases Nat.lt_or_ge w (Lib.bitLen x) with hlt | hge
      · exfalso
        have : 2 ^ w ≤ 2 ^ (Lib.bitLen x - 1) := Nat.pow_le_pow_right (by decide) (by omega)
        omega
      · exact hge
theorem bitLen_half {x : Nat} (h0 : x ≠ 0) (hx : x < 2 ^ 64) : Lib.bitLen x = Lib.bitLen (x / 2) + 1 := by
  have hx2 : x / 2 < 2 ^ 64 := by omega
  have a := bitLen_lt x hx
  have b := bitLen_ge x h0
  have h1 : Lib.bitLen (x / 2) ≤ Lib.bitLen x - 1 := by
    rw [bitLen_le_iff hx2]
    have : 2 ^ Lib.bitLen x = 2 ^ (Lib.bitLen x - 1) * 2 := by
      rw [← Nat.pow_succ]
      congr 1
      have : Lib.bitLen x ≠ 0 := fun h => by rw [h] at a; simp at a; exact h0 a
      omega
    omega
  have hpos : Lib.bitLen x ≠ 0 := fun h => by rw [h] at a; simp at a; exact h0 a
  have h2 : Lib.bitLen x ≤ Lib.bitLen (x / 2) + 1 := by
    rw [bitLen_le_iff hx]
    have := bitLen_lt (x / 2) hx2
    rw [Nat.pow_succ]
    omega
  omega
def widthS : List Nat → Nat
  | [] => 0
  | x :: t => max (Lib.bitLen x) (widthS t)
theorem widthS_snoc (l : List Nat) (x : Nat) : widthS (l ++ [x]) = max (widthS l) (Lib.bitLen x) := by
  induction l with
  | nil => simp [widthS]
  | cons a t ih => rw [List.cons_append, widthS, widthS, ih]; omega
theorem widthS_le (l : List Nat) : widthS l ≤ 64 := by
  induction l with
  | nil => exact Nat.zero_le _
  | cons a t ih => rw [widthS]; have := bitLen_le a; omega
theorem widthS_iff {l : List Nat} (hl : ∀ x ∈ l, x < 2 ^ 64) (w : Nat) : widthS l ≤ w ↔ ∀ x ∈ l, x < 2 ^ w := by
  induction l with
  | nil => simp [widthS]
  | cons a t ih =>
    rw [widthS, Nat.max_le, ih fun x hx => hl x (by simp [hx]), bitLen_le_iff (hl a (by simp))]
    simp

/-! ### What the calls answer -/

def bytesS (many width : Int) : Int × Int := if many < 0 ∨ width < 0 ∨ 64 < width then (0, 1) else if 4096 < many then (0, 3) else ((many * width + 7) / 8, 0)
/-- Numbers bit by bit, if they may be. -/
def packB (l : List Nat) (w : Nat) : List UInt8 := le ((l.length * w + 7) / 8) (bigOf w l)
def packS (l : List Nat) (width : Int) : List UInt8 × Int :=
  if (bytesS l.length width).2 = 0 then (if widthS l ≤ width.toNat then (packB l width.toNat, 0) else ([], 8)) else ([], (bytesS l.length width).2)
def unpackS (b : List UInt8) (many width : Int) : List Nat × Int :=
  if (bytesS many width).2 = 0 then (if (b.length : Int) = (bytesS many width).1 ∧ ofLe b < 2 ^ (many.toNat * width.toNat) then (digits width.toNat many.toNat (ofLe b), 0) else ([], 6)) else ([], (bytesS many width).2)

theorem bytesS_ok {many width : Int} (h : (bytesS many width).2 = 0) : 0 ≤ many ∧ many ≤ 4096 ∧ 0 ≤ width ∧ width ≤ 64 ∧ (bytesS many width).1 = (many * width + 7) / 8 := by
  unfold bytesS at *
  split at h
  · exact absurd h (by decide)
  · split at h
    · exact absurd h (by decide)
    · rename_i h1 h2
      rw [if_neg h1, if_neg h2]
      simp only [not_or, Int.not_lt] at h1
      exact ⟨h1.1, by omega, h1.2.1, h1.2.2, rfl⟩
theorem big_room {m w B : Nat} (hB : B < 2 ^ (m * w)) : B < 256 ^ ((m * w + 7) / 8) := by
  refine Nat.lt_of_lt_of_le hB ?_
  rw [show (256 : Nat) = 2 ^ 8 from rfl, ← Nat.pow_mul]
  exact Nat.pow_le_pow_right (by decide) (by omega)
theorem packB_length (l : List Nat) (w : Nat) : (packB l w).length = (l.length * w + 7) / 8 := le_length _ _
/-- What was packed is unpacked. -/
theorem unpack_pack {l : List Nat} {width : Int} (he : (bytesS l.length width).2 = 0) (hl : ∀ x ∈ l, x < 2 ^ 64) (hw : widthS l ≤ width.toNat) : unpackS (packB l width.toNat) l.length width = (l, 0) := by
  obtain ⟨h0, h1, h2, h3, h4⟩ := bytesS_ok he
  have hall := (widthS_iff hl width.toNat).1 hw
  have hlt := bigOf_lt width.toNat l hall
  have hof : ofLe (packB l width.toNat) = bigOf width.toNat l := by
    unfold packB
    rw [ofLe_le, Nat.mod_eq_of_lt (big_room hlt)]
  have hlen : ((packB l width.toNat).length : Int) = (bytesS l.length width).1 := by
    rw [packB_length, h4]
    obtain ⟨W, rfl⟩ := Int.eq_ofNat_of_zero_le h2
    rw [Int.toNat_natCast, ← Int.natCast_mul]
    omega
  unfold unpackS
  rw [if_pos he, hof, Int.toNat_natCast, if_pos ⟨hlen, hlt⟩, digits_bigOf _ _ hall]
/-- What is unpacked was packed so. -/
theorem pack_unpack {b : List UInt8} {many width : Int} (h : (unpackS b many width).2 = 0) : ∃ l, unpackS b many width = (l, 0) ∧ (l.length : Int) = many ∧ (∀ x ∈ l, x < 2 ^ width.toNat) ∧ packB l width.toNat = b ∧ 0 ≤ width ∧ width ≤ 64 := by
  unfold unpackS at *
  split at h
  · rename_i he
    obtain ⟨h0, h1, h2, h3, h4⟩ := bytesS_ok he
    rw [if_pos he]
    split at h
    · rename_i hb
      rw [if_pos hb]
      refine ⟨_, rfl, by rw [digits_length]; omega, digits_lt _ _ _, ?_, h2, h3⟩
      obtain ⟨M, rfl⟩ := Int.eq_ofNat_of_zero_le h0
      obtain ⟨W, rfl⟩ := Int.eq_ofNat_of_zero_le h2
      rw [Int.toNat_natCast, Int.toNat_natCast] at hb ⊢
      unfold packB
      rw [digits_length, bigOf_digits, Nat.mod_eq_of_lt hb.2]
      have hlen : b.length = (M * W + 7) / 8 := by
        have := hb.1
        rw [h4, ← Int.natCast_mul] at this
        omega
      rw [← hlen]
      exact le_ofLe b
    · exact absurd h (by decide)
  · rename_i he
    exact absurd h he

/-! ### Numbers by how much they are more than the least -/

def leastS : List Int → Int
  | [] => 0
  | [x] => x
  | x :: t => min x (leastS t)
def moreS (l : List Int) : List Nat := l.map fun x => (x - leastS l).toNat
def frameB (l : List Int) : List UInt8 :=
  enc l.length ++ (if l = [] then [] else enc (zig (leastS l)) ++ (enc (widthS (moreS l)) ++ packB (moreS l) (widthS (moreS l))))
def frameS (l : List Int) : List UInt8 × Int := if l.length ≤ 4096 then (frameB l, 0) else ([], 3)
/-- These bytes are the frame of these numbers. -/
def IsFrame (b : List UInt8) (l : List Int) : Prop := (∀ x ∈ l, -9223372036854775808 ≤ x ∧ x ≤ 9223372036854775807) ∧ l.length ≤ 4096 ∧ frameB l = b

theorem leastS_cons2 (x y : Int) (t : List Int) : leastS (x :: y :: t) = min x (leastS (y :: t)) := rfl
theorem leastS_le {l : List Int} {x : Int} (hx : x ∈ l) : leastS l ≤ x := by
  induction l with
  | nil => cases hx
  | cons a t ih =>
    cases t with
    | nil =>
      have : x = a := by simpa using hx
      rw [this]
      exact Int.le_refl _
    | cons b t =>
      rw [leastS_cons2]
      rcases List.mem_cons.1 hx with rfl | hx
      · omega
      · have := ih hx; omega
theorem leastS_mem {l : List Int} (h : l ≠ []) : leastS l ∈ l := by
  induction l with
  | nil => exact absurd rfl h
  | cons a t ih =>
    cases t with
    | nil => simp [leastS]
    | cons b t =>
      rw [leastS_cons2]
      have := ih (by simp)
      rcases Int.le_total a (leastS (b :: t)) with h1 | h1
      · rw [Int.min_eq_left h1]; simp
      · rw [Int.min_eq_right h1]; exact List.mem_cons_of_mem _ this
theorem leastS_snoc (l : List Int) (x : Int) (h : l ≠ []) : leastS (l ++ [x]) = min (leastS l) x := by
  induction l with
  | nil => exact absurd rfl h
  | cons a t ih =>
    cases t with
    | nil => rfl
    | cons b t =>
      rw [List.cons_append, List.cons_append, leastS_cons2, leastS_cons2, ← List.cons_append, ih (by simp)]
      omega
theorem moreS_length (l : List Int) : (moreS l).length = l.length := List.length_map _
theorem moreS_lt {l : List Int} (h : ∀ x ∈ l, -9223372036854775808 ≤ x ∧ x ≤ 9223372036854775807) : ∀ x ∈ moreS l, x < 2 ^ 64 := by
  intro y hy
  obtain ⟨x, hx, rfl⟩ := List.mem_map.1 hy
  have h1 := h x hx
  have h2 := h _ (leastS_mem (List.ne_nil_of_mem hx))
  omega
/-- The numbers again. -/
theorem more_back {l : List Int} : (moreS l).map (fun n : Nat => leastS l + (n : Int)) = l := by
  unfold moreS
  rw [List.map_map]
  conv => rhs; rw [← List.map_id l]
  refine List.map_congr_left fun x hx => ?_
  have := leastS_le hx
  simp only [Function.comp_apply, id_eq]
  omega

end Go.Proofs.Ytgfgmgekkmaipaa
