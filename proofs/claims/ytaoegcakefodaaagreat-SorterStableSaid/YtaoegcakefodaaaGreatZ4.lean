/-
  Texts of this proof, merged.
-/
import Derived.Lib.BitFns
import Derived.Test.YtaoegcakefodaaaGreatProg
import Derived.Shelf.Strconv.Itoa0
import Derived.Lib.Small
import Derived.Lib.Walk
import Derived.Lib.AppendStr
import Derived.Test.YtaoegcakefodaaaGreatZ1
import Derived.Test.YtaoegcakefodaaaGreatZ2
import Derived.Test.YtaoegcakefodaaaGreatZ3
namespace Go.Proofs.YtaoegcakefodaaaGreat
open Go.RowKit
def be : Nat → Nat → List UInt8
  | 0, _ => []
  | k + 1, n => UInt8.ofNat (n / 256 ^ k) :: be k n
def nb (n : Nat) : Nat := (Lib.bitLen n + 7) / 8
def enc (n : Nat) : List UInt8 := if n < 248 then [UInt8.ofNat n] else UInt8.ofNat (247 + nb n) :: be (nb n) n
theorem be_length : ∀ k n, (be k n).length = k
  | 0, _ => rfl
  | k + 1, n => by simp [be, be_length k n]
theorem be_take_snoc : ∀ (k j n : Nat), j < k → (be k n).take (k - j) = (be k n).take (k - (j + 1)) ++ [UInt8.ofNat (n / 256 ^ j)]
  | 0, j, n, h => by omega
  | k + 1, j, n, h => by
    by_cases hj : j = k
    · subst hj
      simp [be, show j + 1 - j = 1 from by omega]
    · rw [show k + 1 - j = (k - j) + 1 from by omega, show k + 1 - (j + 1) = (k - (j + 1)) + 1 from by omega]
      simp only [be, List.take_succ_cons, List.cons_append]
      rw [be_take_snoc k j n (by omega)]
theorem bitLen_le (n : Nat) : Lib.bitLen n ≤ 64 := by
  unfold Lib.bitLen
  generalize 64 = f
  induction f generalizing n with
  | zero => simp [Lib.bitLenAux]
  | succ f ih =>
    simp only [Lib.bitLenAux]
    have := ih (n / 2)
    split <;> omega
theorem nb_le (n : Nat) : nb n ≤ 8 := by have := bitLen_le n; unfold nb; omega
theorem enc_length (n : Nat) : (enc n).length ≤ 9 := by
  have := nb_le n
  unfold enc
  split <;> simp [be_length]
  omega
theorem bitLen_lt (n : Nat) (h : n < 2 ^ 64) : n < 2 ^ Lib.bitLen n := by
  have key : ∀ f n, n < 2 ^ f → n < 2 ^ Lib.bitLenAux f n := by
    intro f
    induction f with
    | zero => intro n h; simpa [Lib.bitLenAux] using h
    | succ f ih =>
      intro n h
      simp only [Lib.bitLenAux]
      split
      · subst_vars; simp
      · have := ih (n / 2) (by rw [Nat.pow_succ] at h; omega)
        rw [Nat.add_comm, Nat.pow_succ]
        omega
  exact key 64 n h
theorem bitLen_ge (n : Nat) (h0 : n ≠ 0) : 2 ^ (Lib.bitLen n - 1) ≤ n := by
  have key : ∀ f n, n ≠ 0 → 2 ^ (Lib.bitLenAux f n - 1) ≤ n := by
    intro f
    induction f with
    | zero => intro n h; simp [Lib.bitLenAux]; omega
    | succ f ih =>
      intro n h
      simp only [Lib.bitLenAux, if_neg h]
      by_cases h2 : n / 2 = 0
      · have : Lib.bitLenAux f (n / 2) = 0 := by rw [h2]; cases f <;> simp [Lib.bitLenAux]
        rw [this]; simp; omega
      · have := ih (n / 2) h2
        by_cases hz : Lib.bitLenAux f (n / 2) = 0
        · rw [hz]; simp; omega
        · rw [show 1 + Lib.bitLenAux f (n / 2) - 1 = (Lib.bitLenAux f (n / 2) - 1) + 1 from by omega, Nat.pow_succ]
          omega
  exact key 64 n h0
theorem nb_lt (n : Nat) (h : n < 2 ^ 64) : n < 256 ^ nb n := by
  have h1 := bitLen_lt n h
  have e : (256 : Nat) ^ nb n = 2 ^ (8 * nb n) := by rw [Nat.pow_mul]
  rw [e]
  refine Nat.lt_of_lt_of_le h1 (Nat.pow_le_pow_right (by decide) ?_)
  unfold nb
  omega
theorem nb_ge (n : Nat) (h : n ≠ 0) : 256 ^ (nb n - 1) ≤ n := by
  have h1 := bitLen_ge n h
  have e : (256 : Nat) ^ (nb n - 1) = 2 ^ (8 * (nb n - 1)) := by rw [Nat.pow_mul]
  rw [e]
  refine Nat.le_trans (Nat.pow_le_pow_right (by decide) ?_) h1
  unfold nb
  omega
theorem nb_pos (n : Nat) (h : n ≠ 0) (h2 : n < 2 ^ 64) : 1 ≤ nb n := by
  have := nb_lt n h2
  by_cases h0 : nb n = 0
  · rw [h0] at this; simp at this; omega
  · omega
theorem nb_eq (n k : Nat) (h1 : n < 256 ^ k) (h2 : 256 ^ (k - 1) ≤ n) (hk : 1 ≤ k) (hn : n < 2 ^ 64) : nb n = k := by
  have hp : 0 < 256 ^ (k - 1) := Nat.pow_pos (by decide)
  have a := nb_lt n hn
  have b := nb_ge n (by omega)
  have c := nb_pos n (by omega) hn
  have u1 : ¬ nb n < k := fun h => by
    have := Nat.pow_le_pow_right (show 0 < 256 by decide) (show nb n ≤ k - 1 by omega)
    omega
  have u2 : ¬ k < nb n := fun h => by
    have := Nat.pow_le_pow_right (show 0 < 256 by decide) (show k ≤ nb n - 1 by omega)
    omega
  omega
theorem be_mod : ∀ (k n : Nat), be k n = be k (n % 256 ^ k)
  | 0, _ => rfl
  | k + 1, n => by
    simp only [be]
    have e1 : n / 256 ^ k % 256 = n % 256 ^ (k + 1) / 256 ^ k := by
      rw [Nat.pow_succ, Nat.mod_mul_right_div_self]
    have e2 : UInt8.ofNat (n / 256 ^ k) = UInt8.ofNat (n % 256 ^ (k + 1) / 256 ^ k) := by
      rw [← e1]
      apply UInt8.toNat_inj.1
      simp
    rw [e2, be_mod k n, be_mod k (n % 256 ^ (k + 1))]
    have e3 : n % 256 ^ (k + 1) % 256 ^ k = n % 256 ^ k := Nat.mod_mod_of_dvd n (Nat.pow_dvd_pow 256 (by omega))
    rw [e3]
theorem ofNat_lt (a b : Nat) (ha : a < 256) (hb : b < 256) : (UInt8.ofNat a < UInt8.ofNat b) ↔ a < b := by
  rw [UInt8.lt_iff_toNat_lt, UInt8.toNat_ofNat', UInt8.toNat_ofNat', Nat.mod_eq_of_lt ha, Nat.mod_eq_of_lt hb]
theorem ofNat_eq (a b : Nat) (ha : a < 256) (hb : b < 256) : (UInt8.ofNat a = UInt8.ofNat b) ↔ a = b := by
  rw [← UInt8.toNat_inj, UInt8.toNat_ofNat', UInt8.toNat_ofNat', Nat.mod_eq_of_lt ha, Nat.mod_eq_of_lt hb]
theorem be_less : ∀ (k a b : Nat), a < 256 ^ k → b < 256 ^ k → Op.bytesLess (be k a) (be k b) = decide (a < b)
  | 0, a, b, ha, hb => by simp [be, Op.bytesLess]; simp at ha hb; omega
  | k + 1, a, b, ha, hb => by
    have hp : 0 < 256 ^ k := Nat.pow_pos (by decide)
    have qa : a / 256 ^ k < 256 := Nat.div_lt_of_lt_mul (by rw [Nat.pow_succ] at ha; exact ha)
    have qb : b / 256 ^ k < 256 := Nat.div_lt_of_lt_mul (by rw [Nat.pow_succ] at hb; exact hb)
    have ih := be_less k (a % 256 ^ k) (b % 256 ^ k) (Nat.mod_lt _ hp) (Nat.mod_lt _ hp)
    rw [← be_mod, ← be_mod] at ih
    simp only [be, Op.bytesLess, ih]
    have da := Nat.div_add_mod a (256 ^ k)
    have db := Nat.div_add_mod b (256 ^ k)
    have ra := Nat.mod_lt a hp
    have rb := Nat.mod_lt b hp
    generalize a / 256 ^ k = qa' at *
    generalize b / 256 ^ k = qb' at *
    generalize a % 256 ^ k = ra' at *
    generalize b % 256 ^ k = rb' at *
    generalize 256 ^ k = m at *
    rw [Bool.eq_iff_iff]
    simp only [Bool.or_eq_true, Bool.and_eq_true, decide_eq_true_eq, beq_iff_eq, ofNat_lt _ _ qa qb, ofNat_eq _ _ qa qb]
    subst da db
    rcases Nat.lt_trichotomy qa' qb' with h | h | h
    · have := Nat.mul_le_mul_left m (show qa' + 1 ≤ qb' by omega)
      rw [Nat.mul_add] at this
      exact ⟨fun _ => by omega, fun _ => .inl h⟩
    · subst h
      simp
    · have := Nat.mul_le_mul_left m (show qb' + 1 ≤ qa' by omega)
      rw [Nat.mul_add] at this
      exact ⟨fun h' => by omega, fun h' => by omega⟩
theorem enc_less (a b : Nat) (ha : a < 2 ^ 64) (hb : b < 2 ^ 64) : Op.bytesLess (enc a) (enc b) = decide (a < b) := by
  have na := nb_le a
  have nB := nb_le b
  unfold enc
  by_cases h1 : a < 248 <;> by_cases h2 : b < 248
  · rw [if_pos h1, if_pos h2]
    simp only [Op.bytesLess, Bool.and_false, Bool.or_false]
    rw [decide_eq_decide]
    exact ofNat_lt a b (by omega) (by omega)
  · rw [if_pos h1, if_neg h2]
    have := nb_pos b (by omega) hb
    simp only [Op.bytesLess]
    rw [decide_eq_true ((ofNat_lt a (247 + nb b) (by omega) (by omega)).2 (by omega)), Bool.true_or, decide_eq_true (by omega)]
  · rw [if_neg h1, if_pos h2]
    have := nb_pos a (by omega) ha
    simp only [Op.bytesLess]
    rw [decide_eq_false (fun h => absurd ((ofNat_lt (247 + nb a) b (by omega) (by omega)).1 h) (by omega)), decide_eq_false (show ¬ a < b by omega)]
    have : (UInt8.ofNat (247 + nb a) == UInt8.ofNat b) = false := by
      rw [beq_eq_false_iff_ne]
      exact fun h => absurd ((ofNat_eq _ _ (by omega) (by omega)).1 h) (by omega)
    rw [this]
    rfl
  · rw [if_neg h1, if_neg h2]
    simp only [Op.bytesLess]
    rcases Nat.lt_trichotomy (nb a) (nb b) with h | h | h
    · rw [decide_eq_true ((ofNat_lt (247 + nb a) (247 + nb b) (by omega) (by omega)).2 (by omega)), Bool.true_or]
      have x := nb_lt a ha
      have y := nb_ge b (by omega)
      have z := Nat.pow_le_pow_right (show 0 < 256 by decide) (show nb a ≤ nb b - 1 by omega)
      rw [decide_eq_true (by omega)]
    · rw [h, be_less _ _ _ (h ▸ nb_lt a ha) (nb_lt b hb)]
      simp
    · rw [decide_eq_false (fun hh => absurd ((ofNat_lt (247 + nb a) (247 + nb b) (by omega) (by omega)).1 hh) (by omega))]
      have : (UInt8.ofNat (247 + nb a) == UInt8.ofNat (247 + nb b)) = false := by
        rw [beq_eq_false_iff_ne]
        exact fun hh => absurd ((ofNat_eq _ _ (by omega) (by omega)).1 hh) (by omega)
      rw [this]
      have x := nb_lt b hb
      have y := nb_ge a (by omega)
      have z := Nat.pow_le_pow_right (show 0 < 256 by decide) (show nb b ≤ nb a - 1 by omega)
      rw [decide_eq_false (show ¬ a < b by omega)]
      rfl
theorem enc_pos (n : Nat) : 1 ≤ (enc n).length := by
  unfold enc
  split <;> simp
theorem enc_head (n : Nat) (hn : n < 2 ^ 64) : ∃ c l, enc n = c :: l ∧ l.length = c.toNat - 247 := by
  have nB := nb_le n
  unfold enc
  split
  · rename_i h
    refine ⟨_, _, rfl, ?_⟩
    rw [UInt8.toNat_ofNat', Nat.mod_eq_of_lt (by omega)]
    simp
    omega
  · refine ⟨_, _, rfl, ?_⟩
    rw [UInt8.toNat_ofNat', Nat.mod_eq_of_lt (by omega), be_length]
    omega
def val (l : List UInt8) : Nat := l.foldl (fun n c => n * 256 + c.toNat) 0
theorem val_snoc (l : List UInt8) (c : UInt8) : val (l ++ [c]) = val l * 256 + c.toNat := by simp [val]
theorem foldl_val (l : List UInt8) : ∀ n, l.foldl (fun n c => n * 256 + c.toNat) n = n * 256 ^ l.length + val l := by
  unfold val
  induction l with
  | nil => intro n; simp
  | cons c l ih =>
    intro n
    simp only [List.foldl_cons, List.length_cons]
    rw [ih, ih (0 * 256 + c.toNat), Nat.zero_mul, Nat.zero_add, Nat.add_mul, Nat.mul_assoc, Nat.pow_succ, Nat.mul_comm 256, Nat.add_assoc]
theorem val_cons (c : UInt8) (l : List UInt8) : val (c :: l) = c.toNat * 256 ^ l.length + val l := by
  have := foldl_val l (0 * 256 + c.toNat)
  rw [Nat.zero_mul, Nat.zero_add] at this
  rw [← this]
  simp [val]
theorem val_lt (l : List UInt8) : val l < 256 ^ l.length := by
  induction l with
  | nil => simp [val]
  | cons c l ih =>
    rw [val_cons, List.length_cons, Nat.pow_succ]
    have := c.toNat_lt
    have h2 := Nat.mul_le_mul_right (256 ^ l.length) (show c.toNat + 1 ≤ 256 by omega)
    rw [Nat.add_mul] at h2
    rw [Nat.mul_comm _ 256]
    omega
theorem val_be : ∀ k n, val (be k n) = n % 256 ^ k
  | 0, n => by simp [be, val, Nat.mod_one]
  | k + 1, n => by
    simp only [be]
    rw [val_cons, be_length, val_be k n, UInt8.toNat_ofNat', show (2 : Nat) ^ 8 = 256 from rfl]
    have e : (256 : Nat) ^ (k + 1) = 256 ^ k * 256 := Nat.pow_succ _ _
    have : n % (256 ^ k * 256) = n % 256 ^ k + 256 ^ k * (n / 256 ^ k % 256) := Nat.mod_mul
    rw [e, this, Nat.mul_comm]
    omega
theorem be_val (l : List UInt8) : be l.length (val l) = l := by
  induction l with
  | nil => rfl
  | cons c l ih =>
    have hl := val_lt l
    have hp : 0 < 256 ^ l.length := Nat.pow_pos (by decide)
    rw [List.length_cons, be, val_cons]
    have e1 : (c.toNat * 256 ^ l.length + val l) / 256 ^ l.length = c.toNat := by
      rw [Nat.mul_comm, Nat.mul_add_div hp, Nat.div_eq_of_lt hl, Nat.add_zero]
    rw [e1, be_mod]
    have e2 : (c.toNat * 256 ^ l.length + val l) % 256 ^ l.length = val l := by
      rw [Nat.mul_comm, Nat.mul_add_mod, Nat.mod_eq_of_lt hl]
    rw [e2, ih]
    simp
def front : List UInt8 → Nat × Nat
  | [] => (0, 0)
  | c :: t =>
    if c.toNat < 248 then (c.toNat, 1)
    else if t.length < c.toNat - 247 then (0, 0)
    else if val (t.take (c.toNat - 247)) < 248 ∨ (1 < c.toNat - 247 ∧ t.head? = some 0) then (0, 0)
    else (val (t.take (c.toNat - 247)), 1 + (c.toNat - 247))
theorem front_enc (n : Nat) (t : List UInt8) (hn : n < 2 ^ 64) : front (enc n ++ t) = (n, (enc n).length) := by
  have nB := nb_le n
  unfold enc
  split
  · rename_i h
    simp only [List.singleton_append, front, List.length_singleton]
    rw [UInt8.toNat_ofNat', Nat.mod_eq_of_lt (by omega), if_pos h]
  · rename_i h
    have hp := nb_pos n (by omega) hn
    have hlt := nb_lt n hn
    have hge := nb_ge n (by omega)
    have e0 : (UInt8.ofNat (247 + nb n)).toNat = 247 + nb n := by rw [UInt8.toNat_ofNat', Nat.mod_eq_of_lt (by omega)]
    have e1 : (be (nb n) n ++ t).take (nb n) = be (nb n) n := by
      rw [List.take_append_of_le_length (by rw [be_length]; omega), List.take_of_length_le (by rw [be_length]; omega)]
    simp only [List.cons_append, front, List.length_cons]
    rw [e0, if_neg (by omega), show 247 + nb n - 247 = nb n by omega, if_neg (by rw [List.length_append, be_length]; omega), e1, val_be, Nat.mod_eq_of_lt hlt, be_length]
    rw [if_neg]
    · rw [Nat.add_comm]
    · rintro (h1 | ⟨h1, h2⟩)
      · omega
      · obtain ⟨k, hk⟩ : ∃ k, nb n = k + 1 := ⟨nb n - 1, by omega⟩
        rw [hk] at h2 hge
        simp only [be, List.cons_append, List.head?_cons, Option.some.injEq, Nat.add_sub_cancel] at h2 hge
        have h3 := congrArg UInt8.toNat h2
        rw [hk, Nat.pow_succ] at hlt
        have hd : n / 256 ^ k < 256 := Nat.div_lt_of_lt_mul hlt
        rw [UInt8.toNat_ofNat', Nat.mod_eq_of_lt hd] at h3
        have : 1 ≤ n / 256 ^ k := (Nat.one_le_div_iff (Nat.pow_pos (by decide))).2 hge
        simp at h3
        have h4 := Nat.pow_pos (n := k) (show 0 < 256 by decide)
        omega
theorem front_sound (l : List UInt8) (n s : Nat) (h : front l = (n, s)) (hs : s ≠ 0) : n < 2 ^ 64 ∧ s = (enc n).length ∧ l = enc n ++ l.drop s := by
  cases l with
  | nil => simp [front] at h; omega
  | cons c t =>
    simp only [front] at h
    split at h
    · rename_i h1
      simp at h
      obtain ⟨rfl, rfl⟩ := h
      have e : enc c.toNat = [c] := by unfold enc; rw [if_pos h1]; simp
      rw [e]
      exact ⟨by omega, rfl, by simp⟩
    · rename_i h1
      split at h
      · simp at h; omega
      · rename_i h2
        split at h
        · simp at h; omega
        · rename_i h3
          simp only [Prod.mk.injEq] at h
          obtain ⟨rfl, rfl⟩ := h
          have hc := c.toNat_lt
          have hk : 1 ≤ c.toNat - 247 ∧ c.toNat - 247 ≤ 8 := by omega
          have hkc : UInt8.ofNat (247 + (c.toNat - 247)) = c := by
            rw [show 247 + (c.toNat - 247) = c.toNat by omega]; simp
          generalize c.toNat - 247 = k at *
          have hlen : (t.take k).length = k := by rw [List.length_take]; omega
          have hv := val_lt (t.take k)
          rw [hlen] at hv
          have h64 : val (t.take k) < 2 ^ 64 := Nat.lt_of_lt_of_le hv (by
            have := Nat.pow_le_pow_right (show 0 < 256 by decide) hk.2
            exact Nat.le_trans this (by decide))
          have hge : 256 ^ (k - 1) ≤ val (t.take k) := by
            by_cases hk1 : k = 1
            · subst hk1; simp; omega
            · cases t with
              | nil => simp at hlen; omega
              | cons d t =>
                obtain ⟨j, rfl⟩ : ∃ j, k = j + 1 := ⟨k - 1, by omega⟩
                rw [List.take_succ_cons, val_cons]
                have hj : (t.take j).length = j := by simpa using hlen
                rw [hj, Nat.add_sub_cancel]
                have hd : d ≠ 0 := fun h0 => h3 (.inr ⟨by omega, by rw [h0]; rfl⟩)
                have hd1 : 1 ≤ d.toNat := by
                  rcases Nat.eq_zero_or_pos d.toNat with h0 | h0
                  · exact absurd (UInt8.toNat_inj.1 (by rw [h0]; rfl)) hd
                  · exact h0
                have := Nat.mul_le_mul_right (256 ^ j) hd1
                omega
          have hnb := nb_eq _ k hv hge hk.1 h64
          have e : enc (val (t.take k)) = c :: t.take k := by
            unfold enc
            rw [if_neg (fun h0 => h3 (.inl h0)), hnb, hkc]
            congr 1
            have hbv := be_val (t.take k)
            rw [hlen] at hbv
            exact hbv
          refine ⟨h64, by rw [e, List.length_cons, hlen, Nat.add_comm], ?_⟩
          rw [e, Nat.add_comm, List.drop_succ_cons, List.cons_append, List.take_append_drop]
def zig (n : Int) : Nat := if n < 0 then (2 * (-1 - n) + 1).toNat else (2 * n).toNat
theorem zig_neg (n : Int) (h : n < 0) : (zig n : Int) = (-1 - n) * 2 + 1 := by unfold zig; rw [if_pos h]; omega
theorem zig_pos (n : Int) (h : ¬ n < 0) : (zig n : Int) = n * 2 := by unfold zig; rw [if_neg h]; omega
def zag (u : Nat) : Int := if u % 2 = 1 then -1 - (u / 2 : Nat) else (u / 2 : Nat)
theorem zag_zig (n : Int) (_h0 : -9223372036854775808 ≤ n) (_h1 : n ≤ 9223372036854775807) : zag (zig n) = n := by
  unfold zag
  by_cases h : n < 0
  · have := zig_neg n h
    rw [if_pos (by omega)]
    omega
  · have := zig_pos n h
    rw [if_neg (by omega)]
    omega
end Go.Proofs.YtaoegcakefodaaaGreat

namespace Go.Proofs.YtaoegcakefodaaaGreat
open Go.RowKit
def encV (v : V) : List UInt8 :=
  if rightV v = true then UInt8.ofNat v.k.toNat :: (if v.k = 1 ∨ v.k = 2 then enc (zig v.n) else if v.k = 3 then enc v.s.length ++ v.s else []) else [0]
def takeV : List UInt8 → Option (V × List UInt8)
  | [] => none
  | c :: t =>
    if c = 0 then some (V.zero, t)
    else if c = 1 ∨ c = 2 then
      (if (front t).2 = 0 then none else if rightV ⟨(c.toNat : Int), zag (front t).1, []⟩ = true then some (⟨(c.toNat : Int), zag (front t).1, []⟩, t.drop (front t).2) else none)
    else if c = 3 then
      (if (front t).2 = 0 then none else if (front t).1 ≤ 1024 ∧ (front t).1 ≤ (t.drop (front t).2).length then some (⟨3, 0, (t.drop (front t).2).take (front t).1⟩, (t.drop (front t).2).drop (front t).1) else none)
    else none
def keepV (v : V) : V := if rightV v = true then v else V.zero
theorem zig_lt (n : Int) (h0 : -9223372036854775808 ≤ n) (h1 : n ≤ 9223372036854775807) : zig n < 2 ^ 64 := by
  unfold zig
  split <;> omega
theorem takeV_enc (v : V) (hv : v.fits) (m : List UInt8) : takeV (encV v ++ m) = some (keepV v, m) := by
  unfold encV keepV
  cases hr : rightV v with
  | false => rfl
  | true =>
    rw [if_pos rfl, if_pos rfl]
    obtain ⟨k, n, s⟩ := v
    have hlo : -9223372036854775808 ≤ n := hv.lo
    have hhi : n ≤ 9223372036854775807 := hv.hi
    have hz := zig_lt n hlo hhi
    have he := enc_pos (zig n)
    rcases (rightV_iff _).1 hr with ⟨h1, h2, h3⟩ | ⟨h1, h2, h3⟩ | ⟨h1, h2⟩ | ⟨h1, h2, h3⟩
    · simp only at h1 h2 h3
      subst h1 h2 h3
      rfl
    · simp only at h1 h2 h3
      subst h1 h3
      have hf := front_enc (zig n) m hz
      show takeV ((1 : UInt8) :: (enc (zig n) ++ m)) = _
      rw [takeV, if_neg (by decide), if_pos (by decide), hf]
      simp only
      rw [if_neg (by omega), zag_zig n hlo hhi, List.drop_left]
      exact if_pos hr
    · simp only at h1 h2
      subst h1 h2
      have hf := front_enc (zig n) m hz
      show takeV ((2 : UInt8) :: (enc (zig n) ++ m)) = _
      rw [takeV, if_neg (by decide), if_pos (by decide), hf]
      simp only
      rw [if_neg (by omega), zag_zig n hlo hhi, List.drop_left]
      exact if_pos hr
    · simp only at h1 h2 h3
      subst h1 h2
      have hp := enc_pos s.length
      have hf := front_enc s.length (s ++ m) (by omega)
      show takeV ((3 : UInt8) :: ((enc s.length ++ s) ++ m)) = _
      rw [takeV, if_neg (by decide), if_neg (by decide), if_pos (by decide), List.append_assoc, hf]
      simp only
      rw [if_neg (by omega), List.drop_left, if_pos ⟨h3, by rw [List.length_append]; omega⟩, List.take_left, List.drop_left]
theorem encV_pos (v : V) : 1 ≤ (encV v).length := by unfold encV; split <;> simp
theorem encV_le (v : V) : (encV v).length ≤ 2000 := by
  unfold encV
  split
  · rename_i h
    have h1 := enc_length (zig v.n)
    have h2 := enc_length v.s.length
    have h3 : v.k = 3 → v.s.length ≤ 1024 := fun hk => by
      rcases (rightV_iff v).1 h with h | h | h | h <;> omega
    split
    · simp; omega
    · split
      · rename_i hk
        have := h3 hk
        simp
        omega
      · simp
  · simp
end Go.Proofs.YtaoegcakefodaaaGreat

namespace Go.Proofs.YtaoegcakefodaaaGreat
open Go.RowKit
def rowB (r : List V) : List UInt8 := enc r.length ++ r.flatMap encV
def rowsB (rows : List (List V)) : List UInt8 := rows.flatMap rowB
def mayR (r : List V) : Int := if 32 < r.length then 3 else if r.all rightV = true then 0 else 7
theorem rowsB_append (a b : List (List V)) : rowsB (a ++ b) = rowsB a ++ rowsB b := List.flatMap_append ..
theorem rowsB_snoc (a : List (List V)) (r : List V) : rowsB (a ++ [r]) = rowsB a ++ rowB r := by
  rw [rowsB_append]
  unfold rowsB
  simp
theorem takeS_more : ∀ (s : St) (n j : Nat), (takeS j (n + 1) s).1 = (takeS j n s).1 ++ (takeS j 1 (takeS j n s).2).1 ∧ (takeS j (n + 1) s).2 = (takeS j 1 (takeS j n s).2).2
  | [], n, j => by simp [takeS_nil]
  | none :: t, 0, j => by simp [takeS_zero]
  | none :: t, n + 1, j => by
    obtain ⟨h1, h2⟩ := takeS_more t n (j + 1)
    rw [takeS_none j (n + 1 + 1) t (by omega), takeS_none j (n + 1) t (by omega), takeS_some j 1 _ _ (by omega)]
    simp only [Nat.add_sub_cancel]
    exact ⟨by rw [h1, List.cons_append], by rw [h2]⟩
  | some p :: t, 0, j => by simp [takeS_zero]
  | some p :: t, n + 1, j => by
    obtain ⟨h1, h2⟩ := takeS_more t (n + 1) (j + 1)
    rw [takeS_some j (n + 1 + 1) p t (by omega), takeS_some j (n + 1) p t (by omega), takeS_some j 1 p _ (by omega)]
    exact ⟨h1, by simp only [h2]⟩
def patS (s : St) : List Bool := s.map Option.isSome
theorem patS_set {s s' : St} (h : patS s = patS s') (i : Nat) (p q : List UInt8) : patS (s.set i (some p)) = patS (s'.set i (some q)) := by
  unfold patS at h ⊢
  rw [List.map_set, List.map_set, h]
  rfl
theorem takeS_pat : ∀ (s s' : St) (n j : Nat), patS s = patS s' → (takeS j n s).1 = (takeS j n s').1
  | [], [], n, j, _ => rfl
  | [], _ :: _, n, j, h => by simp [patS] at h
  | _ :: _, [], n, j, h => by simp [patS] at h
  | a :: t, b :: u, 0, j, _ => by rw [takeS_zero, takeS_zero]
  | a :: t, b :: u, n + 1, j, h => by
    simp only [patS, List.map_cons, List.cons.injEq] at h
    cases a with
    | none =>
      cases b with
      | none =>
        rw [takeS_none j (n + 1) t (by omega), takeS_none j (n + 1) u (by omega)]
        simp only [Nat.add_sub_cancel]
        rw [takeS_pat t u n (j + 1) h.2]
      | some q => simp at h
    | some p =>
      cases b with
      | none => simp at h
      | some q =>
        rw [takeS_some j (n + 1) p t (by omega), takeS_some j (n + 1) q u (by omega)]
        exact takeS_pat t u (n + 1) (j + 1) h.2
theorem used_pat (s : St) : usedS s = (patS s).countP id := by
  unfold usedS patS
  rw [List.countP_map]
  rfl
theorem writes_pat : ∀ (ids : List Nat) (b : List UInt8) (s s' : St), patS s = patS s' → patS (writesS ids b s) = patS (setsS ids s')
  | [], _, _, _, h => h
  | id :: t, b, s, s', h => by
    simp only [writesS]
    have : setsS (id :: t) s' = setsS t (s'.set id (some (layP id []))) := rfl
    rw [this]
    exact writes_pat t _ _ _ (patS_set h _ _ _)
theorem writes_append : ∀ (ids : List Nat) (x : Nat) (b : List UInt8) (s : St), writesS (ids ++ [x]) b s = (writesS ids b s).set x (some (layP x ((b.drop (56 * ids.length)).take 56)))
  | [], x, b, s => by simp [writesS]
  | id :: t, x, b, s => by
    rw [List.cons_append]
    simp only [writesS]
    rw [writes_append t x, List.drop_drop, List.length_cons]
    congr 5
    omega
theorem writes_same : ∀ (ids : List Nat) (b : List UInt8) (s s' : St), s.length = s'.length → (∀ i, i ∉ ids → s[i]? = s'[i]?) → writesS ids b s = writesS ids b s'
  | [], _, s, s', _, h => List.ext_getElem? fun i => h i (by simp)
  | id :: t, b, s, s', hl, h => by
    simp only [writesS]
    refine writes_same t _ _ _ (by rw [List.length_set, List.length_set, hl]) fun i hi => ?_
    rw [List.getElem?_set, List.getElem?_set, hl]
    by_cases e : id = i
    · subst e
      simp
    · rw [if_neg e, if_neg e]
      exact h i (by simp [hi, Ne.symm e])
theorem writes_prefix : ∀ (ids : List Nat) (b c : List UInt8) (s : St), 56 * ids.length ≤ b.length → writesS ids (b ++ c) s = writesS ids b s
  | [], _, _, _, _ => rfl
  | id :: t, b, c, s, h => by
    simp only [writesS]
    rw [List.length_cons] at h
    rw [List.take_append_of_le_length (by omega), List.drop_append_of_le_length (by omega), writes_prefix t (b.drop 56) c _ (by rw [List.length_drop]; omega)]
theorem sets_other : ∀ (ids : List Nat) (s : St) (i : Nat), i ∉ ids → (setsS ids s)[i]? = s[i]?
  | [], _, _, _ => rfl
  | id :: t, s, i, h => by
    have e : setsS (id :: t) s = setsS t (s.set id (some (layP id []))) := rfl
    rw [e, sets_other t _ i (fun h' => h (by simp [h'])), List.getElem?_set, if_neg (fun e => h (by simp [e]))]
def idsK (s : St) (k : Nat) : List Nat := (takeS 0 k s).1
def storeK (s : St) (b : List UInt8) (k : Nat) : St := writesS (idsK s k) b s
theorem storeK_zero (s : St) (b : List UInt8) : idsK s 0 = [] ∧ storeK s b 0 = s := by
  unfold storeK idsK
  rw [takeS_zero]
  exact ⟨rfl, rfl⟩
theorem storeK_length (s : St) (b : List UInt8) (k : Nat) : (storeK s b k).length = s.length := writesS_length _ _ _
theorem idsK_length {s : St} {k : Nat} (h : k + usedS s ≤ s.length) : (idsK s k).length = k := takeS_count k 0 s h
theorem storeK_pat (s : St) (b : List UInt8) (k : Nat) : patS (storeK s b k) = patS (takeS 0 k s).2 := by
  unfold storeK idsK
  rw [takeS_all]
  exact writes_pat _ _ _ _ rfl
theorem storeK_used {s : St} {b : List UInt8} {k : Nat} (h : k + usedS s ≤ s.length) : usedS (storeK s b k) = usedS s + k := by
  rw [used_pat, storeK_pat, ← used_pat]
  exact takeS_used k 0 s h
theorem storeK_prefix {s : St} {b : List UInt8} {k : Nat} (c : List UInt8) (h : k + usedS s ≤ s.length) (hb : 56 * k ≤ b.length) : storeK s (b ++ c) k = storeK s b k :=
  writes_prefix _ _ _ _ (by rw [idsK_length h]; exact hb)
theorem storeK_ok {s : St} (h : okS s) (b : List UInt8) (k : Nat) : okS (storeK s b k) := writesS_ok _ _ _ h
theorem storeK_step {s : St} {b : List UInt8} {k : Nat} (h : k + usedS s < s.length) :
    ∃ x, idsK s (k + 1) = idsK s k ++ [x] ∧ x < s.length ∧ allocS (storeK s b k) 1 = (([x], 0), (storeK s b k).set x (some (layP x []))) ∧
      writeS ((storeK s b k).set x (some (layP x []))) (x : Int) ((b.drop (56 * k)).take 56) = (0, storeK s b (k + 1)) := by
  obtain ⟨h1, h2⟩ := takeS_more s k 0
  have hc1 := takeS_count (k + 1) 0 s (by omega)
  have hc := takeS_count k 0 s (by omega)
  have hp : (takeS 0 1 (storeK s b k)).1 = (takeS 0 1 (takeS 0 k s).2).1 := takeS_pat _ _ 1 0 (storeK_pat s b k)
  rw [h1, List.length_append, hc] at hc1
  obtain ⟨x, hx⟩ : ∃ x, (takeS 0 1 (takeS 0 k s).2).1 = [x] := List.length_eq_one_iff.1 (by omega)
  have hxl : x < s.length := by
    have := takeS_lt (k + 1) 0 s x (by rw [h1, hx]; simp)
    omega
  have hids : idsK s (k + 1) = idsK s k ++ [x] := by
    unfold idsK
    rw [h1, hx]
  have hu := storeK_used (b := b) (k := k) (s := s) (by omega)
  have hlen := storeK_length s b k
  refine ⟨x, hids, hxl, ?_, ?_⟩
  · rw [allocS_fits 1 (by omega) (by rw [hlen, hu]; omega), show (1 : Int).toNat = 1 from rfl, takeS_all, hp, hx]
    rfl
  · have hat : ((storeK s b k).set x (some (layP x [])))[x]? = some (some (layP x [])) := by
      rw [List.getElem?_set, if_pos rfl, if_pos (by rw [hlen]; exact hxl)]
    unfold writeS
    rw [pageS_at hat]
    simp only
    rw [if_neg (by rw [List.length_take]; omega)]
    unfold setS
    rw [Int.toNat_natCast, List.set_set]
    have e : storeK s b (k + 1) = (storeK s b k).set x (some (layP x ((b.drop (56 * k)).take 56))) := by
      unfold storeK
      rw [hids, writes_append, show (idsK s k).length = k from idsK_length (by omega)]
    rw [e]
theorem storeK_full {s : St} {b : List UInt8} {k : Nat} (h : k + usedS s = s.length) : allocS (storeK s b k) 1 = (([], 4), storeK s b k) :=
  allocS_full (by omega) (by rw [storeK_length, storeK_used (by omega)]; omega)
theorem freeS_other (s : St) (id : Int) (i : Nat) (h : id ≠ (i : Int)) : (freeS s id).2[i]? = s[i]? := by
  unfold freeS
  cases hp : pageS s id with
  | none => rfl
  | some p =>
    obtain ⟨h0, h1, -⟩ := pageS_lt hp
    show (setS s id none)[i]? = s[i]?
    unfold setS
    rw [List.getElem?_set, if_neg (by omega)]
theorem freeS_self (s : St) (i : Nat) (h : i < s.length) : (freeS s (i : Int)).2[i]? = some none := by
  unfold freeS
  cases hp : pageS s (i : Int) with
  | none =>
    unfold pageS at hp
    rw [if_pos (by omega), Int.toNat_natCast, List.getElem?_eq_getElem h] at hp
    simp only [Option.join_some] at hp
    show s[i]? = some none
    rw [List.getElem?_eq_getElem h, hp]
  | some p =>
    show (setS s (i : Int) none)[i]? = some none
    unfold setS
    rw [Int.toNat_natCast, List.getElem?_set, if_pos rfl, if_pos h]
theorem dropS_other : ∀ (ids : List Int) (s : St) (i : Nat), (∀ j ∈ ids, j ≠ (i : Int)) → (dropS s ids)[i]? = s[i]?
  | [], _, _, _ => rfl
  | id :: t, s, i, h => by
    simp only [dropS]
    rw [dropS_other t _ i (fun j hj => h j (by simp [hj])), freeS_other s id i (h id (by simp))]
theorem dropS_self : ∀ (ids : List Nat) (s : St) (i : Nat), i ∈ ids → i < s.length → (dropS s (ids.map fun (j : Nat) => (j : Int)))[i]? = some none
  | [], _, _, h, _ => by simp at h
  | id :: t, s, i, h, hl => by
    rw [List.map_cons]
    simp only [dropS]
    by_cases ht : i ∈ t
    · exact dropS_self t _ i ht (by rw [freeS_length]; exact hl)
    · have e : i = id := by
        rcases List.mem_cons.1 h with e | e
        · exact e
        · exact absurd e ht
      subst e
      rw [dropS_other _ _ i (fun j hj e => by
        obtain ⟨q, hq, rfl⟩ := List.mem_map.1 hj
        exact ht (by have : q = i := by omega
                     exact this ▸ hq)), freeS_self s i hl]
theorem storeK_back (s : St) (b : List UInt8) (k : Nat) : dropS (storeK s b k) ((idsK s k).map fun (j : Nat) => (j : Int)) = s := by
  apply List.ext_getElem?
  intro i
  by_cases hi : i ∈ idsK s k
  · have hf := takeS_free k 0 s i hi
    rw [Nat.sub_zero] at hf
    rw [dropS_self _ _ i hi (by rw [storeK_length]; exact (List.getElem?_eq_some_iff.1 hf).1), hf]
  · rw [dropS_other _ _ i (fun j hj e => by
      obtain ⟨q, hq, rfl⟩ := List.mem_map.1 hj
      exact hi (by have : q = i := by omega
                   exact this ▸ hq))]
    exact writesS_other _ _ _ _ hi
def goodR (rows : List (List V)) : List (List V) := rows.takeWhile fun r => decide (mayR r = 0)
def putR (s : St) (rows : List (List V)) : (List Nat × Int) × St :=
  match rows.find? fun r => decide (mayR r ≠ 0) with
  | none => if (s.length : Int) - usedS s < needS (rowsB rows).length then (([], 4), s) else ((idsK s (needS (rowsB rows).length).toNat, 0), storeK s (rowsB rows) (needS (rowsB rows).length).toNat)
  | some r => if s.length - usedS s < (rowsB (goodR rows)).length / 56 then (([], 4), s) else (([], mayR r), s)
theorem needS_nat (n : Nat) : (needS (n : Int)).toNat = (n + 55) / 56 := by
  unfold needS
  split
  · have : n = 0 := by omega
    subst this
    rfl
  · omega
theorem needS_ge (n : Nat) : 0 ≤ needS (n : Int) := by
  unfold needS
  split <;> omega
theorem storeK_put {s : St} {b : List UInt8} (h : needS (b.length : Int) ≤ (s.length : Int) - usedS s) : putS s b = ((idsK s (needS (b.length : Int)).toNat, 0), storeK s b (needS (b.length : Int)).toNat) := by
  have ha := allocS_fits (s := s) (needS (b.length : Int)) (by have := needS_ge b.length; omega) (by omega)
  unfold putS
  rw [ha, if_pos rfl]
  simp only
  have e : writesS (takeS 0 (needS (b.length : Int)).toNat s).1 b (takeS 0 (needS (b.length : Int)).toNat s).2 = storeK s b (needS (b.length : Int)).toNat := by
    refine writes_same _ _ _ _ (takeS_length _ _ _) fun i hi => ?_
    rw [takeS_all]
    exact sets_other _ _ _ hi
  rw [e]
  rfl
theorem putR_good {s : St} {rows : List (List V)} (h : ∀ r ∈ rows, mayR r = 0) (hroom : needS ((rowsB rows).length : Int) ≤ (s.length : Int) - usedS s) : putR s rows = putS s (rowsB rows) := by
  unfold putR
  rw [List.find?_eq_none.2 (fun r hr => by simp [h r hr])]
  simp only
  rw [if_neg (by omega), storeK_put hroom]
theorem good_bytes {rows : List (List V)} {j : Nat} (h : ∀ r ∈ rows.take j, mayR r = 0) : ∃ t, goodR rows = rows.take j ++ t := by
  refine ⟨goodR (rows.drop j), ?_⟩
  unfold goodR
  conv => lhs; rw [← List.take_append_drop j rows]
  rw [List.takeWhile_append_of_pos (fun r hr => by simp [h r hr])]
theorem putR_full {s : St} {rows : List (List V)} {j K : Nat} (h : ∀ r ∈ rows.take j, mayR r = 0) (hK : K + usedS s = s.length) (hlen : 56 * (K + 1) ≤ (rowsB (rows.take j)).length) : putR s rows = (([], 4), s) := by
  unfold putR
  cases hf : rows.find? fun r => decide (mayR r ≠ 0) with
  | none =>
    have h1 : (rowsB rows).length = (rowsB (rows.take j)).length + (rowsB (rows.drop j)).length := by
      rw [← List.length_append, ← rowsB_append, List.take_append_drop]
    have h2 := needS_nat (rowsB rows).length
    have h3 := needS_ge (rowsB rows).length
    simp only
    rw [if_pos (by omega)]
  | some r =>
    obtain ⟨t, ht⟩ := good_bytes h
    have h1 : (rowsB (goodR rows)).length = (rowsB (rows.take j)).length + (rowsB t).length := by rw [ht, rowsB_append, List.length_append]
    simp only
    rw [if_pos (by omega)]
theorem putR_bad {s : St} {rows : List (List V)} {j : Nat} (hj : j < rows.length) (h : ∀ r ∈ rows.take j, mayR r = 0) (hbad : mayR rows[j] ≠ 0) (hroom : (rowsB (rows.take j)).length / 56 + usedS s ≤ s.length) : putR s rows = (([], mayR rows[j]), s) := by
  have e : rows = rows.take j ++ rows[j] :: rows.drop (j + 1) := by rw [← List.drop_eq_getElem_cons hj, List.take_append_drop]
  have hf : rows.find? (fun r => decide (mayR r ≠ 0)) = some rows[j] := by
    rw [List.find?_eq_some_iff_append]
    refine ⟨by simpa using hbad, rows.take j, rows.drop (j + 1), e, fun r hr => by simp [h r hr]⟩
  have hg : goodR rows = rows.take j := by
    unfold goodR
    conv => lhs; rw [e]
    rw [List.takeWhile_append_of_pos (fun r hr => by simp [h r hr]), List.takeWhile_cons_of_neg (by simpa using hbad), List.append_nil]
  unfold putR
  rw [hf, hg]
  simp only
  rw [if_neg (by omega)]
theorem putR_all {s : St} {rows : List (List V)} (h : ∀ r ∈ rows, mayR r = 0) : putR s rows = if (s.length : Int) - usedS s < needS (rowsB rows).length then (([], 4), s) else ((idsK s (needS (rowsB rows).length).toNat, 0), storeK s (rowsB rows) (needS (rowsB rows).length).toNat) := by
  unfold putR
  rw [List.find?_eq_none.2 (fun r hr => by simp [h r hr])]
end Go.Proofs.YtaoegcakefodaaaGreat

namespace Go.Proofs.YtaoegcakefodaaaGreat
open Go.RowKit
def OwnL (base : Nat) (w : World) (v : Value) (l : List UInt8) : Prop :=
  (v = .slice none 0 0 ∧ l = []) ∨ ∃ g off cap, v = .slice (some ⟨g, off, none⟩) l.length cap ∧ base ≤ g ∧ l.length ≤ cap ∧ cap ≤ maxLen ∧ (∀ i u, (l.map bv)[i]? = some u → w.cell? ⟨g, off + i, none⟩ = some u) ∧ ∀ i, w.frozen? ⟨g, i, none⟩ = false
theorem OwnL.rd {base : Nat} {w : World} {v : Value} {l : List UInt8} (h : OwnL base w v l) : Rd w v l := by
  rcases h with ⟨rfl, rfl⟩ | ⟨g, off, cap, rfl, _, h2, h3, h4, _⟩
  · exact Rd.nil w
  · exact .inr ⟨_, cap, by rw [List.length_map], by rw [List.length_map]; exact h2, h3, fun i u hu => by rw [add_at]; exact h4 i u hu⟩
theorem OwnL.of_owns {base : Nat} {w : World} {v : Value} {l : List UInt8} (h : w.ownsRow base 5 1 v l.length (l.map bv)) : OwnL base w v l := by
  rcases h.2 with ⟨h1, h2⟩ | ⟨g, cap, cur, rfl, h2, h3, h4, h5, _⟩
  · exact .inl ⟨h1, List.length_eq_zero_iff.1 h2⟩
  · exact .inr ⟨g, 0, cap, rfl, h2, h4, h5, fun i u hu => by
      have := h.cells (g := g) rfl i u hu
      rw [add_at] at this
      exact this, h.frozenAt⟩
def Took (w : World) (l : List UInt8) (e : Ending) (w' : World) : Prop :=
  ((∃ v m r, takeV l = some (v, m) ∧ e = .returned (.tuple #[v.val, r, .int .i64 0]) ∧ OwnL w.heap.size w' r m) ∨
   (takeV l = none ∧ e = .returned (.tuple #[.agg #[.int .u8 0, .int .i64 0, .string ⟨#[]⟩], .slice none 0 0, .int .i64 6]))) ∧ Ext w w'
theorem frozen_ext {w w' : World} {N : Nat} (hb : Below N w w') {g i : Nat} (hg : g < N) : w'.frozen? ⟨g, i, none⟩ = w.frozen? ⟨g, i, none⟩ := by
  unfold World.frozen?
  rw [hb.block g hg]
end Go.Proofs.YtaoegcakefodaaaGreat

namespace Go.Proofs.YtaoegcakefodaaaGreat
open Go.RowKit Go.BigFrame
theorem ext_one (w : World) (o : Obj) : Ext w (w.alloc o) := (Below.refl _ w).alloc (Nat.le_refl _) _
theorem ext_two (w : World) (o o' : Obj) : Ext w ((w.alloc o).alloc o') := ((Below.refl _ w).alloc (Nat.le_refl _) _).alloc (by simp) _
end Go.Proofs.YtaoegcakefodaaaGreat

namespace Go.Proofs.YtaoegcakefodaaaGreat
open Go.RowKit Go.BigFrame
theorem eq_val (a b : V) (w : World) : (binOp .eql 56 a.val b.val).run Tryz.prog w = .ok (.bool (decide (a = b))) w := by
  obtain ⟨k, n, s⟩ := a
  obtain ⟨k', n', s'⟩ := b
  unfold V.val
  simp only [V.mk.injEq]
  simp [go_sem]
  by_cases h1 : k = k' <;> by_cases h2 : n = n' <;> by_cases h3 : s = s' <;> simp [h1, h2, h3]
end Go.Proofs.YtaoegcakefodaaaGreat

namespace Go.Proofs.YtaoegcakefodaaaGreat
open Go.RowKit Go.BigFrame
theorem new_cell (w : World) (xs : List Value) (t : TypeId) : ∀ j u, xs[j]? = some u → (w.alloc (.cells xs.toArray t)).cell? ⟨w.heap.size, j, none⟩ = some u := by
  intro j u hj
  unfold World.cell?
  rw [heap_alloc_new]
  simpa using hj
theorem kept_cell {w w' : World} {b : Nat} {xs : List Value} (h : ∀ j u, xs[j]? = some u → w.cell? ⟨b, j, none⟩ = some u) (hb : Ext w w') : ∀ j u, xs[j]? = some u → w'.cell? ⟨b, j, none⟩ = some u := fun j u hj => by
  have hc := h j u hj
  rw [← hc]
  exact hb.cell (lt_of_cell hc)
theorem cells_two0 (w : World) (xs ys : List Value) (t : TypeId) : ∀ j u, xs[j]? = some u → ((w.alloc (.cells xs.toArray t)).alloc (.cells ys.toArray t)).cell? ⟨w.heap.size, j, none⟩ = some u :=
  kept_cell (new_cell w xs t) (ext_one _ _)
theorem cells_two1 (w : World) (xs ys : List Value) (t : TypeId) : ∀ j u, ys[j]? = some u → ((w.alloc (.cells xs.toArray t)).alloc (.cells ys.toArray t)).cell? ⟨w.heap.size + 1, j, none⟩ = some u := by
  have h := new_cell (w.alloc (.cells xs.toArray t)) ys t
  have e : (w.alloc (.cells xs.toArray t)).heap.size = w.heap.size + 1 := by simp
  rw [e] at h
  exact h
theorem later_cell {w : World} {b : Nat} {xs : List Value} (h : ∀ j u, xs[j]? = some u → w.cell? ⟨b, j, none⟩ = some u) (j : Nat) (u : Value) (hj : xs[j]? = some u) : ∀ z : Later Ext w.drew, z.val.cell? ⟨b, j, none⟩ = some u :=
  fun z => kept_cell h (Ext.trans (Ext.drew w) z.ext) j u hj
end Go.Proofs.YtaoegcakefodaaaGreat

namespace Go.Proofs.YtaoegcakefodaaaGreat
open Go.RowKit
open Go.Shelf in
def lays64_ren : Go.Shelf.Ren := ⟨fun | 129 => 156 | n => n, fun | 53 => 101 | 3 => 3 | 4 => 4 | 46 => 111 | 5 => 5 | 9 => 9 | n => n, fun | n => n⟩ -- 157
open Go.Shelf in
theorem lays64 : Go.Proofs.Lays.n129 Tryz.prog lays64_ren := {
  mixed := by kernel_rfl
  f129 := Tryz.func156.trans (congrArg some (by kernel_rfl))
  t3 := Tryz.underlying3
  a3 := Tryz.isAgg3
  z3 := Tryz.sizeOf3
  v3 := Tryz.zeroValue3
  t4 := Tryz.underlying4
  a4 := Tryz.isAgg4
  z4 := Tryz.sizeOf4
  v4 := Tryz.zeroValue4
  t5 := Tryz.underlying5
  a5 := Tryz.isAgg5
  z5 := Tryz.sizeOf5
  v5 := Tryz.zeroValue5
  t9 := Tryz.underlying9
  a9 := Tryz.isAgg9
  z9 := Tryz.sizeOf9
  v9 := Tryz.zeroValue9
  t46 := Tryz.underlying111
  a46 := Tryz.isAgg111
  z46 := Tryz.sizeOf111
  v46 := Tryz.zeroValue111
  t53 := Tryz.underlying101
  a53 := Tryz.isAgg101
  z53 := Tryz.sizeOf101
  v53 := Tryz.zeroValue101 }
theorem len64 (x : Nat) (w : World) (h1 : x ≤ 18446744073709551615) :
    Calls Tryz.prog 156 #[.int .u64 x] w fun e w' => e = .returned (.int .i64 (Lib.bitLen x)) ∧ w = w' :=
  (Any.bits_Len64 lays64 x w (by omega) (by omega)).mono fun e w' ⟨he, hw⟩ => ⟨by simpa using he, hw.symm⟩
theorem or_one (x : Int) (h0 : 0 ≤ x) (h1 : x ≤ 9223372036854775807) : bits BinOp.or IntKind.u64 (x * 2) 1 = x * 2 + 1 := u64_or_low x 1 1 h0 (by omega) (by omega) (by omega)
theorem fold_any (n : Int) (w : World) (h0 : -9223372036854775808 ≤ n) (h1 : n ≤ 9223372036854775807) :
    Calls Tryz.prog 157 #[.int .i64 n] w fun e w' => e = .returned (.int .u64 (zig n)) ∧ w = w' := by
  by_cases h : n < 0
  · go_enter Tryz.func157, Tryz.ntmps157
    go_wp2
    go_ret
    refine ⟨congrArg Ending.returned (congrArg (Value.int IntKind.u64) ?_), rfl⟩
    rw [zig_neg n h]
    exact or_one _ (by omega) (by omega)
  · go_enter Tryz.func157, Tryz.ntmps157
    go_wp2
    go_ret
    refine ⟨congrArg Ending.returned (congrArg (Value.int IntKind.u64) ?_), rfl⟩
    rw [zig_pos n (by omega)]
set_option maxHeartbeats 400000 in
theorem copyOf_nil (m : Int) (w : World) (h0 : 0 ≤ m) (h1 : m ≤ 140737488355328) :
    Calls Tryz.prog 143 #[.slice none 0 0, .int .i64 m] w (Fresh 5 w []) := by
  obtain ⟨i0, hi, hz0, hz1, hz2⟩ := info_parts Tryz.info5
  go_enter Tryz.func143, Tryz.ntmps143
  go_wp2_with (first | (at_make; refine wpList_make_own _ rfl _ _ 36 rfl w.heap.size 5 i0 (.int .u8 0) 1 Tryz.underlying36 hi hz0 hz1 _ _ _ m.toNat rfl rfl (by omega) (by rw [hz2]; omega) (by unfold maxLen; omega) (Nat.le_refl _) ?_; intro w1 hown1 hgrow1) | (at_builtin; go_loud (refine wpList_append_own_none rfl _ _ 36 rfl w.heap.size 5 i0 1 Tryz.underlying36 hi _ _ _ rfl hown1 rfl ?_)))
  go_ret
  exact ⟨_, rfl, hown1, (Below.refl _ _).grown hgrow1 (Nat.le_refl _) (fun k hk => by cases hk)⟩
set_option maxHeartbeats 400000 in
theorem copyOf_some (x : Addr) (L cap : Nat) (xs : List Value) (m : Int) (w : World) (hL : xs.length = L) (hc : ∀ i u, xs[i]? = some u → w.cell? (x.add i) = some u)
    (h1c : ∀ u ∈ xs, u.oneCell' = true) (h0 : 0 ≤ m) (h1 : L + m ≤ 140737488355328) :
    Calls Tryz.prog 143 #[.slice (some x) L cap, .int .i64 m] w (Fresh 5 w xs) := by
  obtain ⟨i0, hi, hz0, hz1, hz2⟩ := info_parts Tryz.info5
  have HL := Lib.hid hL
  have HC := Lib.hid hc
  have H1 := Lib.hid h1c
  clear hL hc h1c
  go_enter Tryz.func143, Tryz.ntmps143
  go_wp2_with (first | (at_make; go_loud (refine wpList_make_own _ rfl _ _ 36 rfl w.heap.size 5 i0 (.int .u8 0) 1 Tryz.underlying36 hi hz0 hz1 _ _ _ (L + m.toNat) rfl rfl (by omega) (by rw [hz2]; omega) (by unfold maxLen; omega) (Nat.le_refl _) ?_); intro w1 hown1 hgrow1) | (at_builtin; go_loud (refine wpList_append_own _ rfl _ _ 36 rfl w.heap.size 5 i0 (.int .u8 0) 1 1 Tryz.underlying36 hi hz0 hz1 hz2 rfl (by decide) _ _ _ rfl hown1 x L cap xs rfl (by rw [HL.out, Nat.mul_one]) (kept_cells hgrow1 HC.out) H1.out (by unfold maxLen; omega) (by omega) hgrow1.size ?_); intro v2 w2 hown2 hgrow2 _))
  go_ret
  refine ⟨_, rfl, ?_, ((Below.refl _ _).grown hgrow1 (Nat.le_refl _) (fun k hk => by cases hk)).grown hgrow2 hgrow1.size ?_⟩
  · rw [HL.out]; simpa using hown2
  · intro k hk; cases hk; exact Nat.le_refl _
theorem copyOf_any (v : Value) (l : List UInt8) (m : Int) (w : World) (hr : Rd w v l) (h0 : 0 ≤ m) (h1 : l.length + m ≤ 140737488355328) :
    Calls Tryz.prog 143 #[v, .int .i64 m] w (Fresh 5 w (l.map bv)) := by
  rcases hr with ⟨rfl, h2⟩ | ⟨x, cap, rfl, h2, h3, h4⟩
  · rw [h2]; exact copyOf_nil m w h0 (by omega)
  · exact copyOf_some x _ cap _ m w rfl h4 (bv_oneCell l) h0 (by simpa using h1)
set_option maxRecDepth 100000 in
set_option maxHeartbeats 400000 in
theorem putNum_small (v : Value) (l : List UInt8) (n : Nat) (base : Nat) (w : World) (hown : w.ownsRow base 5 1 v l.length (l.map bv)) (hb : base ≤ w.heap.size) (hl : l.length + 9 ≤ 140737488355328) (hn : n < 248) :
    Calls Tryz.prog 142 #[v, .int .u64 n] w fun e w' => ∃ v', e = .returned v' ∧ w'.ownsRow base 5 1 v' (l ++ enc n).length ((l ++ enc n).map bv) ∧ Below base w w' := by
  obtain ⟨i0, hi, hz0, hz1, hz2⟩ := info_parts Tryz.info5
  go_enter Tryz.func142, Tryz.ntmps142
  go_wp2_with (first | (at_builtin; go_loud (refine wpList_append_own _ rfl _ _ 36 rfl base 5 i0 (.int .u8 0) 1 1 Tryz.underlying36 hi hz0 hz1 hz2 rfl (by decide) _ _ _ rfl (hown.alloc _) ⟨w.heap.size, 0, none⟩ 1 1 [.int .u8 n] rfl rfl (cell_one_new _ _ _) (by simp [Value.oneCell']) (by unfold maxLen; omega) (by omega) (by simp; omega) ?_); intro v2 w2 hown2 hgrow2 _))
  go_ret
  refine ⟨_, rfl, ?_, ((Below.refl _ _).alloc hb _).grown hgrow2 (by simp; omega) (fun k hk => (hown.lt k hk).1)⟩
  have e : enc n = [UInt8.ofNat n] := by unfold enc; rw [if_pos hn]
  rw [e, List.map_append, List.length_append]
  simpa [bv, Nat.mod_eq_of_lt (show n < 256 by omega)] using hown2
def cur (l : List UInt8) (n j : Nat) : List UInt8 := l ++ UInt8.ofNat (247 + nb n) :: (be (nb n) n).take (nb n - j)
theorem bv_shift (n m : Nat) : bv (UInt8.ofNat (n / 256 ^ m)) = Value.int .u8 ((n : Int) / 2 ^ (8 * m) % 256) := by
  have e : (256 : Nat) ^ m = 2 ^ (8 * m) := by rw [Nat.pow_mul]
  unfold bv
  rw [e, UInt8.toNat_ofNat']
  congr 1
theorem cur_top (l : List UInt8) (n : Nat) : cur l n (nb n) = l ++ [UInt8.ofNat (247 + nb n)] := by simp [cur]
theorem cur_zero (l : List UInt8) (n : Nat) (h : 248 ≤ n) : cur l n 0 = l ++ enc n := by
  unfold cur enc
  rw [if_neg (by omega), List.take_of_length_le (by rw [be_length]; omega)]
theorem cur_snoc (l : List UInt8) (n j : Nat) (h : j < nb n) : cur l n j = cur l n (j + 1) ++ [UInt8.ofNat (n / 256 ^ j)] := by
  unfold cur
  rw [be_take_snoc (nb n) j n h]
  simp
theorem cur_length (l : List UInt8) (n j : Nat) (h : j ≤ nb n) : (cur l n j).length + j ≤ l.length + 9 := by
  have := nb_le n
  simp [cur, be_length]
  omega
set_option maxRecDepth 100000 in
set_option maxHeartbeats 1000000 in
theorem putNum_big (v : Value) (l : List UInt8) (n : Nat) (base : Nat) (w : World) (hown : w.ownsRow base 5 1 v l.length (l.map bv)) (hb : base ≤ w.heap.size) (hl : l.length + 9 ≤ 140737488355328) (hn : 248 ≤ n) (hn2 : n ≤ 18446744073709551615) :
    Calls Tryz.prog 142 #[v, .int .u64 n] w fun e w' => ∃ v', e = .returned v' ∧ w'.ownsRow base 5 1 v' (l ++ enc n).length ((l ++ enc n).map bv) ∧ Below base w w' := by
  obtain ⟨i0, hi, hz0, hz1, hz2⟩ := info_parts Tryz.info5
  have hB := bitLen_le n
  have hn8 : decide ((n : Int) < 248) = false := by simp; omega
  have HN := Lib.hid (show nb n = (Lib.bitLen n + 7) / 8 from rfl)
  go_enter Tryz.func142, Tryz.ntmps142
  go_wp2_with fail
  refine (len64 n _ hn2).mono ?_
  rintro e w' ⟨rfl, rfl⟩
  go_wp2_with (first | (at_builtin; go_loud (refine wpList_append_own _ rfl _ _ 36 rfl base 5 i0 (.int .u8 0) 1 1 Tryz.underlying36 hi hz0 hz1 hz2 rfl (by decide) _ _ _ rfl (hown.alloc _) ⟨w.heap.size, 0, none⟩ 1 1 [_] rfl rfl (cell_one_new _ _ _) (by simp [Value.oneCell']) (by unfold maxLen; omega) (by omega) (by simp; omega) ?_); intro v2 w2 hown2 hgrow2 _))
  have hbel2 : Below base w w2 := ((Below.refl _ _).alloc hb _).grown hgrow2 (by simp; omega) (fun k hk => (hown.lt k hk).1)
  have hown2' : w2.ownsRow base 5 1 v2 (cur l n (nb n)).length ((cur l n (nb n)).map bv) := by
    rw [cur_top, List.map_append, List.length_append]
    have e : bv (UInt8.ofNat (247 + nb n)) = Value.int .u8 (247 + ((Lib.bitLen n : Int) + 7) / 8) := by
      unfold bv
      rw [UInt8.toNat_ofNat', HN.out, Nat.mod_eq_of_lt (by omega)]
      congr 1
    rw [List.map_singleton, e]
    simpa using hown2
  clear hown2 hgrow2
  go_loopw [0, 6] (fun v0 i wr => ∃ j : Nat, j ≤ nb n ∧ i = .int .i64 ((j : Int) - 1) ∧ wr.ownsRow base 5 1 v0 (cur l n j).length ((cur l n j).map bv) ∧ Below base w wr) (fun _ i _ => (intOf i + 1).toNat)
  case atStart =>
    refine ⟨nb n, Nat.le_refl _, ?_, ?_, ?_⟩
    · rw [HN.out]; congr 1
    · exact hown2'
    · exact hbel2
  case round =>
    obtain ⟨j, hj, rfl, hown, hbel⟩ := hrel
    have hK : nb n ≤ 8 := nb_le n
    by_cases hj0 : j = 0
    · subst hj0
      go_wp2
      go_ret
      rw [cur_zero l n hn] at hown
      exact ⟨_, rfl, hown, hbel⟩
    · have hcl := cur_length l n j hj
      have hj1 : 1 ≤ j := by omega
      have hs := hbel.size
      go_wp2_with (first | (at_builtin; go_loud (refine wpList_append_own _ rfl _ _ 36 rfl base 5 i0 (.int .u8 0) 1 1 Tryz.underlying36 hi hz0 hz1 hz2 rfl (by decide) _ _ _ rfl (hown.alloc _) ⟨wr.heap.size, 0, none⟩ 1 1 [_] rfl rfl (cell_one_new _ _ _) (by simp [Value.oneCell']) (by unfold maxLen; omega) (by omega) (by simp; omega) ?_); intro v3 w3 hown3 hgrow3 _))
      go_roundw
      case rel =>
        refine ⟨j - 1, by omega, by congr 1; omega, ?_, (hbel.alloc (by omega) _).grown hgrow3 (by simp; omega) (fun k hk => (hown.lt k hk).1)⟩
        rw [cur_snoc l n (j - 1) (by omega), Nat.sub_add_cancel hj1, List.map_append, List.map_singleton, bv_shift, List.length_append]
        exact hown3
      case measure => simp [intOf]; omega
theorem putNum_any (v : Value) (l : List UInt8) (n : Nat) (base : Nat) (w : World) (hown : w.ownsRow base 5 1 v (l.map bv).length (l.map bv)) (hb : base ≤ w.heap.size) (hl : l.length + 9 ≤ 140737488355328) (hn : n ≤ 18446744073709551615) :
    Calls Tryz.prog 142 #[v, .int .u64 n] w fun e w' => ∃ v', e = .returned v' ∧ w'.ownsRow base 5 1 v' ((l ++ enc n).map bv).length ((l ++ enc n).map bv) ∧ Below base w w' := by
  rw [List.length_map] at *
  by_cases h : n < 248
  · exact putNum_small v l n base w hown hb hl h
  · exact putNum_big v l n base w hown hb hl (by omega) hn
theorem Num_any (v : Value) (l : List UInt8) (n : Nat) (w : World) (hr : Rd w v l) (hl : l.length + 9 ≤ 140737488355328) (hn : n ≤ 18446744073709551615) :
    Calls Tryz.prog 126 #[v, .int .u64 n] w (Fresh 5 w ((l ++ enc n).map bv)) := by
  go_enter Tryz.func126, Tryz.ntmps126
  go_wp2_with fail
  refine (copyOf_any v l 9 _ hr (by omega) (by omega)).mono ?_
  rintro e w1 ⟨v1, rfl, hown1, hbel1⟩
  go_wp2_with fail
  refine (putNum_any v1 l n w.heap.size _ hown1 hbel1.size hl hn).mono ?_
  rintro e w2 ⟨v2, rfl, hown2, hbel2⟩
  go_wp2_with fail
  go_ret
  exact ⟨_, rfl, hown2, hbel1.trans hbel2⟩
theorem Int_any (v : Value) (l : List UInt8) (n : Int) (w : World) (hr : Rd w v l) (hl : l.length + 9 ≤ 140737488355328) (h0 : -9223372036854775808 ≤ n) (h1 : n ≤ 9223372036854775807) :
    Calls Tryz.prog 144 #[v, .int .i64 n] w (Fresh 5 w ((l ++ enc (zig n)).map bv)) := by
  have hz : zig n ≤ 18446744073709551615 := by unfold zig; split <;> omega
  go_enter Tryz.func144, Tryz.ntmps144
  go_wp2_with fail
  refine (fold_any n _ h0 h1).mono ?_
  rintro e w1 ⟨rfl, rfl⟩
  go_wp2_with fail
  refine (Num_any v l (zig n) _ hr hl hz).mono ?_
  rintro e w2 ⟨v2, rfl, hown2, hbel2⟩
  go_wp2_with fail
  go_ret
  exact ⟨_, rfl, hown2, hbel2⟩
set_option maxHeartbeats 400000 in
theorem Text_any (v : Value) (l : List UInt8) (s : ByteArray) (w : World) (hr : Rd w v l) (hl : l.length + 9 + s.size ≤ 140737488355328) :
    Calls Tryz.prog 145 #[v, .string s] w (Fresh 5 w ((l ++ enc s.size ++ s.data.toList).map bv)) := by
  obtain ⟨i0, hi, hz0, hz1, hz2⟩ := info_parts Tryz.info5
  go_enter Tryz.func145, Tryz.ntmps145
  go_wp2_with fail
  refine (copyOf_any v l (9 + s.size) _ hr (by omega) (by omega)).mono ?_
  rintro e w1 ⟨v1, rfl, hown1, hbel1⟩
  go_wp2_with fail
  refine (putNum_any v1 l s.size w.heap.size _ hown1 hbel1.size (by omega) (by omega)).mono ?_
  rintro e w2 ⟨v2, rfl, hown2, hbel2⟩
  have hle : (List.map bv (l ++ enc s.size)).length + s.size ≤ 140737488355328 := by
    have := enc_length s.size
    simp
    omega
  go_wp2_with (first | (at_builtin; go_loud (refine Lib.wpList_append_own_string _ rfl _ _ 36 9 rfl w.heap.size 5 i0 Tryz.underlying36 Tryz.underlying9 hi hz0 hz1 hz2 _ _ _ rfl hown2 s rfl (by unfold maxLen; omega) hle (hbel1.trans hbel2).size ?_); intro v3 w3 hown3 hgrow3 _))
  go_ret
  refine ⟨_, rfl, ?_, (hbel1.trans hbel2).grown hgrow3 (hbel1.trans hbel2).size (fun k hk => (hown2.lt k hk).1)⟩
  have e : Lib.strCells s = s.data.toList.map bv := rfl
  rw [e] at hown3
  have hl3 : s.data.toList.length = s.size := Array.length_toList
  simpa [hl3, Nat.add_assoc] using hown3
end Go.Proofs.YtaoegcakefodaaaGreat

namespace Go.Proofs.YtaoegcakefodaaaGreat
open Go.RowKit Go.BigFrame
theorem own_low {b b' : Nat} {e : TypeId} {size : Nat} {w : World} {v : Value} {n : Nat} {xs : List Value} (h : w.ownsRow b e size v n xs) (hb : b' ≤ b) : w.ownsRow b' e size v n xs := by
  refine ⟨h.1, ?_⟩
  rcases h.2 with h | ⟨g, cap, cur, h1, h2, h3⟩
  · exact .inl h
  · exact .inr ⟨g, cap, cur, h1, by omega, h3⟩
theorem three_stored {w : World} {B : Nat} {a b c : Value} (h : ∀ j u, ([a, b, c] : List Value)[j]? = some u → w.cell? ⟨B, j, none⟩ = some u) (x y z : Value) :
    ∀ j u, ([x, y, z] : List Value)[j]? = some u → (((w.setCell ⟨B, 0, none⟩ x).setCell ⟨B, 1, none⟩ y).setCell ⟨B, 2, none⟩ z).cell? ⟨B, j, none⟩ = some u := by
  have k0 := h 0 _ rfl
  have k1 : (w.setCell ⟨B, 0, none⟩ x).cell? ⟨B, 1, none⟩ = some b := by
    rw [World.cell?_setCell_other]
    · exact h 1 _ rfl
    all_goals simp
  have k2 : ((w.setCell ⟨B, 0, none⟩ x).setCell ⟨B, 1, none⟩ y).cell? ⟨B, 2, none⟩ = some c := by
    rw [World.cell?_setCell_other, World.cell?_setCell_other]
    · exact h 2 _ rfl
    all_goals simp
  intro j u hj
  match j, hj with
  | 0, hj =>
    cases hj
    rw [World.cell?_setCell_other, World.cell?_setCell_other]
    · exact World.cell?_setCell_same _ _ _ k0
    all_goals simp
  | 1, hj =>
    cases hj
    rw [World.cell?_setCell_other]
    · exact World.cell?_setCell_same _ _ _ k1
    all_goals simp
  | 2, hj =>
    cases hj
    exact World.cell?_setCell_same _ _ _ k2
end Go.Proofs.YtaoegcakefodaaaGreat

namespace Go.Proofs.YtaoegcakefodaaaGreat
open Go.ChangeAt Go.RowKit
theorem Tryz.info_val : (Tryz.prog.info? 56).map (fun i => (i.zero, i.size, i.bytes)) = some (some (.agg #[.int .u8 0, .int .i64 0, .string ByteArray.empty]), 3, 32) := by kernel_rfl
theorem val_oneCell (v : V) : ∀ u ∈ v.cells, u.oneCell' = true := by
  intro u hu
  simp only [V.cells, List.mem_cons, List.not_mem_nil, or_false] at hu
  rcases hu with rfl | rfl | rfl <;> rfl
theorem valCells (l : List V) (j : Nat) (hj : j < l.length) (i : Nat) (hi : i < 3) : (l.flatMap V.cells)[j * 3 + i]? = (l[j].cells)[i]? := by
  induction l generalizing j with
  | nil => simp at hj
  | cons a t ih =>
    have hc : a.cells.length = 3 := rfl
    cases j with
    | zero =>
      rw [List.flatMap_cons, Nat.zero_mul, Nat.zero_add, List.getElem?_append_left (by omega)]
      rfl
    | succ j =>
      have h := ih j (by simpa using hj)
      rw [List.flatMap_cons, List.getElem?_append_right (by omega), hc, show (j + 1) * 3 + i - 3 = j * 3 + i by omega]
      exact h
theorem valCells_length (l : List V) : (l.flatMap V.cells).length = l.length * 3 := by
  induction l with
  | nil => rfl
  | cons a t ih => rw [List.flatMap_cons, List.length_append, ih, List.length_cons]; show 3 + _ = _; omega
theorem RdVals.of_owns {E : TypeId} {base : Nat} {w : World} {v : Value} {l : List V} (h : w.ownsRow base E 3 v l.length (l.flatMap V.cells)) : RdVals w v l := by
  rcases h.2 with ⟨h1, h2⟩ | ⟨g, cap, cur, rfl, h2, h3, h4, h5, _⟩
  · obtain rfl := List.length_eq_zero_iff.1 h2
    rw [h1]
    exact RdVals.nil w
  · have hc := fun i u hu => h.cells (g := g) rfl i u hu
    refine ⟨_, cap, rfl, h4, h5, fun j hj => ⟨g, 0, rfl, fun i y hy => ?_⟩⟩
    have hi : i < 3 := (List.getElem?_eq_some_iff.1 hy).1
    have c := hc _ _ ((valCells l j hj i hi).trans hy)
    rw [add_at] at c
    rw [Nat.add_assoc]
    exact c
theorem RdVals.take {w : World} {ao : Option Addr} {N cap : Nat} {l : List V} (h : RdVals w (.slice ao N cap) l) (K : Nat) (hK : K ≤ N) : RdVals w (.slice ao K cap) (l.take K) := by
  obtain ⟨a', cap', h1, h2, h3, h4⟩ := h
  simp only [Value.slice.injEq] at h1
  obtain ⟨rfl, rfl, rfl⟩ := h1
  have hl : (l.take K).length = K := by rw [List.length_take]; omega
  refine ⟨ao, cap, by rw [hl], by omega, h3, fun j hj => ?_⟩
  rw [List.getElem_take]
  exact h4 j (by omega)
theorem RdVals.plain {w : World} {ao : Option Addr} {N cap : Nat} {l : List V} (h : RdVals w (.slice ao N cap) l) : N = l.length ∧ N ≤ cap ∧ cap ≤ maxLen ∧ ∀ j, (hj : j < l.length) → ∃ g off, ao = some ⟨g, off, none⟩ ∧
    w.cell? ⟨g, off + j * 3, none⟩ = some (.int .u8 l[j].k) ∧ w.cell? ⟨g, off + j * 3 + 1, none⟩ = some (.int .i64 l[j].n) ∧ w.cell? ⟨g, off + j * 3 + 2, none⟩ = some (.string ⟨l[j].s.toArray⟩) := by
  obtain ⟨a', cap', h1, h2, h3, h4⟩ := h
  simp only [Value.slice.injEq] at h1
  obtain ⟨rfl, rfl, rfl⟩ := h1
  refine ⟨rfl, h2, h3, fun j hj => ?_⟩
  obtain ⟨g, off, e, hc⟩ := h4 j hj
  exact ⟨g, off, e, hc 0 _ rfl, hc 1 _ rfl, hc 2 _ rfl⟩
end Go.Proofs.YtaoegcakefodaaaGreat

