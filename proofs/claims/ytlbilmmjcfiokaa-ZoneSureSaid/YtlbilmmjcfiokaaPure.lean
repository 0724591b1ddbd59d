/-
  The document's encoding of an unsigned integer, as a function on numbers, and plain facts of it. No program.
-/
import Derived.Lib.BitFns
import Derived.WalkKit
import Derived.Test.YtlbilmmjcfiokaaBase
namespace Go.Proofs.Ytlbilmmjcfiokaa
open Go.RowKit

/-- The k bytes of n, the most significant first. -/
def be : Nat → Nat → List UInt8
  | 0, _ => []
  | k + 1, n => UInt8.ofNat (n / 256 ^ k) :: be k n

/-- How many bytes hold n. -/
def nb (n : Nat) : Nat := (Lib.bitLen n + 7) / 8

/-- The encoding of n. -/
def enc (n : Nat) : List UInt8 := if n < 248 then [UInt8.ofNat n] else UInt8.ofNat (247 + nb n) :: be (nb n) n

theorem be_length : ∀ k n, (be k n).length = k
  | 0, _ => rfl
  | k + 1, n => by simp [be, be_length k n]

theorem be_take_snoc : ∀ (k j n : Nat), j < k → (be k n).take (k - j) = (be k n).take (k - (j + 1)) ++ [UInt8.ofNat (n / 256 ^ j)]
  | 0, j, n, h => by omega
  | k + 1, j, n, h => by
    by_cases hj : j = k
    · subst hj
      simp [be, show j + 1 - j = 1 from by omega]
    · rw [show k + 1 - j = (k - j) + 1 from by omega, show k + 1 - (j + 1) = (k - (j + 1)) + 1 from by omega]
      simp only [be, List.take_succ_cons, List.cons_append]
      rw [be_take_snoc k j n (by omega)]

theorem bitLen_le (n : Nat) : Lib.bitLen n ≤ 64 := by
  unfold Lib.bitLen
  generalize 64 = f
  induction f generalizing n with
  | zero => simp [Lib.bitLenAux]
  | succ f ih =>
    simp only [Lib.bitLenAux]
    have := ih (n / 2)
    split <;> omega

theorem nb_le (n : Nat) : nb n ≤ 8 := by have := bitLen_le n; unfold nb; omega

theorem enc_length (n : Nat) : (enc n).length ≤ 9 := by
  have := nb_le n
  unfold enc
  split <;> simp [be_length]
  omega

theorem bitLen_lt (n : Nat) (h : n < 2 ^ 64) : n < 2 ^ Lib.bitLen n := by
  have key : ∀ f n, n < 2 ^ f → n < 2 ^ Lib.bitLenAux f n := by
    intro f
    induction f with
    | zero => intro n h; simpa [Lib.bitLenAux] using h
    | succ f ih =>
      intro n h
      simp only [Lib.bitLenAux]
      split
      · subst_vars; simp
      · have := ih (n / 2) (by rw [Nat.pow_succ] at h; omega)
        rw [Nat.add_comm, Nat.pow_succ]
        omega
  exact key 64 n h

theorem bitLen_ge (n : Nat) (h0 : n ≠ 0) : 2 ^ (Lib.bitLen n - 1) ≤ n := by
  have key : ∀ f n, n ≠ 0 → 2 ^ (Lib.bitLenAux f n - 1) ≤ n := by
    intro f
    induction f with
    | zero => intro n h; simp [Lib.bitLenAux]; omega
    | succ f ih =>
      intro n h
      simp only [Lib.bitLenAux, if_neg h]
      by_cases h2 : n / 2 = 0
      · have : Lib.bitLenAux f (n / 2) = 0 := by rw [h2]; cases f <;> simp [Lib.bitLenAux]
        rw [this]; simp; omega
      · have := ih (n / 2) h2
        by_cases hz : Lib.bitLenAux f (n / 2) = 0
        · rw [hz]; simp; omega
        · rw [show 1 + Lib.bitLenAux f (n / 2) - 1 = (Lib.bitLenAux f (n / 2) - 1) + 1 from by omega, Nat.pow_succ]
          omega
  exact key 64 n h0

theorem nb_lt (n : Nat) (h : n < 2 ^ 64) : n < 256 ^ nb n := by
  have h1 := bitLen_lt n h
  have e : (256 : Nat) ^ nb n = 2 ^ (8 * nb n) := by rw [Nat.pow_mul]
  rw [e]
  refine Nat.lt_of_lt_of_le h1 (Nat.pow_le_pow_right (by decide) ?_)
  unfold nb
  omega

theorem nb_ge (n : Nat) (h : n ≠ 0) : 256 ^ (nb n - 1) ≤ n := by
  have h1 := bitLen_ge n h
  have e : (256 : Nat) ^ (nb n - 1) = 2 ^ (8 * (nb n - 1)) := by rw [Nat.pow_mul]
  rw [e]
  refine Nat.le_trans (Nat.pow_le_pow_right (by decide) ?_) h1
  unfold nb
  omega

theorem nb_pos (n : Nat) (h : n ≠ 0) (h2 : n < 2 ^ 64) : 1 ≤ nb n := by
  have := nb_lt n h2
  by_cases h0 : nb n = 0
  · rw [h0] at this; simp at this; omega
  · omega

/-- How many bytes hold n is told by its bounds. -/
theorem nb_eq (n k : Nat) (h1 : n < 256 ^ k) (h2 : 256 ^ (k - 1) ≤ n) (hk : 1 ≤ k) (hn : n < 2 ^ 64) : nb n = k := by
  have hp : 0 < 256 ^ (k - 1) := Nat.pow_pos (by decide)
  have a := nb_lt n hn
  have b := nb_ge n (by omega)
  have c := nb_pos n (by omega) hn
  have u1 : ¬ nb n < k := fun h => by
    have := Nat.pow_le_pow_right (show 0 < 256 by decide) (show nb n ≤ k - 1 by omega)
    omega
  have u2 : ¬ k < nb n := fun h => by
    have := Nat.pow_le_pow_right (show 0 < 256 by decide) (show k ≤ nb n - 1 by omega)
    omega
  omega

theorem be_mod : ∀ (k n : Nat), be k n = be k (n % 256 ^ k)
  | 0, _ => rfl
  | k + 1, n => by
    simp only [be]
    have e1 : n / 256 ^ k % 256 = n % 256 ^ (k + 1) / 256 ^ k := by
      rw [Nat.pow_succ, Nat.mod_mul_right_div_self]
    have e2 : UInt8.ofNat (n / 256 ^ k) = UInt8.ofNat (n % 256 ^ (k + 1) / 256 ^ k) := by
      rw [← e1]
      apply UInt8.toNat_inj.1
      simp
    rw [e2, be_mod k n, be_mod k (n % 256 ^ (k + 1))]
    have e3 : n % 256 ^ (k + 1) % 256 ^ k = n % 256 ^ k := Nat.mod_mod_of_dvd n (Nat.pow_dvd_pow 256 (by omega))
    rw [e3]

theorem ofNat_lt (a b : Nat) (ha : a < 256) (hb : b < 256) : (UInt8.ofNat a < UInt8.ofNat b) ↔ a < b := by
  rw [UInt8.lt_iff_toNat_lt, UInt8.toNat_ofNat', UInt8.toNat_ofNat', Nat.mod_eq_of_lt ha, Nat.mod_eq_of_lt hb]
theorem ofNat_eq (a b : Nat) (ha : a < 256) (hb : b < 256) : (UInt8.ofNat a = UInt8.ofNat b) ↔ a = b := by
  rw [← UInt8.toNat_inj, UInt8.toNat_ofNat', UInt8.toNat_ofNat', Nat.mod_eq_of_lt ha, Nat.mod_eq_of_lt hb]

theorem be_less : ∀ (k a b : Nat), a < 256 ^ k → b < 256 ^ k → Op.bytesLess (be k a) (be k b) = decide (a < b)
  | 0, a, b, ha, hb => by simp [be, Op.bytesLess]; simp at ha hb; omega
  | k + 1, a, b, ha, hb => by
    have hp : 0 < 256 ^ k := Nat.pow_pos (by decide)
    have qa : a / 256 ^ k < 256 := Nat.div_lt_of_lt_mul (by rw [Nat.pow_succ] at ha; exact ha)
    have qb : b / 256 ^ k < 256 := Nat.div_lt_of_lt_mul (by rw [Nat.pow_succ] at hb; exact hb)
    have ih := be_less k (a % 256 ^ k) (b % 256 ^ k) (Nat.mod_lt _ hp) (Nat.mod_lt _ hp)
    rw [← be_mod, ← be_mod] at ih
    simp only [be, Op.bytesLess, ih]
    have da := Nat.div_add_mod a (256 ^ k)
    have db := Nat.div_add_mod b (256 ^ k)
    have ra := Nat.mod_lt a hp
    have rb := Nat.mod_lt b hp
    generalize a / 256 ^ k = qa' at *
    generalize b / 256 ^ k = qb' at *
    generalize a % 256 ^ k = ra' at *
    generalize b % 256 ^ k = rb' at *
    generalize 256 ^ k = m at *
    rw [Bool.eq_iff_iff]
    simp only [Bool.or_eq_true, Bool.and_eq_true, decide_eq_true_eq, beq_iff_eq, ofNat_lt _ _ qa qb, ofNat_eq _ _ qa qb]
    subst da db
    rcases Nat.lt_trichotomy qa' qb' with h | h | h
    · have := Nat.mul_le_mul_left m (show qa' + 1 ≤ qb' by omega)
      rw [Nat.mul_add] at this
      exact ⟨fun _ => by omega, fun _ => .inl h⟩
    · subst h
      simp
    · have := Nat.mul_le_mul_left m (show qb' + 1 ≤ qa' by omega)
      rw [Nat.mul_add] at this
      exact ⟨fun h' => by omega, fun h' => by omega⟩

theorem bytesLess_irrefl : ∀ (l : List UInt8), Op.bytesLess l l = false
  | [] => rfl
  | c :: l => by simp [Op.bytesLess, bytesLess_irrefl l]

/-- Of two numbers the less one's bytes stand ahead. -/
theorem enc_less (a b : Nat) (ha : a < 2 ^ 64) (hb : b < 2 ^ 64) : Op.bytesLess (enc a) (enc b) = decide (a < b) := by
  have na := nb_le a
  have nB := nb_le b
  unfold enc
  by_cases h1 : a < 248 <;> by_cases h2 : b < 248
  · rw [if_pos h1, if_pos h2]
    simp only [Op.bytesLess, Bool.and_false, Bool.or_false]
    rw [decide_eq_decide]
    exact ofNat_lt a b (by omega) (by omega)
  · rw [if_pos h1, if_neg h2]
    have := nb_pos b (by omega) hb
    simp only [Op.bytesLess]
    rw [decide_eq_true ((ofNat_lt a (247 + nb b) (by omega) (by omega)).2 (by omega)), Bool.true_or, decide_eq_true (by omega)]
  · rw [if_neg h1, if_pos h2]
    have := nb_pos a (by omega) ha
    simp only [Op.bytesLess]
    rw [decide_eq_false (fun h => absurd ((ofNat_lt (247 + nb a) b (by omega) (by omega)).1 h) (by omega)), decide_eq_false (show ¬ a < b by omega)]
    have : (UInt8.ofNat (247 + nb a) == UInt8.ofNat b) = false := by
      rw [beq_eq_false_iff_ne]
      exact fun h => absurd ((ofNat_eq _ _ (by omega) (by omega)).1 h) (by omega)
    rw [this]
    rfl
  · rw [if_neg h1, if_neg h2]
    simp only [Op.bytesLess]
    rcases Nat.lt_trichotomy (nb a) (nb b) with h | h | h
    · rw [decide_eq_true ((ofNat_lt (247 + nb a) (247 + nb b) (by omega) (by omega)).2 (by omega)), Bool.true_or]
      have x := nb_lt a ha
      have y := nb_ge b (by omega)
      have z := Nat.pow_le_pow_right (show 0 < 256 by decide) (show nb a ≤ nb b - 1 by omega)
      rw [decide_eq_true (by omega)]
    · rw [h, be_less _ _ _ (h ▸ nb_lt a ha) (nb_lt b hb)]
      simp
    · rw [decide_eq_false (fun hh => absurd ((ofNat_lt (247 + nb a) (247 + nb b) (by omega) (by omega)).1 hh) (by omega))]
      have : (UInt8.ofNat (247 + nb a) == UInt8.ofNat (247 + nb b)) = false := by
        rw [beq_eq_false_iff_ne]
        exact fun hh => absurd ((ofNat_eq _ _ (by omega) (by omega)).1 hh) (by omega)
      rw [this]
      have x := nb_lt b hb
      have y := nb_ge a (by omega)
      have z := Nat.pow_le_pow_right (show 0 < 256 by decide) (show nb b ≤ nb a - 1 by omega)
      rw [decide_eq_false (show ¬ a < b by omega)]
      rfl

theorem enc_inj (a b : Nat) (ha : a < 2 ^ 64) (hb : b < 2 ^ 64) (h : enc a = enc b) : a = b := by
  have h1 := enc_less a b ha hb
  have h2 := enc_less b a hb ha
  rw [h, bytesLess_irrefl] at h1
  rw [← h, bytesLess_irrefl] at h2
  have := of_decide_eq_false h1.symm
  have := of_decide_eq_false h2.symm
  omega

theorem enc_pos (n : Nat) : 1 ≤ (enc n).length := by
  unfold enc
  split <;> simp

/-- How long an encoding is is told by its first byte. -/
theorem enc_head (n : Nat) (hn : n < 2 ^ 64) : ∃ c l, enc n = c :: l ∧ l.length = c.toNat - 247 := by
  have nB := nb_le n
  unfold enc
  split
  · rename_i h
    refine ⟨_, _, rfl, ?_⟩
    rw [UInt8.toNat_ofNat', Nat.mod_eq_of_lt (by omega)]
    simp
    omega
  · refine ⟨_, _, rfl, ?_⟩
    rw [UInt8.toNat_ofNat', Nat.mod_eq_of_lt (by omega), be_length]
    omega

/-- No encoding begins another one. -/
theorem enc_prefix (a b : Nat) (ha : a < 2 ^ 64) (hb : b < 2 ^ 64) (h : a ≠ b) (m : Nat) (hm : m = min (enc a).length (enc b).length) : (enc a).take m ≠ (enc b).take m := by
  intro he
  apply h
  apply enc_inj a b ha hb
  obtain ⟨c, l, e1, l1⟩ := enc_head a ha
  obtain ⟨d, k, e2, l2⟩ := enc_head b hb
  rw [e1, e2] at he hm ⊢
  have hm1 : m = (m - 1) + 1 := by simp at hm; omega
  rw [hm1] at he
  simp only [List.take_succ_cons, List.cons.injEq] at he
  obtain ⟨rfl, he⟩ := he
  have : l.length = k.length := by omega
  simp at hm
  rw [List.take_of_length_le (by omega), List.take_of_length_le (by omega)] at he
  rw [he]

/-! ### What bytes begin with -/

/-- The number that bytes hold, the most significant first. -/
def val (l : List UInt8) : Nat := l.foldl (fun n c => n * 256 + c.toNat) 0

theorem val_snoc (l : List UInt8) (c : UInt8) : val (l ++ [c]) = val l * 256 + c.toNat := by simp [val]

theorem foldl_val (l : List UInt8) : ∀ n, l.foldl (fun n c => n * 256 + c.toNat) n = n * 256 ^ l.length + val l := by
  unfold val
  induction l with
  | nil => intro n; simp
  | cons c l ih =>
    intro n
    simp only [List.foldl_cons, List.length_cons]
    rw [ih, ih (0 * 256 + c.toNat), Nat.zero_mul, Nat.zero_add, Nat.add_mul, Nat.mul_assoc, Nat.pow_succ, Nat.mul_comm 256, Nat.add_assoc]

theorem val_cons (c : UInt8) (l : List UInt8) : val (c :: l) = c.toNat * 256 ^ l.length + val l := by
  have := foldl_val l (0 * 256 + c.toNat)
  rw [Nat.zero_mul, Nat.zero_add] at this
  rw [← this]
  simp [val]

theorem val_lt (l : List UInt8) : val l < 256 ^ l.length := by
  induction l with
  | nil => simp [val]
  | cons c l ih =>
    rw [val_cons, List.length_cons, Nat.pow_succ]
    have := c.toNat_lt
    have h2 := Nat.mul_le_mul_right (256 ^ l.length) (show c.toNat + 1 ≤ 256 by omega)
    rw [Nat.add_mul] at h2
    rw [Nat.mul_comm _ 256]
    omega

theorem val_be : ∀ k n, val (be k n) = n % 256 ^ k
  | 0, n => by simp [be, val, Nat.mod_one]
  | k + 1, n => by
    simp only [be]
    rw [val_cons, be_length, val_be k n, UInt8.toNat_ofNat', show (2 : Nat) ^ 8 = 256 from rfl]
    have e : (256 : Nat) ^ (k + 1) = 256 ^ k * 256 := Nat.pow_succ _ _
    have : n % (256 ^ k * 256) = n % 256 ^ k + 256 ^ k * (n / 256 ^ k % 256) := Nat.mod_mul
    rw [e, this, Nat.mul_comm]
    omega

theorem be_val (l : List UInt8) : be l.length (val l) = l := by
  induction l with
  | nil => rfl
  | cons c l ih =>
    have hl := val_lt l
    have hp : 0 < 256 ^ l.length := Nat.pow_pos (by decide)
    rw [List.length_cons, be, val_cons]
    have e1 : (c.toNat * 256 ^ l.length + val l) / 256 ^ l.length = c.toNat := by
      rw [Nat.mul_comm, Nat.mul_add_div hp, Nat.div_eq_of_lt hl, Nat.add_zero]
    rw [e1, be_mod]
    have e2 : (c.toNat * 256 ^ l.length + val l) % 256 ^ l.length = val l := by
      rw [Nat.mul_comm, Nat.mul_add_mod, Nat.mod_eq_of_lt hl]
    rw [e2, ih]
    simp

/-- The number that bytes begin with, and how many bytes it takes: none if there is none. -/
def front : List UInt8 → Nat × Nat
  | [] => (0, 0)
  | c :: t =>
    if c.toNat < 248 then (c.toNat, 1)
    else if t.length < c.toNat - 247 then (0, 0)
    else if val (t.take (c.toNat - 247)) < 248 ∨ (1 < c.toNat - 247 ∧ t.head? = some 0) then (0, 0)
    else (val (t.take (c.toNat - 247)), 1 + (c.toNat - 247))

theorem front_enc (n : Nat) (t : List UInt8) (hn : n < 2 ^ 64) : front (enc n ++ t) = (n, (enc n).length) := by
  have nB := nb_le n
  unfold enc
  split
  · rename_i h
    simp only [List.singleton_append, front, List.length_singleton]
    rw [UInt8.toNat_ofNat', Nat.mod_eq_of_lt (by omega), if_pos h]
  · rename_i h
    have hp := nb_pos n (by omega) hn
    have hlt := nb_lt n hn
    have hge := nb_ge n (by omega)
    have e0 : (UInt8.ofNat (247 + nb n)).toNat = 247 + nb n := by rw [UInt8.toNat_ofNat', Nat.mod_eq_of_lt (by omega)]
    have e1 : (be (nb n) n ++ t).take (nb n) = be (nb n) n := by
      rw [List.take_append_of_le_length (by rw [be_length]; omega), List.take_of_length_le (by rw [be_length]; omega)]
    simp only [List.cons_append, front, List.length_cons]
    rw [e0, if_neg (by omega), show 247 + nb n - 247 = nb n by omega, if_neg (by rw [List.length_append, be_length]; omega), e1, val_be, Nat.mod_eq_of_lt hlt, be_length]
    rw [if_neg]
    · rw [Nat.add_comm]
    · rintro (h1 | ⟨h1, h2⟩)
      · omega
      · obtain ⟨k, hk⟩ : ∃ k, nb n = k + 1 := ⟨nb n - 1, by omega⟩
        rw [hk] at h2 hge
        simp only [be, List.cons_append, List.head?_cons, Option.some.injEq, Nat.add_sub_cancel] at h2 hge
        have h3 := congrArg UInt8.toNat h2
        rw [hk, Nat.pow_succ] at hlt
        have hd : n / 256 ^ k < 256 := Nat.div_lt_of_lt_mul hlt
        rw [UInt8.toNat_ofNat', Nat.mod_eq_of_lt hd] at h3
        have : 1 ≤ n / 256 ^ k := (Nat.one_le_div_iff (Nat.pow_pos (by decide))).2 hge
        simp at h3
        have h4 := Nat.pow_pos (n := k) (show 0 < 256 by decide)
        omega

theorem front_sound (l : List UInt8) (n s : Nat) (h : front l = (n, s)) (hs : s ≠ 0) : n < 2 ^ 64 ∧ s = (enc n).length ∧ l = enc n ++ l.drop s := by
  cases l with
  | nil => simp [front] at h; omega
  | cons c t =>
    simp only [front] at h
    split at h
    · rename_i h1
      simp at h
      obtain ⟨rfl, rfl⟩ := h
      have e : enc c.toNat = [c] := by unfold enc; rw [if_pos h1]; simp
      rw [e]
      exact ⟨by omega, rfl, by simp⟩
    · rename_i h1
      split at h
      · simp at h; omega
      · rename_i h2
        split at h
        · simp at h; omega
        · rename_i h3
          simp only [Prod.mk.injEq] at h
          obtain ⟨rfl, rfl⟩ := h
          have hc := c.toNat_lt
          have hk : 1 ≤ c.toNat - 247 ∧ c.toNat - 247 ≤ 8 := by omega
          have hkc : UInt8.ofNat (247 + (c.toNat - 247)) = c := by
            rw [show 247 + (c.toNat - 247) = c.toNat by omega]; simp
          generalize c.toNat - 247 = k at *
          have hlen : (t.take k).length = k := by rw [List.length_take]; omega
          have hv := val_lt (t.take k)
          rw [hlen] at hv
          have h64 : val (t.take k) < 2 ^ 64 := Nat.lt_of_lt_of_le hv (by
            have := Nat.pow_le_pow_right (show 0 < 256 by decide) hk.2
            exact Nat.le_trans this (by decide))
          have hge : 256 ^ (k - 1) ≤ val (t.take k) := by
            by_cases hk1 : k = 1
            · subst hk1; simp; omega
            · cases t with
              | nil => simp at hlen; omega
              | cons d t =>
                obtain ⟨j, rfl⟩ : ∃ j, k = j + 1 := ⟨k - 1, by omega⟩
                rw [List.take_succ_cons, val_cons]
                have hj : (t.take j).length = j := by simpa using hlen
                rw [hj, Nat.add_sub_cancel]
                have hd : d ≠ 0 := fun h0 => h3 (.inr ⟨by omega, by rw [h0]; rfl⟩)
                have hd1 : 1 ≤ d.toNat := by
                  rcases Nat.eq_zero_or_pos d.toNat with h0 | h0
                  · exact absurd (UInt8.toNat_inj.1 (by rw [h0]; rfl)) hd
                  · exact h0
                have := Nat.mul_le_mul_right (256 ^ j) hd1
                omega
          have hnb := nb_eq _ k hv hge hk.1 h64
          have e : enc (val (t.take k)) = c :: t.take k := by
            unfold enc
            rw [if_neg (fun h0 => h3 (.inl h0)), hnb, hkc]
            congr 1
            have hbv := be_val (t.take k)
            rw [hlen] at hbv
            exact hbv
          refine ⟨h64, by rw [e, List.length_cons, hlen, Nat.add_comm], ?_⟩
          rw [e, Nat.add_comm, List.drop_succ_cons, List.cons_append, List.take_append_drop]

/-- fold's result. -/
def zig (n : Int) : Nat := if n < 0 then (2 * (-1 - n) + 1).toNat else (2 * n).toNat
theorem zig_neg (n : Int) (h : n < 0) : (zig n : Int) = (-1 - n) * 2 + 1 := by unfold zig; rw [if_pos h]; omega
theorem zig_pos (n : Int) (h : ¬ n < 0) : (zig n : Int) = n * 2 := by unfold zig; rw [if_neg h]; omega

/-- The number whose encoding is an unsigned one. -/
def zag (u : Nat) : Int := if u % 2 = 1 then -1 - (u / 2 : Nat) else (u / 2 : Nat)

theorem zag_zig (n : Int) (_h0 : -9223372036854775808 ≤ n) (_h1 : n ≤ 9223372036854775807) : zag (zig n) = n := by
  unfold zag
  by_cases h : n < 0
  · have := zig_neg n h
    rw [if_pos (by omega)]
    omega
  · have := zig_pos n h
    rw [if_neg (by omega)]
    omega

end Go.Proofs.Ytlbilmmjcfiokaa
