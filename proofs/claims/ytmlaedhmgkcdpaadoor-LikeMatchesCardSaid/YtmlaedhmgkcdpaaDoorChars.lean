/-
  A text's letters, as Go's decoder has them, over lists of bytes: plain facts. No program.
-/
import Derived.WalkKit
import Derived.Lib.SpaceU
import Derived.Lib.DecodeN
import Derived.Lib.ValidLaws
namespace Go.Proofs.YtmlaedhmgkcdpaaDoor
open Go.Lib (decodeL decodeN)

theorem get_list (l : List UInt8) (i : Nat) : (⟨l.toArray⟩ : ByteArray).get! i = l.getD i 0 := by
  show l.toArray[i]! = _
  rw [List.getElem!_toArray, List.getD_eq_getElem?_getD, List.getElem!_eq_getElem?_getD]
  rfl
theorem decodeL_eq (l : List UInt8) : decodeL l = decodeN l.length (l.getD 0 0).toNat (l.getD 1 0).toNat (l.getD 2 0).toNat (l.getD 3 0).toNat := by
  unfold Go.Lib.decodeL
  rw [Go.Lib.decode_at, get_list, get_list, get_list, get_list]
  rfl
theorem decode_drop (l : List UInt8) (p : Nat) : Go.Utf8.decode ⟨l.toArray⟩ p = decodeL (l.drop p) := by
  rw [decodeL_eq, Go.Lib.decode_at, get_list, get_list, get_list, get_list]
  simp only [List.getD_eq_getElem?_getD, List.getElem?_drop, List.length_drop, Nat.add_comm p]
  simp [ByteArray.size]

/-- How many bytes the first letter has. -/
def wid (l : List UInt8) : Nat := (decodeL l).2

theorem wid_all (n b0 b1 b2 b3 : Nat) (h : 1 ≤ n) : 1 ≤ (decodeN n b0 b1 b2 b3).2 ∧ (decodeN n b0 b1 b2 b3).2 ≤ n ∧ (decodeN n b0 b1 b2 b3).2 ≤ 4 := by
  unfold Go.Lib.decodeN
  repeat' split
  all_goals simp only
  all_goals omega
theorem wid_bounds (l : List UInt8) (h : l ≠ []) : 1 ≤ wid l ∧ wid l ≤ l.length ∧ wid l ≤ 4 := by
  unfold wid
  rw [decodeL_eq]
  exact wid_all _ _ _ _ _ (List.length_pos_iff.2 h)

/-- A byte that goes on with a letter. -/
def cont (c : UInt8) : Bool := decide (c.toNat / 64 = 2)

set_option maxHeartbeats 1000000 in
theorem decode_cont (b : UInt8) (r : List UInt8) : decodeL (b :: r) = decodeL (b :: r.takeWhile cont) := by
  rw [decodeL_eq, decodeL_eq]
  match r with
  | [] => rfl
  | [x] =>
    by_cases hx : x.toNat / 64 = 2
    · simp [cont, hx]
    · simp [cont, hx, Go.Lib.decodeN]
  | [x, y] =>
    by_cases hx : x.toNat / 64 = 2
    · by_cases hy : y.toNat / 64 = 2
      · simp [cont, hx, hy]
      · simp [cont, hx, hy, Go.Lib.decodeN]
    · simp [cont, hx, Go.Lib.decodeN]
  | x :: y :: z :: t =>
    by_cases hx : x.toNat / 64 = 2
    · by_cases hy : y.toNat / 64 = 2
      · by_cases hz : z.toNat / 64 = 2
        · simp [cont, hx, hy, hz, Go.Lib.decodeN]
        · simp [cont, hx, hy, hz, Go.Lib.decodeN]
      · simp [cont, hx, hy, Go.Lib.decodeN]
    · simp [cont, hx, Go.Lib.decodeN]

/-! ### Letters -/

def letsF : Nat → List UInt8 → List (List UInt8)
  | 0, _ => []
  | n + 1, l => if l = [] then [] else l.take (wid l) :: letsF n (l.drop (wid l))
/-- A text's letters. -/
def lets (l : List UInt8) : List (List UInt8) := letsF l.length l

theorem letsF_fuel : ∀ (n m : Nat) (l : List UInt8), l.length ≤ n → l.length ≤ m → letsF n l = letsF m l
  | 0, m, l, h, _ => by
    have : l = [] := List.length_eq_zero_iff.1 (by omega)
    subst this
    cases m <;> simp [letsF]
  | n + 1, 0, l, _, h => by
    have : l = [] := List.length_eq_zero_iff.1 (by omega)
    subst this
    simp [letsF]
  | n + 1, m + 1, l, h, h' => by
    unfold letsF
    by_cases hl : l = []
    · rw [if_pos hl, if_pos hl]
    · have := wid_bounds l hl
      rw [if_neg hl, if_neg hl, letsF_fuel n m _ (by rw [List.length_drop]; omega) (by rw [List.length_drop]; omega)]
theorem lets_nil : lets [] = [] := rfl
theorem lets_cons (l : List UInt8) (h : l ≠ []) : lets l = l.take (wid l) :: lets (l.drop (wid l)) := by
  have hb := wid_bounds l h
  have hp := List.length_pos_iff.2 h
  obtain ⟨n, hn⟩ : ∃ n, l.length = n + 1 := ⟨l.length - 1, by omega⟩
  unfold lets
  rw [hn]
  conv => lhs; unfold letsF
  rw [if_neg h, letsF_fuel n (l.drop (wid l)).length _ (by rw [List.length_drop]; omega) (Nat.le_refl _)]

/-- To show something of every text: of none, and of one by what is behind its first letter. -/
theorem lets_ind {M : List UInt8 → Prop} (h0 : M []) (h1 : ∀ l, l ≠ [] → M (l.drop (wid l)) → M l) : ∀ l, M l := by
  intro l
  generalize hn : l.length = n
  induction n using Nat.strongRecOn generalizing l with
  | _ n ih =>
    by_cases h : l = []
    · subst h; exact h0
    · have hb := wid_bounds l h
      exact h1 l h (ih (l.drop (wid l)).length (by rw [List.length_drop]; omega) _ rfl)

theorem lets_flat (l : List UInt8) : (lets l).flatten = l := by
  refine lets_ind (M := fun l => (lets l).flatten = l) rfl (fun l h ih => ?_) l
  rw [lets_cons l h, List.flatten_cons, ih, List.take_append_drop]
theorem lets_length (l : List UInt8) : (lets l).length ≤ l.length := by
  refine lets_ind (M := fun l => (lets l).length ≤ l.length) (Nat.le_refl _) (fun l h ih => ?_) l
  have hb := wid_bounds l h
  rw [lets_cons l h, List.length_cons]
  rw [List.length_drop] at ih
  omega

/-- The first letter is one: its bytes are no such that begin none. -/
def good (l : List UInt8) : Bool := !(decide ((decodeL l).1 = 65533) && decide ((decodeL l).2 = 1))
theorem good_iff (l : List UInt8) : good l = true ↔ ¬ ((decodeL l).1 = 65533 ∧ (decodeL l).2 = 1) := by
  unfold good
  rw [Bool.not_eq_true', ← Bool.not_eq_true, Bool.and_eq_true, decide_eq_true_iff, decide_eq_true_iff]

theorem decodeN_good (n n' b0 b1 b2 b3 c1 c2 c3 : Nat) (h : n ≤ n') (h1 : 1 < n → c1 = b1) (h2 : 2 < n → c2 = b2) (h3 : 3 < n → c3 = b3)
    (hg : ¬ ((decodeN n b0 b1 b2 b3).1 = 65533 ∧ (decodeN n b0 b1 b2 b3).2 = 1)) : decodeN n' b0 c1 c2 c3 = decodeN n b0 b1 b2 b3 := by
  by_cases a0 : b0 < 128
  · simp [Go.Lib.decodeN, a0]
  · by_cases n1 : 1 < n
    · have e1 := h1 n1
      subst e1
      have n1' : 1 < n' := by omega
      by_cases n2 : 2 < n
      · have e2 := h2 n2
        subst e2
        have n2' : 2 < n' := by omega
        by_cases n3 : 3 < n
        · have e3 := h3 n3
          subst e3
          have n3' : 3 < n' := by omega
          simp [Go.Lib.decodeN, n1, n2, n3, n1', n2', n3']
        · have a4 : ¬ b0 / 8 = 30 := fun e => hg (by
            have q1 : ¬ b0 / 32 = 6 := by omega
            have q2 : ¬ b0 / 16 = 14 := by omega
            simp [Go.Lib.decodeN, a0, n3, q1, q2])
          simp [Go.Lib.decodeN, n1, n2, n1', n2', a4]
      · have a3 : ¬ b0 / 16 = 14 := fun e => hg (by
          have q1 : ¬ b0 / 32 = 6 := by omega
          have q2 : ¬ b0 / 8 = 30 := by omega
          simp [Go.Lib.decodeN, a0, n2, q1, q2])
        have a4 : ¬ b0 / 8 = 30 := fun e => hg (by
          have q1 : ¬ b0 / 32 = 6 := by omega
          have q2 : ¬ b0 / 16 = 14 := by omega
          simp [Go.Lib.decodeN, a0, n2, q1, q2])
        simp [Go.Lib.decodeN, n1, n1', a3, a4]
    · exact absurd (by simp [Go.Lib.decodeN, a0, n1]) hg

theorem decode_good (l m : List UInt8) (hg : good l = true) (hl : l ≠ []) : decodeL (l ++ m) = decodeL l := by
  rw [good_iff, decodeL_eq] at hg
  have hp := List.length_pos_iff.2 hl
  rw [decodeL_eq, decodeL_eq]
  have e : ∀ i, i < l.length → (l ++ m).getD i 0 = l.getD i 0 := fun i hi => by
    rw [List.getD_eq_getElem?_getD, List.getD_eq_getElem?_getD, List.getElem?_append_left hi]
  rw [e 0 hp]
  exact decodeN_good _ _ _ _ _ _ _ _ _ (by rw [List.length_append]; omega) (fun h => by rw [e 1 h]) (fun h => by rw [e 2 h]) (fun h => by rw [e 3 h]) hg

theorem decodeN_cut (n b0 b1 b2 b3 : Nat) (c1 c2 c3 : Nat) (_hn : 1 ≤ n)
    (h1 : 1 < (decodeN n b0 b1 b2 b3).2 → c1 = b1) (h2 : 2 < (decodeN n b0 b1 b2 b3).2 → c2 = b2) (h3 : 3 < (decodeN n b0 b1 b2 b3).2 → c3 = b3) :
    decodeN (decodeN n b0 b1 b2 b3).2 b0 c1 c2 c3 = decodeN n b0 b1 b2 b3 := by
  have key : ∀ r, decodeN n b0 b1 b2 b3 = r → (1 < r.2 → c1 = b1) → (2 < r.2 → c2 = b2) → (3 < r.2 → c3 = b3) → decodeN r.2 b0 c1 c2 c3 = r := by
    intro r hr k1 k2 k3
    unfold Go.Lib.decodeN at hr
    by_cases a0 : b0 < 128
    · rw [if_pos a0] at hr
      subst hr
      simp [Go.Lib.decodeN, a0]
    · rw [if_neg a0] at hr
      by_cases a2 : b0 / 32 = 6 ∧ (1 < n ∧ b1 / 64 = 2)
      · rw [if_pos a2] at hr
        split at hr
        · rename_i hc
          subst hr
          have := k1 (by simp only; omega)
          subst this
          simp [Go.Lib.decodeN, a0, a2.1, a2.2.2, hc]
        · subst hr
          simp [Go.Lib.decodeN, a0]
      · rw [if_neg a2] at hr
        by_cases a3 : b0 / 16 = 14 ∧ (1 < n ∧ b1 / 64 = 2) ∧ (2 < n ∧ b2 / 64 = 2)
        · rw [if_pos a3] at hr
          have q : ¬ b0 / 32 = 6 := by omega
          split at hr
          · rename_i hc
            subst hr
            have e1 := k1 (by simp only; omega)
            have e2 := k2 (by simp only; omega)
            subst e1 e2
            simp [Go.Lib.decodeN, a0, q, a3.1, a3.2.1.2, a3.2.2.2, hc]
          · subst hr
            simp [Go.Lib.decodeN, a0]
        · rw [if_neg a3] at hr
          by_cases a4 : b0 / 8 = 30 ∧ (1 < n ∧ b1 / 64 = 2) ∧ (2 < n ∧ b2 / 64 = 2) ∧ (3 < n ∧ b3 / 64 = 2)
          · rw [if_pos a4] at hr
            have q : ¬ b0 / 32 = 6 := by omega
            have q2 : ¬ b0 / 16 = 14 := by omega
            split at hr
            · rename_i hc
              subst hr
              have e1 := k1 (by simp only; omega)
              have e2 := k2 (by simp only; omega)
              have e3 := k3 (by simp only; omega)
              subst e1 e2 e3
              simp [Go.Lib.decodeN, a0, q, q2, a4.1, a4.2.1.2, a4.2.2.1.2, a4.2.2.2.2, hc]
            · subst hr
              simp [Go.Lib.decodeN, a0]
          · rw [if_neg a4] at hr
            subst hr
            simp [Go.Lib.decodeN, a0]
  exact key _ rfl h1 h2 h3

/-- The first letter's bytes alone are read as they are in the text. -/
theorem decode_take (l : List UInt8) (h : l ≠ []) : decodeL (l.take (wid l)) = decodeL l := by
  have hb := wid_bounds l h
  have e : ∀ i, i < wid l → (l.take (wid l)).getD i 0 = l.getD i 0 := fun i hi => by
    rw [List.getD_eq_getElem?_getD, List.getD_eq_getElem?_getD, List.getElem?_take_of_lt hi]
  have hw : wid l = (decodeN l.length (l.getD 0 0).toNat (l.getD 1 0).toNat (l.getD 2 0).toNat (l.getD 3 0).toNat).2 := by unfold wid; rw [decodeL_eq]
  rw [decodeL_eq, decodeL_eq, List.length_take, Nat.min_eq_left hb.2.1, e 0 (by omega)]
  conv => lhs; rw [hw]
  refine decodeN_cut _ _ _ _ _ _ _ _ (List.length_pos_iff.2 h) (fun k => ?_) (fun k => ?_) (fun k => ?_) <;> rw [← hw] at k <;> rw [← hw, e _ k]

/-- A letter by itself. -/
def letter (c : List UInt8) : Prop := c ≠ [] ∧ wid c = c.length
theorem letter_take (l : List UInt8) (h : l ≠ []) : letter (l.take (wid l)) ∧ good (l.take (wid l)) = good l := by
  have hb := wid_bounds l h
  have hd := decode_take l h
  refine ⟨⟨fun e => ?_, ?_⟩, by unfold good; rw [hd]⟩
  · rw [List.take_eq_nil_iff] at e
    rcases e with e | e
    · omega
    · exact h e
  · rw [List.length_take, Nat.min_eq_left hb.2.1]
    exact congrArg Prod.snd hd
theorem lets_letters (l : List UInt8) : ∀ c ∈ lets l, letter c := by
  refine lets_ind (M := fun l => ∀ c ∈ lets l, letter c) (fun c hc => by cases hc) (fun l h ih => ?_) l
  rw [lets_cons l h]
  intro c hc
  rcases List.mem_cons.1 hc with rfl | hc
  · exact (letter_take l h).1
  · exact ih c hc
theorem lets_one (c : List UInt8) (h : letter c) : lets c = [c] := by
  rw [lets_cons c h.1, h.2, List.take_length, List.drop_length, lets_nil]

/-- All letters are ones. -/
def goods (l : List UInt8) : Prop := ∀ c ∈ lets l, good c = true
theorem goods_nil : goods [] := fun c hc => by cases hc
theorem goods_cons (l : List UInt8) (h : l ≠ []) : goods l ↔ good l = true ∧ goods (l.drop (wid l)) := by
  unfold goods
  rw [lets_cons l h]
  simp only [List.mem_cons, forall_eq_or_imp, (letter_take l h).2]
theorem goods_valid (l : List UInt8) : Lib.validD l = true ↔ goods l := by
  refine lets_ind (M := fun l => Lib.validD l = true ↔ goods l) ⟨fun _ => goods_nil, fun _ => rfl⟩ (fun l h ih => ?_) l
  rw [goods_cons l h, Lib.validD_step l h, ← ih]
  by_cases hg : good l = true
  · rw [if_neg ((good_iff l).1 hg)]
    simp only [hg, true_and]
    rfl
  · have := hg
    rw [good_iff, Classical.not_not] at this
    rw [if_pos this]
    simp [hg]

theorem wid_good (l m : List UInt8) (hg : good l = true) (hl : l ≠ []) : wid (l ++ m) = wid l := by unfold wid; rw [decode_good l m hg hl]
/-- Behind letters that are ones others are read as by themselves. -/
theorem lets_append (x y : List UInt8) : goods x → lets (x ++ y) = lets x ++ lets y := by
  refine lets_ind (M := fun x => goods x → lets (x ++ y) = lets x ++ lets y) (fun _ => rfl) (fun x h ih hg => ?_) x
  rw [goods_cons x h] at hg
  have hb := wid_bounds x h
  have hw := wid_good x y hg.1 h
  rw [lets_cons x h, lets_cons (x ++ y) (fun e => h (List.append_eq_nil_iff.1 e).1), hw, List.take_append_of_le_length hb.2.1, List.drop_append_of_le_length hb.2.1, ih hg.2, List.cons_append]
theorem goods_append (x y : List UInt8) (hx : goods x) : goods (x ++ y) ↔ goods y := by
  unfold goods
  rw [lets_append x y hx]
  simp only [List.mem_append]
  exact ⟨fun h c hc => h c (.inr hc), fun h c hc => hc.elim (hx c) (h c)⟩

end Go.Proofs.YtmlaedhmgkcdpaaDoor
