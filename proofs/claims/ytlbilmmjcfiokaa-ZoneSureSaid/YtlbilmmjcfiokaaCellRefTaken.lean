/-
  The contract of the document's own Take, put together.
-/
import Derived.Test.YtlbilmmjcfiokaaCellRefTake
namespace Go.Proofs.Ytlbilmmjcfiokaa
open Go.RowKit Go.BigFrame

theorem takeV_no1 (t : List UInt8) (c : UInt8) (hc : c = 1 ∨ c = 2) (hf : (front t).2 = 0) : takeV (c :: t) = none := by
  unfold takeV
  dsimp only
  rw [if_neg (by rcases hc with rfl | rfl <;> decide), if_pos hc, if_pos hf]
theorem takeV_yes1 (t : List UInt8) (c : UInt8) (hc : c = 1 ∨ c = 2) (hf : (front t).2 ≠ 0) (hr : rightV ⟨(c.toNat : Int), zag (front t).1, []⟩ = true) : takeV (c :: t) = some (⟨(c.toNat : Int), zag (front t).1, []⟩, t.drop (front t).2) := by
  unfold takeV
  dsimp only
  rw [if_neg (by rcases hc with rfl | rfl <;> decide), if_pos hc, if_neg hf, if_pos hr]
theorem takeV_wrong1 (t : List UInt8) (c : UInt8) (hc : c = 1 ∨ c = 2) (hf : (front t).2 ≠ 0) (hr : rightV ⟨(c.toNat : Int), zag (front t).1, []⟩ = false) : takeV (c :: t) = none := by
  unfold takeV
  dsimp only
  rw [if_neg (by rcases hc with rfl | rfl <;> decide), if_pos hc, if_neg hf, if_neg (by rw [hr]; decide)]
theorem takeV_no3 (t : List UInt8) (hf : (front t).2 = 0) : takeV (3 :: t) = none := by
  unfold takeV
  dsimp only
  rw [if_neg (by decide), if_neg (by decide), if_pos rfl, if_pos hf]
theorem takeV_yes3 (t : List UInt8) (hf : (front t).2 ≠ 0) (hn : (front t).1 ≤ 1024 ∧ (front t).1 ≤ (t.drop (front t).2).length) : takeV (3 :: t) = some (⟨3, 0, (t.drop (front t).2).take (front t).1⟩, (t.drop (front t).2).drop (front t).1) := by
  unfold takeV
  dsimp only
  rw [if_neg (by decide), if_neg (by decide), if_pos rfl, if_neg hf, if_pos hn]
theorem takeV_long3 (t : List UInt8) (hf : (front t).2 ≠ 0) (hn : ¬ ((front t).1 ≤ 1024 ∧ (front t).1 ≤ (t.drop (front t).2).length)) : takeV (3 :: t) = none := by
  unfold takeV
  dsimp only
  rw [if_neg (by decide), if_neg (by decide), if_pos rfl, if_neg hf, if_neg hn]
theorem zag_fits (k : Int) (h0 : 0 ≤ k) (h1 : k ≤ 255) (n : Nat) (hn : n < 2 ^ 64) : (⟨k, zag n, []⟩ : V).fits := by
  refine ⟨h0, h1, ?_, ?_⟩
  · show -9223372036854775808 ≤ zag n
    unfold zag
    split <;> omega
  · show zag n ≤ 9223372036854775807
    unfold zag
    split <;> omega
theorem fits_no (k : Int) (s : List UInt8) (h0 : 0 ≤ k) (h1 : k ≤ 255) : (⟨k, 0, s⟩ : V).fits := by
  refine ⟨h0, h1, ?_, ?_⟩
  · show -9223372036854775808 ≤ (0 : Int); decide
  · show (0 : Int) ≤ 9223372036854775807; decide
theorem right_is {v : V} {x : Bool} (h : rightV v = x) (hv : v.fits) (hl : v.s.length ≤ 9223372036854775807) (W : World) : Calls Try.prog 61 #[v.val] W fun e w' => e = .returned (.bool x) ∧ Ext W w' := by
  subst h
  exact refRight_any v hv hl W

theorem refTake_any (b : Value) (l : List UInt8) (w : World) (hr : Rd w b l) (hl : l.length ≤ 1000000) :
    Calls Try.prog 38 #[b] w (RefTook w l) := by
  cases l with
  | nil => exact refTake_nil b w hr
  | cons c t =>
    rcases hr with ⟨rfl, h1⟩ | ⟨x, cap, rfl, h2, h3, h4⟩
    · cases h1
    have hc0 := h4 0 (bv c) (by simp)
    rw [add_zero] at hc0
    obtain ⟨bb, off, rfl, _⟩ := plain_of hc0
    have hlt := lt_of_cell hc0
    have hLL : ((c :: t).map bv).length = t.length + 1 := by simp
    rw [hLL] at h2 ⊢
    have htl : t.length < 1000000 := by simp at hl; omega
    have hr2 : cap ≠ 1 → Rd w (.slice (some ⟨bb, off + 1, none⟩) (t.length + 1 - 1) (cap - 1)) t := fun hcap => by
      refine .inr ⟨⟨bb, off + 1, none⟩, cap - 1, by rw [List.length_map]; rfl, by rw [List.length_map]; omega, by omega, fun i u hu => ?_⟩
      have := h4 (i + 1) u (by simpa using hu)
      rw [add_at] at this ⊢
      rw [show off + 1 + i = off + (i + 1) by omega]
      exact this
    have hr1 : cap = 1 → Rd w (.slice (some ⟨bb, off, none⟩) 0 0) t := fun hcap => by
      have ht : t = [] := List.length_eq_zero_iff.1 (by omega)
      subst ht
      exact .inr ⟨⟨bb, off, none⟩, 0, rfl, Nat.le_refl _, by unfold maxLen; omega, fun i u hu => by simp at hu⟩
    clear h4 hLL
    by_cases hcap : cap = 1
    · have hrest := hr1 hcap

      by_cases e0 : c = 0
      · subst e0
        exact refTake_0b bb off (t.length + 1) cap t w hc0 (hrest) rfl hlt h2 h3 hcap htl
      by_cases e1 : c = 1
      · subst e1
        by_cases hf : (front t).2 = 0
        · exact refTake_1b_bad bb off (t.length + 1) cap t w hc0 (hrest) rfl hlt h2 h3 hcap htl 0 (fun B b W h => refRInt_no B b t false W h hf) (takeV_no1 t 1 (.inl rfl) hf)
        · have hn : (front t).1 < 2 ^ 64 := (front_sound t (front t).1 (front t).2 rfl hf).1
          cases hrv : rightV ⟨1, zag (front t).1, []⟩ with
          | true => exact refTake_1b_right bb off (t.length + 1) cap t w hc0 (hrest) rfl hlt h2 h3 hcap htl _ _ (fun B b W h => refRInt_yes B b t false _ _ W h rfl hf) (right_is hrv (zag_fits 1 (by decide) (by decide) _ hn) (Nat.zero_le _)) (takeV_yes1 t 1 (.inl rfl) hf hrv)
          | false => exact refTake_1b_wrong bb off (t.length + 1) cap t w hc0 (hrest) rfl hlt h2 h3 hcap htl _ _ (fun B b W h => refRInt_yes B b t false _ _ W h rfl hf) (right_is hrv (zag_fits 1 (by decide) (by decide) _ hn) (Nat.zero_le _)) (takeV_wrong1 t 1 (.inl rfl) hf hrv)
      by_cases e2 : c = 2
      · subst e2
        by_cases hf : (front t).2 = 0
        · exact refTake_2b_bad bb off (t.length + 1) cap t w hc0 (hrest) rfl hlt h2 h3 hcap htl 0 (fun B b W h => refRInt_no B b t false W h hf) (takeV_no1 t 2 (.inr rfl) hf)
        · have hn : (front t).1 < 2 ^ 64 := (front_sound t (front t).1 (front t).2 rfl hf).1
          have hrv : rightV ⟨2, zag (front t).1, []⟩ = true := by simp [rightV]
          exact refTake_2b_right bb off (t.length + 1) cap t w hc0 (hrest) rfl hlt h2 h3 hcap htl _ _ (fun B b W h => refRInt_yes B b t false _ _ W h rfl hf) (right_is hrv (zag_fits 2 (by decide) (by decide) _ hn) (Nat.zero_le _)) (takeV_yes1 t 2 (.inr rfl) hf hrv)
      by_cases e3 : c = 3
      · subst e3
        by_cases hf : (front t).2 = 0
        · exact refTake_3b_bad bb off (t.length + 1) cap t w hc0 (hrest) rfl hlt h2 h3 hcap htl [] (fun B b W h => refRText_no B b t false W h hf) (takeV_no3 t hf)
        · by_cases hn : (front t).1 ≤ 1024 ∧ (front t).1 ≤ (t.drop (front t).2).length
          · have hrv : rightV ⟨3, 0, (t.drop (front t).2).take (front t).1⟩ = true := by simp [rightV]; omega
            exact refTake_3b_right bb off (t.length + 1) cap t w hc0 (hrest) rfl hlt h2 h3 hcap htl _ _ (fun B b W h => refRText_yes B b t _ false _ _ W h rfl hf rfl hn.1 hn.2) (right_is hrv (fits_no 3 _ (by decide) (by decide)) (by show ((t.drop (front t).2).take (front t).1).length ≤ _; rw [List.length_take]; omega)) (takeV_yes3 t hf hn)
          · exact refTake_3b_bad bb off (t.length + 1) cap t w hc0 (hrest) rfl hlt h2 h3 hcap htl [] (fun B b W h => refRText_long B b t (t.drop (front t).2) false (front t).1 (front t).2 W h rfl hf rfl (by rcases Nat.lt_or_ge 1024 (front t).1 with h1 | h1; exact .inl h1; rcases Nat.lt_or_ge (t.drop (front t).2).length (front t).1 with h2 | h2; exact .inr h2; exact absurd ⟨h1, h2⟩ hn)) (takeV_long3 t hf hn)
      have n0 : c.toNat ≠ 0 := fun h => e0 (UInt8.toNat_inj.1 h)
      have n1 : c.toNat ≠ 1 := fun h => e1 (UInt8.toNat_inj.1 h)
      have n2 : c.toNat ≠ 2 := fun h => e2 (UInt8.toNat_inj.1 h)
      have n3 : c.toNat ≠ 3 := fun h => e3 (UInt8.toNat_inj.1 h)
      have hcu := c.toNat_lt
      have hrv : rightV ⟨(c.toNat : Int), 0, []⟩ = false := by simp [rightV]; omega
      refine refTake_ob c (c.toNat : Int) bb off (t.length + 1) cap t w hc0 (hrest) rfl hlt h2 h3 hcap htl (beq_eq_false_iff_ne.2 (by omega)) (beq_eq_false_iff_ne.2 (by omega)) (beq_eq_false_iff_ne.2 (by omega)) (right_is hrv (fits_no _ _ (by omega) (by omega)) (Nat.zero_le _)) ?_
      unfold takeV
      dsimp only
      rw [if_neg e0, if_neg (by rintro (h | h) <;> contradiction), if_neg e3]
    · have hrest := hr2 hcap

      by_cases e0 : c = 0
      · subst e0
        exact refTake_0a bb off (t.length + 1) cap t w hc0 (hrest) rfl hlt h2 h3 hcap htl
      by_cases e1 : c = 1
      · subst e1
        by_cases hf : (front t).2 = 0
        · exact refTake_1a_bad bb off (t.length + 1) cap t w hc0 (hrest) rfl hlt h2 h3 hcap htl 0 (fun B b W h => refRInt_no B b t false W h hf) (takeV_no1 t 1 (.inl rfl) hf)
        · have hn : (front t).1 < 2 ^ 64 := (front_sound t (front t).1 (front t).2 rfl hf).1
          cases hrv : rightV ⟨1, zag (front t).1, []⟩ with
          | true => exact refTake_1a_right bb off (t.length + 1) cap t w hc0 (hrest) rfl hlt h2 h3 hcap htl _ _ (fun B b W h => refRInt_yes B b t false _ _ W h rfl hf) (right_is hrv (zag_fits 1 (by decide) (by decide) _ hn) (Nat.zero_le _)) (takeV_yes1 t 1 (.inl rfl) hf hrv)
          | false => exact refTake_1a_wrong bb off (t.length + 1) cap t w hc0 (hrest) rfl hlt h2 h3 hcap htl _ _ (fun B b W h => refRInt_yes B b t false _ _ W h rfl hf) (right_is hrv (zag_fits 1 (by decide) (by decide) _ hn) (Nat.zero_le _)) (takeV_wrong1 t 1 (.inl rfl) hf hrv)
      by_cases e2 : c = 2
      · subst e2
        by_cases hf : (front t).2 = 0
        · exact refTake_2a_bad bb off (t.length + 1) cap t w hc0 (hrest) rfl hlt h2 h3 hcap htl 0 (fun B b W h => refRInt_no B b t false W h hf) (takeV_no1 t 2 (.inr rfl) hf)
        · have hn : (front t).1 < 2 ^ 64 := (front_sound t (front t).1 (front t).2 rfl hf).1
          have hrv : rightV ⟨2, zag (front t).1, []⟩ = true := by simp [rightV]
          exact refTake_2a_right bb off (t.length + 1) cap t w hc0 (hrest) rfl hlt h2 h3 hcap htl _ _ (fun B b W h => refRInt_yes B b t false _ _ W h rfl hf) (right_is hrv (zag_fits 2 (by decide) (by decide) _ hn) (Nat.zero_le _)) (takeV_yes1 t 2 (.inr rfl) hf hrv)
      by_cases e3 : c = 3
      · subst e3
        by_cases hf : (front t).2 = 0
        · exact refTake_3a_bad bb off (t.length + 1) cap t w hc0 (hrest) rfl hlt h2 h3 hcap htl [] (fun B b W h => refRText_no B b t false W h hf) (takeV_no3 t hf)
        · by_cases hn : (front t).1 ≤ 1024 ∧ (front t).1 ≤ (t.drop (front t).2).length
          · have hrv : rightV ⟨3, 0, (t.drop (front t).2).take (front t).1⟩ = true := by simp [rightV]; omega
            exact refTake_3a_right bb off (t.length + 1) cap t w hc0 (hrest) rfl hlt h2 h3 hcap htl _ _ (fun B b W h => refRText_yes B b t _ false _ _ W h rfl hf rfl hn.1 hn.2) (right_is hrv (fits_no 3 _ (by decide) (by decide)) (by show ((t.drop (front t).2).take (front t).1).length ≤ _; rw [List.length_take]; omega)) (takeV_yes3 t hf hn)
          · exact refTake_3a_bad bb off (t.length + 1) cap t w hc0 (hrest) rfl hlt h2 h3 hcap htl [] (fun B b W h => refRText_long B b t (t.drop (front t).2) false (front t).1 (front t).2 W h rfl hf rfl (by rcases Nat.lt_or_ge 1024 (front t).1 with h1 | h1; exact .inl h1; rcases Nat.lt_or_ge (t.drop (front t).2).length (front t).1 with h2 | h2; exact .inr h2; exact absurd ⟨h1, h2⟩ hn)) (takeV_long3 t hf hn)
      have n0 : c.toNat ≠ 0 := fun h => e0 (UInt8.toNat_inj.1 h)
      have n1 : c.toNat ≠ 1 := fun h => e1 (UInt8.toNat_inj.1 h)
      have n2 : c.toNat ≠ 2 := fun h => e2 (UInt8.toNat_inj.1 h)
      have n3 : c.toNat ≠ 3 := fun h => e3 (UInt8.toNat_inj.1 h)
      have hcu := c.toNat_lt
      have hrv : rightV ⟨(c.toNat : Int), 0, []⟩ = false := by simp [rightV]; omega
      refine refTake_oa c (c.toNat : Int) bb off (t.length + 1) cap t w hc0 (hrest) rfl hlt h2 h3 hcap htl (beq_eq_false_iff_ne.2 (by omega)) (beq_eq_false_iff_ne.2 (by omega)) (beq_eq_false_iff_ne.2 (by omega)) (right_is hrv (fits_no _ _ (by omega) (by omega)) (Nat.zero_le _)) ?_
      unfold takeV
      dsimp only
      rw [if_neg e0, if_neg (by rintro (h | h) <;> contradiction), if_neg e3]

end Go.Proofs.Ytlbilmmjcfiokaa
