/-
  The walk of the law SpansLaws.
-/
import Derived.Test.YthiijhdgbnpihaaSpansTurn
namespace Go.Proofs.Ythiijhdgbnpihaa
open Go.RowKit Go.BigFrame

theorem wrongs {x y : List Sp} (h : ¬ (rightSp x = true ∧ rightSp y = true)) : andS x y = ([], 1) ∧ andS y x = ([], 1) ∧ orS x y = ([], 1) ∧ orS y x = ([], 1) ∧ minusS x y = ([], 1) := by
  have h' : ¬ (rightSp y = true ∧ rightSp x = true) := fun k => h ⟨k.2, k.1⟩
  exact ⟨bothS_wrong h _, bothS_wrong h' _, bothS_wrong h _, bothS_wrong h' _, bothS_wrong h _⟩

set_option maxRecDepth 100000 in
set_option maxHeartbeats 4000000 in
theorem spansLaws_walk (u1 : Value) (l1 : List Sp) (u2 : Value) (l2 : List Sp) (w : World) (hu1 : RdSp w u1 l1) (hf1 : ∀ s ∈ l1, s.fits) (hu2 : RdSp w u2 l2) (hf2 : ∀ s ∈ l2, s.fits) :
    Calls Try.prog 6 #[u1, u2] w fun e w' => e = .returned (.bool true) ∧ Below w.heap.size w w' := by
  have HF1 := Lib.hid (fun W (h : Ext w W) => few_any u1 l1 W (hu1.mono h))
  have HF2 := Lib.hid (fun W (h : Ext w W) => few_any u2 l2 W (hu2.mono h))
  have HI1 := Lib.hid (show ∀ s ∈ l1.take 200, s.fits from fun s hs => hf1 s (List.mem_of_mem_take hs))
  have HI2 := Lib.hid (show ∀ s ∈ l2.take 200, s.fits from fun s hs => hf2 s (List.mem_of_mem_take hs))
  have HL1 := Lib.hid (show (l1.take 200).length ≤ 200 by rw [List.length_take]; omega)
  have HL2 := Lib.hid (show (l2.take 200).length ≤ 200 by rw [List.length_take]; omega)
  obtain ⟨ao, ca, rfl, h1, h2⟩ := hu1.shape
  obtain ⟨bo, cb, rfl, h3, h4⟩ := hu2.shape
  generalize l1.take 200 = x at HF1 HI1 HL1
  generalize l2.take 200 = y at HF2 HI2 HL2
  generalize l1.length = N1 at HF1 h1 ⊢
  generalize l2.length = N2 at HF2 h3 ⊢
  clear hu1 hf1 hu2 hf2
  unfold maxLen at h2 h4
  have HCASE := Lib.hid (show (rightSp x = true ∧ rightSp y = true) ∨ ¬ (rightSp x = true ∧ rightSp y = true) from Classical.em _)
  go_enter Try.func6, Try.ntmps6
  go_wp2_with fail
  refine (shown7_any _).mono ?_
  rintro e w1 ⟨rfl, hx1⟩
  have HX1 := Lib.hid hx1
  clear hx1
  go_wp2_with fail
  refine (HF1.out w1 HX1.out).mono ?_
  rintro e wz ⟨⟨vx, rfl, hvx⟩, rfl⟩
  have HVX := Lib.hid (show InSp w1 vx x from ⟨hvx, by have := HL1.out; omega, HI1.out⟩)
  clear hvx
  go_wp2_with fail
  refine (HF2.out w1 HX1.out).mono ?_
  rintro e wz ⟨⟨vy, rfl, hvy⟩, rfl⟩
  have HVY := Lib.hid (show InSp w1 vy y from ⟨hvy, by have := HL2.out; omega, HI2.out⟩)
  clear hvy
  rcases HCASE.out with hgood | hbad
  · rcases laws_both hgood.1 hgood.2 with ⟨b, o, r, e1, e2, e3, e4, e5, e6, e7, e8, f1, f2, f3⟩
    have HE1 := Lib.hid e1
    have HE2 := Lib.hid e2
    have HE3 := Lib.hid e3
    have HE4 := Lib.hid e4
    have HE5 := Lib.hid e5
    have HE6 := Lib.hid e6
    have HE7 := Lib.hid e7
    have HE8 := Lib.hid e8
    have HN1 := Lib.hid f1
    have HN2 := Lib.hid f2
    have HN3 := Lib.hid f3
    have HG := Lib.hid hgood
    clear e1 e2 e3 e4 e5 e6 e7 e8 f1 f2 f3 hgood
    go_wp2_with fail
    refine (pAndSp_any _ _ x y _ HVX.out HVY.out).mono ?_
    rintro e c1 ⟨v1, rfl, ho1, hx1⟩
    rw [HE1.out] at ho1 ⊢
    have HO1 := Lib.hid ho1
    have HC1 := Lib.hid hx1
    have HD1 := Lib.hid hx1
    clear ho1 hx1
    go_wp2_with fail
    refine (pAndSp_any _ _ y x _ (HVY.out.mono HC1.out) (HVX.out.mono HC1.out)).mono ?_
    rintro e c2 ⟨v2, rfl, ho2, hx2⟩
    rw [HE2.out] at ho2 ⊢
    have HO2 := Lib.hid ho2
    have HC2 := Lib.hid (Ext.trans HC1.out hx2)
    have HD2 := Lib.hid hx2
    clear ho2 hx2
    go_wp2_with fail
    refine (pOrSp_any _ _ x y _ (HVX.out.mono HC2.out) (HVY.out.mono HC2.out)).mono ?_
    rintro e c3 ⟨v3, rfl, ho3, hx3⟩
    rw [HE3.out] at ho3 ⊢
    have HO3 := Lib.hid ho3
    have HC3 := Lib.hid (Ext.trans HC2.out hx3)
    have HD3 := Lib.hid hx3
    clear ho3 hx3
    go_wp2_with fail
    refine (pOrSp_any _ _ y x _ (HVY.out.mono HC3.out) (HVX.out.mono HC3.out)).mono ?_
    rintro e c4 ⟨v4, rfl, ho4, hx4⟩
    rw [HE4.out] at ho4 ⊢
    have HO4 := Lib.hid ho4
    have HC4 := Lib.hid (Ext.trans HC3.out hx4)
    have HD4 := Lib.hid hx4
    clear ho4 hx4
    go_wp2_with fail
    refine (pMinusSp_any _ _ x y _ (HVX.out.mono HC4.out) (HVY.out.mono HC4.out)).mono ?_
    rintro e c5 ⟨v5, rfl, ho5, hx5⟩
    rw [HE5.out] at ho5 ⊢
    have HO5 := Lib.hid ho5
    have HC5 := Lib.hid (Ext.trans HC4.out hx5)
    have HD5 := Lib.hid hx5
    clear ho5 hx5
    have HB5 := Lib.hid (InSp.mono (InSp.of_own HO1.out HN1.out) (Ext.trans HD2.out (Ext.trans HD3.out (Ext.trans HD4.out HD5.out))))
    have HA5 := Lib.hid (HO2.out.rd.mono (Ext.trans HD3.out (Ext.trans HD4.out HD5.out)))
    have HO5' := Lib.hid (InSp.mono (InSp.of_own HO3.out HN2.out) (Ext.trans HD4.out HD5.out))
    have HP5 := Lib.hid (HO4.out.rd.mono HD5.out)
    have HR5 := Lib.hid (InSp.of_own HO5.out HN3.out)
    go_wp2_with fail
    refine (pRightSp_any _ x _ (HVX.out.mono HC5.out)).mono ?_
    rintro e c6 ⟨rfl, hx6⟩
    rw [HG.out.1]
    have HD6 := Lib.hid hx6
    clear hx6
    go_wp2_with fail
    refine (pRightSp_any _ y _ (HVY.out.mono (Ext.trans HC5.out HD6.out))).mono ?_
    rintro e c7 ⟨rfl, hx7⟩
    rw [HG.out.2]
    have HD7 := Lib.hid (Ext.trans HD6.out hx7)
    clear hx7
    go_wp2_with fail
    refine (pOrSp_any _ _ b r _ (HB5.out.mono HD7.out) (HR5.out.mono HD7.out)).mono ?_
    rintro e c8 ⟨v8, rfl, ho8, hx8⟩
    rw [HE6.out] at ho8 ⊢
    have HO8 := Lib.hid ho8
    have HD8 := Lib.hid (Ext.trans HD7.out hx8)
    clear ho8 hx8
    go_wp2_with fail
    refine (pAndSp_any _ _ r y _ (HR5.out.mono HD8.out) (HVY.out.mono (Ext.trans HC5.out HD8.out))).mono ?_
    rintro e c9 ⟨v9, rfl, ho9, hx9⟩
    rw [HE7.out] at ho9 ⊢
    obtain ⟨s9, k9, rfl, _, _⟩ := ho9.rd.shape
    have HO9 := Lib.hid (HO8.out.rd.mono hx9)
    have HD9 := Lib.hid (Ext.trans HD8.out hx9)
    clear ho9 hx9
    go_wp2_with fail
    refine (refSame_any _ _ b b _ (HB5.out.mono HD9.out).rd (HA5.out.mono HD9.out)).mono ?_
    rintro e c10 ⟨rfl, hx10⟩
    rw [decide_eq_true rfl]
    have HO10 := Lib.hid (HO9.out.mono hx10)
    have HD10 := Lib.hid (Ext.trans HD9.out hx10)
    clear hx10
    go_wp2_with fail
    refine (refSame_any _ _ o o _ (HO5'.out.mono HD10.out).rd (HP5.out.mono HD10.out)).mono ?_
    rintro e c11 ⟨rfl, hx11⟩
    rw [decide_eq_true rfl]
    have HO11 := Lib.hid (HO10.out.mono hx11)
    have HD11 := Lib.hid (Ext.trans HD10.out hx11)
    clear hx11
    go_wp2_with fail
    refine (refSame_any _ _ x x _ HO11.out (HVX.out.mono (Ext.trans HC5.out HD11.out)).rd).mono ?_
    rintro e c12 ⟨rfl, hx12⟩
    rw [decide_eq_true rfl]
    have HD12 := Lib.hid (Ext.trans HD11.out hx12)
    clear hx12
    go_wp2_with fail
    refine (pCountSp_any _ b _ (HB5.out.mono HD12.out)).mono ?_
    rintro e c13 ⟨rfl, hx13⟩
    have HD13 := Lib.hid (Ext.trans HD12.out hx13)
    clear hx13
    go_wp2_with fail
    refine (pCountSp_any _ o _ (HO5'.out.mono HD13.out)).mono ?_
    rintro e c14 ⟨rfl, hx14⟩
    have HD14 := Lib.hid (Ext.trans HD13.out hx14)
    clear hx14
    have hlb := listS_len b
    have hlo := listS_len o
    go_wp2_with fail
    refine (pCountSp_any _ x _ (HVX.out.mono (Ext.trans HC5.out HD14.out))).mono ?_
    rintro e c15 ⟨rfl, hx15⟩
    have HD15 := Lib.hid (Ext.trans HD14.out hx15)
    clear hx15
    go_wp2_with fail
    refine (pCountSp_any _ y _ (HVY.out.mono (Ext.trans HC5.out HD15.out))).mono ?_
    rintro e c16 ⟨rfl, hx16⟩
    have HD16 := Lib.hid (Ext.trans HX1.out (Ext.trans HC5.out (Ext.trans HD15.out hx16)))
    clear hx16
    have hlx := listS_len x
    have hly := listS_len y
    have hsum : ((((listS b).length : Int) + ((listS o).length : Int)) == (((listS x).length : Int) + ((listS y).length : Int))) = true := by rw [beq_iff_eq]; have := HE8.out; omega
    go_wp2_with fail
    go_ret
    exact ⟨by simp, HD16.out⟩
  · obtain ⟨e1, e2, e3, e4, e5⟩ := wrongs hbad
    have HE1 := Lib.hid e1
    have HE2 := Lib.hid e2
    have HE3 := Lib.hid e3
    have HE4 := Lib.hid e4
    have HE5 := Lib.hid e5
    have HBAD := Lib.hid hbad
    clear e1 e2 e3 e4 e5 hbad
    go_wp2_with fail
    refine (pAndSp_any _ _ x y _ HVX.out HVY.out).mono ?_
    rintro e c1 ⟨v1, rfl, ho1, hx1⟩
    rw [HE1.out] at ho1 ⊢
    obtain ⟨s1, k1, rfl, _, _⟩ := ho1.rd.shape
    have HC1 := Lib.hid hx1
    have HD1 := Lib.hid hx1
    clear ho1 hx1
    go_wp2_with fail
    refine (pAndSp_any _ _ y x _ (HVY.out.mono HC1.out) (HVX.out.mono HC1.out)).mono ?_
    rintro e c2 ⟨v2, rfl, ho2, hx2⟩
    rw [HE2.out] at ho2 ⊢
    obtain ⟨s2, k2, rfl, _, _⟩ := ho2.rd.shape
    have HC2 := Lib.hid (Ext.trans HC1.out hx2)
    have HD2 := Lib.hid hx2
    clear ho2 hx2
    go_wp2_with fail
    refine (pOrSp_any _ _ x y _ (HVX.out.mono HC2.out) (HVY.out.mono HC2.out)).mono ?_
    rintro e c3 ⟨v3, rfl, ho3, hx3⟩
    rw [HE3.out] at ho3 ⊢
    obtain ⟨s3, k3, rfl, _, _⟩ := ho3.rd.shape
    have HC3 := Lib.hid (Ext.trans HC2.out hx3)
    have HD3 := Lib.hid hx3
    clear ho3 hx3
    go_wp2_with fail
    refine (pOrSp_any _ _ y x _ (HVY.out.mono HC3.out) (HVX.out.mono HC3.out)).mono ?_
    rintro e c4 ⟨v4, rfl, ho4, hx4⟩
    rw [HE4.out] at ho4 ⊢
    obtain ⟨s4, k4, rfl, _, _⟩ := ho4.rd.shape
    have HC4 := Lib.hid (Ext.trans HC3.out hx4)
    have HD4 := Lib.hid hx4
    clear ho4 hx4
    go_wp2_with fail
    refine (pMinusSp_any _ _ x y _ (HVX.out.mono HC4.out) (HVY.out.mono HC4.out)).mono ?_
    rintro e c5 ⟨v5, rfl, ho5, hx5⟩
    rw [HE5.out] at ho5 ⊢
    obtain ⟨s5, k5, rfl, _, _⟩ := ho5.rd.shape
    have HC5 := Lib.hid (Ext.trans HC4.out hx5)
    have HD5 := Lib.hid hx5
    clear ho5 hx5
    go_wp2_with fail
    refine (pRightSp_any _ x _ (HVX.out.mono HC5.out)).mono ?_
    rintro e c6 ⟨rfl, hx6⟩
    have HD6 := Lib.hid (Ext.trans HC5.out hx6)
    clear hx6
    cases hrx : rightSp x with
    | false =>
      clear hrx
      go_wp2_with fail
      go_ret
      exact ⟨by simp, Ext.trans HX1.out HD6.out⟩
    | true =>
      have HRY := Lib.hid (show rightSp y = false by
        cases h : rightSp y with
        | false => rfl
        | true => exact absurd ⟨hrx, h⟩ HBAD.out)
      clear hrx
      go_wp2_with fail
      refine (pRightSp_any _ y _ (HVY.out.mono HD6.out)).mono ?_
      rintro e c7 ⟨rfl, hx7⟩
      rw [HRY.out]
      have HD7 := Lib.hid (Ext.trans HX1.out (Ext.trans HD6.out hx7))
      clear hx7
      go_wp2_with fail
      go_ret
      exact ⟨by simp, HD7.out⟩

end Go.Proofs.Ythiijhdgbnpihaa
