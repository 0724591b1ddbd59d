/-
  The walk of the law SpansTurn.
-/
import Derived.Test.YthiijhdgbnpihaaSpansMath
namespace Go.Proofs.Ythiijhdgbnpihaa
open Go.RowKit Go.BigFrame

theorem InSp.of_own {base : Nat} {w : World} {v : Value} {l : List Sp} (h : OwnSp base w v l) (hr : l = [] ∨ ∃ f, l = normS f) : InSp w v l := InSp.of_ans (r := (l, 0)) h hr
theorem all_new (w : World) : InSp (w.alloc (.cells #[.int .i64 0, .int .i64 4096] 39)) (.slice (some ⟨w.heap.size, 0, none⟩) 1 1) [⟨0, 4096⟩] :=
  ⟨lit_sp w [⟨0, 4096⟩] 39 (by decide), by decide, fun s hs => by
    have : s = ⟨0, 4096⟩ := by simpa using hs
    subst this
    exact ⟨by decide, by decide⟩⟩

set_option maxRecDepth 100000 in
set_option maxHeartbeats 2000000 in
theorem spansTurn_walk (u : Value) (l : List Sp) (w : World) (hu : RdSp w u l) (hf : ∀ s ∈ l, s.fits) :
    Calls Try.prog 8 #[u] w fun e w' => e = .returned (.bool true) ∧ Below w.heap.size w w' := by
  have HFW := Lib.hid (fun W (h : Ext w W) => few_any u l W (hu.mono h))
  have HF := Lib.hid (show ∀ s ∈ l.take 200, s.fits from fun s hs => hf s (List.mem_of_mem_take hs))
  have HL := Lib.hid (show (l.take 200).length ≤ 200 by rw [List.length_take]; omega)
  generalize l.take 200 = x at HFW HF HL
  obtain ⟨ao, cap, rfl, h1, h2⟩ := hu.shape
  generalize l.length = N at HFW h1 ⊢
  clear hu hf
  unfold maxLen at h2
  go_enter Try.func8, Try.ntmps8
  go_wp2_with fail
  refine (shown7_any _).mono ?_
  rintro e w1 ⟨rfl, hx1⟩
  have HX1 := Lib.hid hx1
  clear hx1
  go_wp2_with fail
  refine (HFW.out w1 HX1.out).mono ?_
  rintro e wz ⟨⟨v, rfl, hv⟩, rfl⟩
  have HIN := Lib.hid (show InSp w1 v x from ⟨hv, by have := HL.out; omega, HF.out⟩)
  clear hv
  go_wp2_with fail
  refine (pRightSp_any _ x w1 HIN.out).mono ?_
  rintro e w2 ⟨rfl, hx2⟩
  have HI2 := Lib.hid (HIN.out.mono hx2)
  have HX2 := Lib.hid (Ext.trans HX1.out hx2)
  clear hx2
  cases hr : rightSp x with
  | false =>
    clear hr
    go_wp2_with fail
    go_ret
    exact ⟨rfl, HX2.out⟩
  | true =>
    obtain ⟨y, hy1, hy2, hy3, hy4, hy5, hy6⟩ := laws_turn hr
    have HY1 := Lib.hid hy1
    have HY2 := Lib.hid hy2
    have HY3 := Lib.hid hy3
    have HY4 := Lib.hid hy4
    have HY5 := Lib.hid hy5
    have HY6 := Lib.hid hy6
    have HYL := Lib.hid (show (listS x).length ≤ 4096 ∧ (listS y).length ≤ 4096 from ⟨listS_len x, listS_len y⟩)
    clear hr hy1 hy2 hy3 hy4 hy5 hy6
    have HA := Lib.hid (all_new w2)
    go_wp2_with fail
    refine (pMinusSp_any _ _ [⟨0, 4096⟩] x _ HA.out (HI2.out.mono (ext_new w2 _))).mono ?_
    rintro e w3 ⟨v3, rfl, ho3, hx3⟩
    rw [HY1.out] at ho3 ⊢
    have HV3 := Lib.hid (InSp.of_own ho3 HY6.out)
    have HA3 := Lib.hid (HA.out.mono hx3)
    have HX3 := Lib.hid (Ext.trans (ext_new w2 _) hx3)
    clear ho3 hx3
    go_wp2_with fail
    refine (pMinusSp_any _ _ [⟨0, 4096⟩] y _ HA3.out HV3.out).mono ?_
    rintro e w4 ⟨v4, rfl, ho4, hx4⟩
    rw [HY2.out] at ho4 ⊢
    have HV4 := Lib.hid ho4.rd
    have HX4 := Lib.hid hx4
    clear ho4 hx4
    go_wp2_with fail
    refine (pAndSp_any _ _ x y _ (HI2.out.mono (Ext.trans HX3.out HX4.out)) (HV3.out.mono HX4.out)).mono ?_
    rintro e w5 ⟨v5, rfl, ho5, hx5⟩
    rw [HY3.out] at ho5 ⊢
    obtain ⟨ao5, cap5, rfl, hc51, hc52⟩ := ho5.rd.shape
    have HX5 := Lib.hid hx5
    clear ho5 hx5
    go_wp2_with fail
    refine (pOrSp_any _ _ x y _ (HI2.out.mono (Ext.trans HX3.out (Ext.trans HX4.out HX5.out))) (HV3.out.mono (Ext.trans HX4.out HX5.out))).mono ?_
    rintro e w6 ⟨v6, rfl, ho6, hx6⟩
    rw [HY4.out] at ho6 ⊢
    have HV6 := Lib.hid ho6.rd
    have HX6 := Lib.hid (Ext.trans HX4.out (Ext.trans HX5.out hx6))
    have HX46 := Lib.hid (Ext.trans HX5.out hx6)
    clear ho6 hx6
    go_wp2_with fail
    refine (refSame_any _ _ x x _ (HV4.out.mono HX46.out) (HI2.out.mono (Ext.trans HX3.out HX6.out)).rd).mono ?_
    rintro e w7 ⟨rfl, hx7⟩
    rw [decide_eq_true rfl]
    have HX7 := Lib.hid (Ext.trans HX6.out hx7)
    have HV7 := Lib.hid (HV6.out.mono hx7)
    clear hx7
    go_wp2_with fail
    refine (refSame_any _ _ [⟨0, 4096⟩] [⟨0, 4096⟩] _ HV7.out (HA3.out.mono HX7.out).rd).mono ?_
    rintro e w8 ⟨rfl, hx8⟩
    rw [decide_eq_true rfl]
    have HX8 := Lib.hid (Ext.trans HX7.out hx8)
    clear hx8
    go_wp2_with fail
    refine (pCountSp_any _ x _ (HI2.out.mono (Ext.trans HX3.out HX8.out))).mono ?_
    rintro e w9 ⟨rfl, hx9⟩
    have HX9 := Lib.hid (Ext.trans HX8.out hx9)
    clear hx9
    go_wp2_with fail
    refine (pCountSp_any _ y _ (HV3.out.mono HX9.out)).mono ?_
    rintro e w10 ⟨rfl, hx10⟩
    have HX10 := Lib.hid (Ext.trans HX2.out (Ext.trans HX3.out (Ext.trans HX9.out hx10)))
    clear hx10
    obtain ⟨A, hA⟩ : ∃ A, (listS x).length = A := ⟨_, rfl⟩
    obtain ⟨B, hB⟩ : ∃ B, (listS y).length = B := ⟨_, rfl⟩
    have hab : A ≤ 4096 ∧ B ≤ 4096 := by have := HYL.out; omega
    have hs : (((A : Int) + (B : Int)) == (4096 : Int)) = true := by rw [beq_iff_eq]; have := HY5.out; omega
    rw [hA, hB]
    clear hA hB
    go_wp2_with fail
    go_ret
    exact ⟨by simp, HX10.out⟩

end Go.Proofs.Ythiijhdgbnpihaa
