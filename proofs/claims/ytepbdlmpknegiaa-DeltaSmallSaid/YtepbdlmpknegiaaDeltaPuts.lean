/-
  The walks of the laws DeltaPuts, DeltaTakes, DeltaSteps.
-/
import Derived.Test.YtepbdlmpknegiaaDeltaShown
namespace Go.Proofs.Ytepbdlmpknegiaa
open Go.ChangeAt Go.RowKit Go.BigFrame

theorem stepS_fits (a b : Int) : -9223372036854775808 ≤ (stepS a b).1 ∧ (stepS a b).1 ≤ 9223372036854775807 := by
  by_cases h : okStep a b
  · rw [stepS_ok h]; exact h
  · rw [stepS_no h]; decide

set_option maxRecDepth 100000 in
set_option maxHeartbeats 1000000 in
theorem deltaPuts_walk (a b : Int) (u : Value) (zs : List Int) (w : World) (ha : -9223372036854775808 ≤ a ∧ a ≤ 9223372036854775807) (hb : -9223372036854775808 ≤ b ∧ b ≤ 9223372036854775807) (hu : RdV w u (zs.map (Value.int .i64))) (hf : ∀ n ∈ zs, (Lit.int .i64 n).wf = true) :
    Calls Try.prog 3 #[.int .i64 a, .int .i64 b, u] w fun e w' => e = .returned (.bool true) ∧ Below w.heap.size w w' := by
  have HFEW := Lib.hid (fun W (h : Ext w W) => few11_any u zs W (hu.mono h))
  have HXF := Lib.hid (show fitsI (zs.take 5000) from fun x hx => bounds_i64 (hf x (List.mem_of_mem_take hx)))
  have HXN := Lib.hid (show (zs.take 5000).length ≤ 5000 by rw [List.length_take]; omega)
  generalize zs.take 5000 = x at HFEW HXF HXN
  have HA := Lib.hid ha
  have HB := Lib.hid hb
  have HSW := Lib.hid (fun W => pStep11_any a b W ha hb)
  have HSR := Lib.hid (fun W => refStepD_any a b W ha hb)
  obtain ⟨ao, cap, rfl, -, -, -⟩ := RdV.cellsAt hu
  generalize (zs.map (Value.int .i64)).length = N at HFEW ⊢
  generalize stepS a b = st at HSW HSR
  obtain ⟨s1, s2⟩ := st
  have q1 : (s1 == s1) = true := beq_self_eq_true _
  have q2 : (s2 == s2) = true := beq_self_eq_true _
  clear hu hf ha hb
  go_enter Try.func3, Try.ntmps3
  go_wp2_with fail
  refine (HSW.out w).mono ?_
  rintro e w1 ⟨rfl, hx1⟩
  have HX1 := Lib.hid hx1
  clear hx1
  go_wp2_with fail
  refine (HSR.out w1).mono ?_
  rintro e w2 ⟨rfl, rfl⟩
  go_wp2_with fail
  refine (HFEW.out w1 HX1.out).mono ?_
  rintro e w2 ⟨⟨v, rfl, hv⟩, rfl⟩
  have HV := Lib.hid (fun W (h : Ext w1 W) => hv.mono h)
  clear hv
  go_wp2_with fail
  refine (pPut11_any v x w1 (HV.out _ (Ext.keeps.refl _)) (by have := HXN.out; omega) HXF.out).mono ?_
  rintro e w3 ⟨v3, rfl, ho3, hx3⟩
  have HR3 := Lib.hid (show Rd w3 v3 (putS11 x).1 from RdV.of_owns ho3)
  have HX3 := Lib.hid hx3
  clear ho3 hx3
  go_wp2_with fail
  refine (HFEW.out w3 (Ext.trans HX1.out HX3.out)).mono ?_
  rintro e w4 ⟨⟨v4, rfl, hv4⟩, rfl⟩
  have HV4 := Lib.hid hv4
  clear hv4
  go_wp2_with fail
  refine (refPutD_any v4 x w3 HV4.out HXF.out).mono ?_
  rintro e w5 ⟨v5, rfl, ho5, hx5⟩
  have HR5 := Lib.hid (show Rd w5 v5 (putS11 x).1 from RdV.of_owns ho5)
  have HR3' := Lib.hid (HR3.out.mono hx5)
  have HX5 := Lib.hid (Ext.trans HX1.out (Ext.trans HX3.out hx5))
  clear ho5 hx5
  generalize putS11 x = R at HR3' HR5
  obtain ⟨R1, R2⟩ := R
  have q3 : (R1 == R1) = true := beq_self_eq_true _
  have q4 : (R2 == R2) = true := beq_self_eq_true _
  go_wp2_with fail
  refine (shown11_any w5).mono ?_
  rintro e w6 ⟨rfl, hx6⟩
  have HX6 := Lib.hid (Ext.trans HX5.out hx6)
  have hs1 := str_of (HR3'.out.mono hx6)
  have hs2 := str_of (HR5.out.mono hx6)
  clear hx6
  go_wp2_with fail
  refine (HFEW.out w6 HX6.out).mono ?_
  rintro e w7 ⟨⟨v7, rfl, hv7⟩, rfl⟩
  have HV7 := Lib.hid hv7
  clear hv7 hs1 hs2
  go_wp2_with fail
  refine (pRises11_any v7 x w6 HV7.out (by have := HXN.out; omega) HXF.out).mono ?_
  rintro e w8 ⟨rfl, hx8⟩
  have HX8 := Lib.hid (Ext.trans HX6.out hx8)
  clear hx8
  go_wp2_with fail
  refine (HFEW.out w8 HX8.out).mono ?_
  rintro e w9 ⟨⟨v9, rfl, hv9⟩, rfl⟩
  have HV9 := Lib.hid hv9
  clear hv9
  go_wp2_with fail
  refine (refRises_any v9 x w8 HV9.out).mono ?_
  rintro e w10 ⟨rfl, hx10⟩
  have HX10 := Lib.hid (Ext.trans HX8.out hx10)
  have q5 : (risesS x == risesS x) = true := beq_self_eq_true _
  clear hx10
  generalize risesS x = rr at q5
  go_wp2_with fail
  go_ret
  exact ⟨by simp, HX10.out⟩

set_option maxRecDepth 100000 in
theorem deltaTakes_walk (u : Value) (b : List UInt8) (w : World) (hu : Rd w u b) :
    Calls Try.prog 4 #[u] w fun e w' => e = .returned (.bool true) ∧ Below w.heap.size w w' := by
  have HU := Lib.hid hu
  obtain ⟨co, ccap, rfl, h3, h4⟩ := hu.shape
  unfold maxLen at h4
  obtain ⟨J, hj1, hj2, hj3, hj4, -⟩ := min_firstN b.length 3000
  have HB := Lib.hid (show Rd w (.slice co J ccap) (b.take J) by have := rdV_first HU.out J hj3; rwa [← List.map_take] at this)
  have HBN := Lib.hid (show (b.take J).length ≤ 3000 by rw [List.length_take]; omega)
  generalize b.take J = bs at HB HBN
  generalize b.length = N3 at h3 hj1 hj2 hj3 ⊢
  have hJc : J ≤ ccap := by omega
  simp only [Int.cast_ofNat_Int] at hj1 hj2
  clear hu HU
  go_enter Try.func4, Try.ntmps4
  go_wp2_with fail
  refine (pTake11_any _ bs w HB.out (by have := HBN.out; omega)).mono ?_
  rintro e w1 ⟨v1, rfl, ho1, hx1⟩
  have HR1 := Lib.hid (RdV.of_owns ho1)
  have HX1 := Lib.hid hx1
  clear ho1 hx1
  go_wp2_with fail
  refine (refTakeD_any _ bs w1 (HB.out.mono HX1.out) (by have := HBN.out; omega)).mono ?_
  rintro e w2 ⟨v2, rfl, ho2, hx2⟩
  have HR2 := Lib.hid (RdV.of_owns ho2)
  have HR1' := Lib.hid (HR1.out.mono hx2)
  have HX2 := Lib.hid (Ext.trans HX1.out hx2)
  clear ho2 hx2
  go_wp2_with fail
  have HTL := Lib.hid (show (takeS11 bs).1.length ≤ 5000 by
    rcases takeS11_two bs with h | ⟨l, hl, h⟩
    · rw [h]; exact Nat.zero_le _
    · rw [h]; have := hl.parts.1; show l.length ≤ 5000; omega)
  generalize takeS11 bs = R at HR1' HR2 HTL
  obtain ⟨R1, R2⟩ := R
  have q4 : (R2 == R2) = true := beq_self_eq_true _
  refine (shown11_any w2).mono ?_
  rintro e w3 ⟨rfl, hx3⟩
  have HX3 := Lib.hid (Ext.trans HX2.out hx3)
  have HA := Lib.hid (HR1'.out.mono hx3)
  have HC := Lib.hid (HR2.out.mono hx3)
  clear hx3
  go_wp2_with fail
  refine (refInts_any v1 v2 R1 R1 w3 HA.out HC.out (by have := HTL.out; omega) (by have := HTL.out; omega)).mono ?_
  rintro e w4 ⟨rfl, hx4⟩
  rw [decide_eq_true rfl]
  have HX4 := Lib.hid (Ext.trans HX3.out hx4)
  clear hx4
  go_wp2_with fail
  go_ret
  exact ⟨by simp, HX4.out⟩

set_option maxRecDepth 100000 in
set_option maxHeartbeats 1000000 in
theorem deltaSteps_walk (a b : Int) (w : World) (ha : -9223372036854775808 ≤ a ∧ a ≤ 9223372036854775807) (hb : -9223372036854775808 ≤ b ∧ b ≤ 9223372036854775807) :
    Calls Try.prog 7 #[.int .i64 a, .int .i64 b] w fun e w' => e = .returned (.bool true) ∧ Below w.heap.size w w' := by
  have HS1 := Lib.hid (fun W => pStep11_any a b W ha hb)
  have HS2 := Lib.hid (fun W => pStep11_any b a W hb ha)
  by_cases h1 : okStep a b
  · rw [stepS_ok h1] at HS1
    by_cases h2 : okStep b a
    · rw [stepS_ok h2] at HS2
      obtain ⟨n, hn⟩ : ∃ n, b - a = n := ⟨_, rfl⟩
      obtain ⟨m, hm⟩ : ∃ m, a - b = m := ⟨_, rfl⟩
      have hnb : a + n = b := by omega
      have hmn : m = -n := by omega
      have hnn : -9223372036854775808 < n ∧ n ≤ 9223372036854775807 := by unfold okStep at h1 h2; omega
      rw [hn] at HS1
      rw [hm] at HS2
      clear hn hm h1 h2
      subst hmn
      have q1 : ((a + n) == b) = true := by rw [beq_iff_eq]; exact hnb
      have q3 : ((-n) == (-n)) = true := beq_self_eq_true _
      by_cases hq : n < 0
      · have d1 : decide (n < 0) = true := decide_eq_true hq
        have d2 : decide (b < a) = true := decide_eq_true (by omega)
        subst hnb
        go_enter Try.func7, Try.ntmps7
        go_wp2_with fail
        refine (shown11_any w).mono ?_
        rintro e w1 ⟨rfl, hx1⟩
        have HX1 := Lib.hid hx1
        clear hx1
        go_wp2_with fail
        refine (HS1.out w1).mono ?_
        rintro e w2 ⟨rfl, hx2⟩
        have HX2 := Lib.hid (Ext.trans HX1.out hx2)
        clear hx2
        go_wp2_with fail
        refine (HS2.out w2).mono ?_
        rintro e w3 ⟨rfl, hx3⟩
        have HX3 := Lib.hid (Ext.trans HX2.out hx3)
        clear hx3
        go_wp2_with fail
        go_ret
        exact ⟨by simp, HX3.out⟩
      · have d1 : decide (n < 0) = false := decide_eq_false hq
        have d2 : decide (b < a) = false := decide_eq_false (by omega)
        subst hnb
        go_enter Try.func7, Try.ntmps7
        go_wp2_with fail
        refine (shown11_any w).mono ?_
        rintro e w1 ⟨rfl, hx1⟩
        have HX1 := Lib.hid hx1
        clear hx1
        go_wp2_with fail
        refine (HS1.out w1).mono ?_
        rintro e w2 ⟨rfl, hx2⟩
        have HX2 := Lib.hid (Ext.trans HX1.out hx2)
        clear hx2
        go_wp2_with fail
        refine (HS2.out w2).mono ?_
        rintro e w3 ⟨rfl, hx3⟩
        have HX3 := Lib.hid (Ext.trans HX2.out hx3)
        clear hx3
        go_wp2_with fail
        go_ret
        exact ⟨by simp, HX3.out⟩
    · rw [stepS_no h2] at HS2
      have hb2 : b = a + -9223372036854775808 := by unfold okStep at h1 h2; omega
      have hn : b - a = -9223372036854775808 := by omega
      rw [hn] at HS1
      clear hn h1 h2
      subst hb2
      have q1 : ((a + -9223372036854775808) == (a + -9223372036854775808)) = true := beq_self_eq_true _
      have d2 : decide (a + -9223372036854775808 < a) = true := decide_eq_true (by omega)
      go_enter Try.func7, Try.ntmps7
      go_wp2_with fail
      refine (shown11_any w).mono ?_
      rintro e w1 ⟨rfl, hx1⟩
      have HX1 := Lib.hid hx1
      clear hx1
      go_wp2_with fail
      refine (HS1.out w1).mono ?_
      rintro e w2 ⟨rfl, hx2⟩
      have HX2 := Lib.hid (Ext.trans HX1.out hx2)
      clear hx2
      go_wp2_with fail
      refine (HS2.out w2).mono ?_
      rintro e w3 ⟨rfl, hx3⟩
      have HX3 := Lib.hid (Ext.trans HX2.out hx3)
      clear hx3
      go_wp2_with fail
      go_ret
      exact ⟨by simp, HX3.out⟩
  · rw [stepS_no h1] at HS1
    generalize stepS b a = st at HS2
    obtain ⟨s1, s2⟩ := st
    have hne : (a != b) = true := bne_iff_ne.2 (fun e => h1 (by subst e; exact ⟨by omega, by omega⟩))
    have hab : (a < 0 ∧ ¬ b < 0) ∨ (¬ a < 0 ∧ b < 0) := by unfold okStep at h1; omega
    clear h1
    rcases hab with ⟨hq1, hq2⟩ | ⟨hq1, hq2⟩
    · have d1 : decide (a < 0) = true := decide_eq_true hq1
      have d2 : decide (b < 0) = false := decide_eq_false hq2
      go_enter Try.func7, Try.ntmps7
      go_wp2_with fail
      refine (shown11_any w).mono ?_
      rintro e w1 ⟨rfl, hx1⟩
      have HX1 := Lib.hid hx1
      clear hx1
      go_wp2_with fail
      refine (HS1.out w1).mono ?_
      rintro e w2 ⟨rfl, hx2⟩
      have HX2 := Lib.hid (Ext.trans HX1.out hx2)
      clear hx2
      go_wp2_with fail
      refine (HS2.out w2).mono ?_
      rintro e w3 ⟨rfl, hx3⟩
      have HX3 := Lib.hid (Ext.trans HX2.out hx3)
      clear hx3
      go_wp2_with fail
      go_ret
      exact ⟨by simp, HX3.out⟩
    · have d1 : decide (a < 0) = false := decide_eq_false hq1
      have d2 : decide (b < 0) = true := decide_eq_true hq2
      go_enter Try.func7, Try.ntmps7
      go_wp2_with fail
      refine (shown11_any w).mono ?_
      rintro e w1 ⟨rfl, hx1⟩
      have HX1 := Lib.hid hx1
      clear hx1
      go_wp2_with fail
      refine (HS1.out w1).mono ?_
      rintro e w2 ⟨rfl, hx2⟩
      have HX2 := Lib.hid (Ext.trans HX1.out hx2)
      clear hx2
      go_wp2_with fail
      refine (HS2.out w2).mono ?_
      rintro e w3 ⟨rfl, hx3⟩
      have HX3 := Lib.hid (Ext.trans HX2.out hx3)
      clear hx3
      go_wp2_with fail
      go_ret
      exact ⟨by simp, HX3.out⟩

end Go.Proofs.Ytepbdlmpknegiaa
