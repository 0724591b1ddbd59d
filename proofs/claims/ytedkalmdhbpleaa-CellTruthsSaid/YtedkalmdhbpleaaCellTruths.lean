/-
  The walk of the law CellTruths.
-/
import Derived.Test.YtedkalmdhbpleaaCellShown
import Derived.Test.YtedkalmdhbpleaaCellRefT
namespace Go.Proofs.Ytedkalmdhbpleaa
open Go.RowKit

theorem t0 : tr 0 = 0 := rfl
theorem t1 : tr 1 = 1 := rfl
theorem t2 : tr 2 = 2 := rfl
theorem T_bounds (a b : Int) (ha : 0 ≤ a) (hb : 0 ≤ b) : (0 ≤ andT a b ∧ andT a b ≤ 255) ∧ (0 ≤ orT a b ∧ orT a b ≤ 255) ∧ (0 ≤ notT a ∧ notT a ≤ 255) := by
  unfold andT orT notT
  have := tr_three ha
  have := tr_three hb
  omega
theorem T_facts (a b c : Int) (ha : 0 ≤ a) (hb : 0 ≤ b) (hc : 0 ≤ c) :
    andT a 2 ≤ 2 ∧ notT (notT a) = andT a 2 ∧ notT (andT a b) = orT (notT a) (notT b) ∧
    andT (andT a 2) (orT (andT b 2) (andT c 2)) = orT (andT (andT a 2) (andT b 2)) (andT (andT a 2) (andT c 2)) ∧ orT a 0 = andT a 2 ∧ andT a 0 = 0 := by
  unfold andT orT notT
  rcases tr_three ha with h | h | h <;> rcases tr_three hb with h' | h' | h' <;> rcases tr_three hc with h'' | h'' | h'' <;> rw [h, h', h''] <;> decide

theorem u8_in {n : Int} (h : 0 ≤ n ∧ n ≤ 255) : 0 ≤ n ∧ n ≤ 255 := h

set_option maxRecDepth 100000 in
set_option maxHeartbeats 1000000 in
theorem cellTruths_walk (a b c : Int) (w : World) (ha : 0 ≤ a ∧ a ≤ 255) (hb : 0 ≤ b ∧ b ≤ 255) (hc : 0 ≤ c ∧ c ≤ 255) :
    Calls Try.prog 4 #[.int .u8 a, .int .u8 b, .int .u8 c] w fun e w' => e = .returned (.bool true) ∧ Below w.heap.size w w' := by
  have HF := Lib.hid (T_facts a b c ha.1 hb.1 hc.1)
  have h2 : (0:Int) ≤ 2 ∧ (2:Int) ≤ 255 := by decide
  have h0 : (0:Int) ≤ 0 ∧ (0:Int) ≤ 255 := by decide
  have HX := Lib.hid (T_bounds a 2 ha.1 h2.1)
  have HY := Lib.hid (T_bounds b 2 hb.1 h2.1)
  have HZ := Lib.hid (T_bounds c 2 hc.1 h2.1)
  have HAB := Lib.hid (T_bounds a b ha.1 hb.1)
  have HBA := Lib.hid (T_bounds b a hb.1 ha.1)
  have HA := Lib.hid ha
  have HB := Lib.hid hb
  have HC := Lib.hid hc
  have HYZ := Lib.hid (T_bounds _ _ HY.out.1.1 HZ.out.1.1)
  have HXY := Lib.hid (T_bounds _ _ HX.out.1.1 HY.out.1.1)
  have HXZ := Lib.hid (T_bounds _ _ HX.out.1.1 HZ.out.1.1)
  have f0 : decide (andT a 2 ≤ 2) = true := decide_eq_true HF.out.1
  have f1 : (notT (notT a) == andT a 2) = true := beq_iff_eq.2 HF.out.2.1
  have f2 : (notT (andT a b) == orT (notT a) (notT b)) = true := beq_iff_eq.2 HF.out.2.2.1
  have f3 : (andT (andT a 2) (orT (andT b 2) (andT c 2)) == orT (andT (andT a 2) (andT b 2)) (andT (andT a 2) (andT c 2))) = true := beq_iff_eq.2 HF.out.2.2.2.1
  have f4 : (orT a 0 == andT a 2) = true := beq_iff_eq.2 HF.out.2.2.2.2.1
  have f5 : (andT a 0 == 0) = true := beq_iff_eq.2 HF.out.2.2.2.2.2
  clear ha hb hc h2 h0
  go_enter Try.func4, Try.ntmps4
  go_wp2_with fail
  refine (And_any a 2 HA.out (by decide) _).mono ?_
  rintro e w1 ⟨rfl, hb⟩
  have E1 := Lib.hid hb
  clear hb
  go_wp2_with fail
  refine (And_any b 2 HB.out (by decide) _).mono ?_
  rintro e w2 ⟨rfl, hb⟩
  have E2 := Lib.hid (Ext.trans E1.out hb)
  clear hb
  go_wp2_with fail
  refine (And_any c 2 HC.out (by decide) _).mono ?_
  rintro e w3 ⟨rfl, hb⟩
  have E3 := Lib.hid (Ext.trans E2.out hb)
  clear hb
  go_wp2_with fail
  refine (shown_any _).mono ?_
  rintro e w4 ⟨rfl, hb⟩
  have E4 := Lib.hid (Ext.trans E3.out hb)
  clear hb
  go_wp2_with fail
  refine (And_any a b HA.out HB.out _).mono ?_
  rintro e w5 ⟨rfl, hb⟩
  have E5 := Lib.hid (Ext.trans E4.out hb)
  clear hb
  go_wp2_with fail
  refine (refAnd_any a b HA.out HB.out _).mono ?_
  rintro e w6 ⟨rfl, hb⟩
  have E6 := Lib.hid (Ext.trans E5.out hb)
  clear hb
  go_wp2_with fail
  refine (Or_any a b HA.out HB.out _).mono ?_
  rintro e w7 ⟨rfl, hb⟩
  have E7 := Lib.hid (Ext.trans E6.out hb)
  clear hb
  go_wp2_with fail
  refine (refOr_any a b HA.out HB.out _).mono ?_
  rintro e w8 ⟨rfl, hb⟩
  have E8 := Lib.hid (Ext.trans E7.out hb)
  clear hb
  go_wp2_with fail
  refine (Not_any a HA.out _).mono ?_
  rintro e w9 ⟨rfl, hb⟩
  have E9 := Lib.hid (Ext.trans E8.out hb)
  clear hb
  go_wp2_with fail
  refine (refNot_any a HA.out _).mono ?_
  rintro e w10 ⟨rfl, hb⟩
  have E10 := Lib.hid (Ext.trans E9.out hb)
  clear hb
  go_wp2_with fail
  refine (Not_any a HA.out _).mono ?_
  rintro e w11 ⟨rfl, hb⟩
  have E11 := Lib.hid (Ext.trans E10.out hb)
  clear hb
  go_wp2_with fail
  refine (Not_any (notT a) HAB.out.2.2 _).mono ?_
  rintro e w12 ⟨rfl, hb⟩
  have E12 := Lib.hid (Ext.trans E11.out hb)
  clear hb
  go_wp2_with fail
  refine (And_any a b HA.out HB.out _).mono ?_
  rintro e w13 ⟨rfl, hb⟩
  have E13 := Lib.hid (Ext.trans E12.out hb)
  clear hb
  go_wp2_with fail
  refine (Not_any (andT a b) HAB.out.1 _).mono ?_
  rintro e w14 ⟨rfl, hb⟩
  have E14 := Lib.hid (Ext.trans E13.out hb)
  clear hb
  go_wp2_with fail
  refine (Not_any a HA.out _).mono ?_
  rintro e w15 ⟨rfl, hb⟩
  have E15 := Lib.hid (Ext.trans E14.out hb)
  clear hb
  go_wp2_with fail
  refine (Not_any b HB.out _).mono ?_
  rintro e w16 ⟨rfl, hb⟩
  have E16 := Lib.hid (Ext.trans E15.out hb)
  clear hb
  go_wp2_with fail
  refine (Or_any (notT a) (notT b) HAB.out.2.2 HBA.out.2.2 _).mono ?_
  rintro e w17 ⟨rfl, hb⟩
  have E17 := Lib.hid (Ext.trans E16.out hb)
  clear hb
  go_wp2_with fail
  refine (Or_any (andT b 2) (andT c 2) HY.out.1 HZ.out.1 _).mono ?_
  rintro e w18 ⟨rfl, hb⟩
  have E18 := Lib.hid (Ext.trans E17.out hb)
  clear hb
  go_wp2_with fail
  refine (And_any (andT a 2) (orT (andT b 2) (andT c 2)) HX.out.1 HYZ.out.2.1 _).mono ?_
  rintro e w19 ⟨rfl, hb⟩
  have E19 := Lib.hid (Ext.trans E18.out hb)
  clear hb
  go_wp2_with fail
  refine (And_any (andT a 2) (andT b 2) HX.out.1 HY.out.1 _).mono ?_
  rintro e w20 ⟨rfl, hb⟩
  have E20 := Lib.hid (Ext.trans E19.out hb)
  clear hb
  go_wp2_with fail
  refine (And_any (andT a 2) (andT c 2) HX.out.1 HZ.out.1 _).mono ?_
  rintro e w21 ⟨rfl, hb⟩
  have E21 := Lib.hid (Ext.trans E20.out hb)
  clear hb
  go_wp2_with fail
  refine (Or_any _ _ HXY.out.1 HXZ.out.1 _).mono ?_
  rintro e w22 ⟨rfl, hb⟩
  have E22 := Lib.hid (Ext.trans E21.out hb)
  clear hb
  go_wp2_with fail
  refine (Or_any a 0 HA.out (by decide) _).mono ?_
  rintro e w23 ⟨rfl, hb⟩
  have E23 := Lib.hid (Ext.trans E22.out hb)
  clear hb
  go_wp2_with fail
  refine (And_any a 0 HA.out (by decide) _).mono ?_
  rintro e w24 ⟨rfl, hb⟩
  have E24 := Lib.hid (Ext.trans E23.out hb)
  clear hb
  go_wp2_with fail
  go_ret
  exact ⟨rfl, E24.out⟩

end Go.Proofs.Ytedkalmdhbpleaa
