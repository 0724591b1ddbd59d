/-
  Texts of this proof, merged: StabSym, StabMerge.
-/
import Derived.Deep.Cut
import Derived.Test.YtjpdpgjalbjmgaaZ5
/-
  Sorting rows in place, as the library does it: two sorted blocks, side by side, become one.
-/
namespace Go.Proofs.Ytjpdpgjalbjmgaa
open Go.RowKit Go.BigFrame

theorem half_of (I J : Nat) (_h : I + J ≤ 4000000) : ((I : Int) + (J : Int)) / 2 = (((I + J) / 2 : Nat) : Int) := by omega

/-- x, ahead of k of those behind it. -/
def OneTo (p v q : List Value) (x : Value) (cur : List Value) (k : Nat) : Prop := k ≤ v.length ∧ cur = p ++ v.take k ++ x :: (v.drop k ++ q)
theorem OneTo.start (p v q : List Value) (x : Value) : OneTo p v q x (p ++ x :: v ++ q) 0 := ⟨Nat.zero_le _, by simp⟩
theorem OneTo.at {p v q : List Value} {x : Value} {cur : List Value} {k : Nat} (h : OneTo p v q x cur k) : cur[p.length + k]? = some x := by
  obtain ⟨h1, rfl⟩ := h
  have e : p.length + k = (p ++ v.take k).length := by rw [List.length_append, List.length_take]; omega
  rw [e]
  simp
theorem OneTo.next {p v q : List Value} {x y : Value} {cur : List Value} {k : Nat} (h : OneTo p v q x cur k) (hk : k < v.length) (hy : cur[p.length + k + 1]? = some y) : OneTo p v q x (swapL cur (p.length + k) (p.length + k + 1)) (k + 1) := by
  have hx := h.at
  obtain ⟨h1, rfl⟩ := h
  have e : p.length + k = (p ++ v.take k).length := by rw [List.length_append, List.length_take]; omega
  rw [List.drop_eq_getElem_cons hk] at hx hy ⊢
  rw [e] at hx hy ⊢
  simp only [List.cons_append] at hx hy ⊢
  have hz : v[k] = y := by
    rw [(OrdPure.at_next rfl).2] at hy
    exact Option.some.inj hy
  subst hz
  refine ⟨by omega, ?_⟩
  rw [swapL_eq hx hy, (OrdPure.swap_next rfl).1, List.take_succ_eq_append_getElem hk]
  simp only [List.append_assoc, List.cons_append, List.nil_append]
theorem OneTo.back {p v q : List Value} {x y : Value} {cur : List Value} {k : Nat} (h : OneTo p v q x cur (k + 1)) (hy : cur[p.length + k]? = some y) : OneTo p v q x (swapL cur (p.length + k + 1) (p.length + k)) k := by
  have hx : cur[p.length + k + 1]? = some x := h.at
  obtain ⟨h1, rfl⟩ := h
  have e : p.length + k = (p ++ v.take k).length := by rw [List.length_append, List.length_take]; omega
  have e2 : p ++ v.take (k + 1) ++ x :: (v.drop (k + 1) ++ q) = (p ++ v.take k) ++ v[k] :: x :: (v.drop (k + 1) ++ q) := by
    rw [List.take_succ_eq_append_getElem (by omega)]
    simp only [List.append_assoc, List.cons_append, List.nil_append]
  rw [e2] at hx hy ⊢
  rw [e] at hx hy ⊢
  have hz : v[k] = y := by
    rw [(OrdPure.at_next rfl).1] at hy
    exact Option.some.inj hy
  subst hz
  refine ⟨by omega, ?_⟩
  rw [swapL_eq hx hy, (OrdPure.swap_next rfl).2, List.drop_eq_getElem_cons (show k < v.length by omega)]
  simp only [List.append_assoc, List.cons_append]
theorem one_at (p v q : List Value) (x : Value) (d : Nat) (hd : d < v.length) : (p ++ x :: v ++ q)[p.length + 1 + d]? = some v[d] := by
  have e : p ++ x :: v ++ q = (p ++ [x]) ++ (v ++ q) := by simp
  rw [e, List.getElem?_append_right (by simp), List.length_append, List.length_singleton, Nat.add_sub_cancel_left, List.getElem?_append_left hd, List.getElem?_eq_getElem hd]
theorem behind_at (p u q : List Value) (x : Value) (d : Nat) (hd : d < u.length) : (p ++ u ++ x :: q)[p.length + d]? = some u[d] := by
  rw [List.append_assoc, List.getElem?_append_right (by simp), Nat.add_sub_cancel_left, List.getElem?_append_left hd, List.getElem?_eq_getElem hd]

set_option maxRecDepth 100000 in
set_option maxHeartbeats 4000000 in
theorem symOne_any (G : Nat) (pc : Value) (f : Value → Value → Int) (S : Value → Prop) (base g cap N : Nat) (w0 : World) (hc : CmpOk G pc f S g w0) (p v q : List Value) (x : Value) (a m b : Nat) (w : World) (hr : StRow S base g cap w0 w N (p ++ x :: v ++ q)) (ha : a = p.length) (hm : m = a + 1) (hb : b = m + v.length) (hv : OrdPure.Rising f v) :
    Calls Try.prog 46 #[.slice (some ⟨g, 0, none⟩) N cap, .int .i64 a, .int .i64 m, .int .i64 b, .func (.func G) #[] #[pc]] w fun e w' => e = .returned (.tuple #[]) ∧ ∃ s, OrdPure.IsSort f (x :: v) s ∧ StRow S base g cap w0 w' N (p ++ s ++ q) := by
  obtain ⟨b1, b2, -, b3⟩ := hr.bound
  have hN : b ≤ N := by have := hr.len; simp only [List.length_append, List.length_cons] at this; omega
  have hxs : ∃ xs, xs = p ++ x :: v ++ q := ⟨_, rfl⟩
  obtain ⟨xs, hxs⟩ := hxs
  rw [← hxs] at hr
  have HXS := Lib.hid hxs
  have HP := Lib.hid hc.pre
  have HEN := hc.enters
  have HC := Lib.hid hc.call
  have HR := Lib.hid hr
  have HV := Lib.hid hv
  have HA := Lib.hid ha
  have HB := Lib.hid hb
  have HM := Lib.hid hm
  have hx : xs[a]? = some x := by rw [hxs, ha]; simp
  have HX := Lib.hid hx
  have hmb : m ≤ b := by omega
  have q1 : ((m : Int) - (a : Int) == 1) = true := beq_iff_eq.2 (by omega)
  have ham : a < m := by omega
  clear hr ha hb hc hxs hv hx hm
  go_enter Try.func46, Try.ntmps46
  go_wp2_with fail
  go_loopw [10, 11] (fun i j wr => ∃ I J : Nat, m ≤ I ∧ I ≤ J ∧ J ≤ b ∧ i = .int .i64 I ∧ j = .int .i64 J ∧ (∀ y, m < I → xs[I - 1]? = some y → f y x < 0) ∧ (∀ y, J < b → xs[J]? = some y → 0 ≤ f y x) ∧ StRow S base g cap w0 wr N xs) (fun i j _ => (intOf j).toNat - (intOf i).toNat)
  case atStart => exact ⟨m, b, Nat.le_refl _, hmb, Nat.le_refl _, rfl, rfl, fun y h => absurd h (Nat.lt_irrefl _), fun y h => absurd h (Nat.lt_irrefl _), HR.out⟩
  case round =>
    obtain ⟨I, J, hI, hIJ, hJ, rfl, rfl, hlo, hhi, hw⟩ := hrel
    have HLO := Lib.hid hlo
    have HHI := Lib.hid hhi
    have HW := Lib.hid hw
    clear hlo hhi hw
    by_cases hlt : I < J
    · obtain ⟨H, hH⟩ : ∃ H : Nat, (I + J) / 2 = H := ⟨_, rfl⟩
      have hHI : I ≤ H := by omega
      have hHJ : H < J := by omega
      have hh := half_of I J (by omega)
      rw [hH] at hh
      obtain ⟨ya, yl, yc, hy, hsy⟩ := HW.out.slice (i := H) (by rw [HW.out.len]; omega)
      have c1 := HW.out.cell _ _ hy
      have hx := HX.out
      have c0 := HW.out.cell _ _ hx
      obtain ⟨hsx, xa, xl, xc, rfl⟩ := HW.out.shape x (List.mem_of_getElem? hx)
      have HCX := Lib.hid (fun W h => HC.out _ _ hsy hsx W h)
      have HY := Lib.hid hy
      generalize hF : f (.slice ya yl yc) (.slice xa xl xc) = F at HCX
      have HF := Lib.hid hF
      have z0 : ∀ z : Later Ext wr.drew, z.val.cell? ⟨g, a, none⟩ = some (.slice xa xl xc) := fun z => ((Ext.trans (Ext.drew wr) z.ext).cell (lt_of_cell c0)).trans c0
      have z1 : ∀ z : Later Ext wr.drew, z.val.cell? ⟨g, H, none⟩ = some (.slice ya yl yc) := fun z => ((Ext.trans (Ext.drew wr) z.ext).cell (lt_of_cell c1)).trans c1
      clear hy hsy hF c0 c1 hx hsx hH
      go_wp2_with fail
      clear hh
      refine wp_region_segs Ext Ext.keeps [([0, 1, 2, 3, 4, 5, 6, 7, 8], some 9), ([10], none)] (by kernel_rfl) (by kernel_rfl) (fun c a a' w e h => (by exact ⟨e ▸ h.1, h.2⟩)) ?_
      simp only [pickSegs, pickOps, List.map_cons, List.map_nil, Option.map_some, Option.map_none, Option.getD_some, List.getElem?_toArray, List.getElem?_cons_zero, List.getElem?_cons_succ]
      refine wpSegs_some fun K' hK' => ?_
      repeat go_big_quiet_step (fail)
      refine wpQuiet_nil ?_
      clear z0 z1
      go_wp2_with fail
      refine (HCX.out _ (OnlyP.trans HW.out.only (OnlyP.of_ext (Ext.drew _)))).mono ?_
      rintro e w3 ⟨rfl, hx3⟩
      have HX3 := Lib.hid hx3
      have HW3 := Lib.hid (HW.out.ext (Ext.trans (Ext.drew wr) hx3))
      clear hx3
      go_wp2_with fail
      refine ⟨HX3.out, hK' _ _ ?_⟩
      clear hK' K'
      refine wpSegs_none ?_
      by_cases hF0 : F < 0
      · have d1 : decide (F < 0) = true := decide_eq_true hF0
        have HN1 := Lib.hid (show ∀ y, m < H + 1 → xs[H + 1 - 1]? = some y → f y (.slice xa xl xc) < 0 from fun y _ hy => by
          rw [Nat.add_sub_cancel, HY.out] at hy
          rw [← Option.some.inj hy, HF.out]
          exact hF0)
        clear hF0
        repeat go_big_quiet_step (fail)
        refine wpQuiet_nil (wpSegs_nil ?_)
        go_wp2_with fail
        go_roundw
        case rel => exact ⟨H + 1, J, by omega, by omega, by omega, by go_num, rfl, HN1.out, HHI.out, HW3.out⟩
        case measure => simp [intOf]; omega
      · have d1 : decide (F < 0) = false := decide_eq_false hF0
        have HN1 := Lib.hid (show ∀ y, H < b → xs[H]? = some y → 0 ≤ f y (.slice xa xl xc) from fun y _ hy => by
          rw [HY.out] at hy
          rw [← Option.some.inj hy, HF.out]
          omega)
        clear hF0
        repeat go_big_quiet_step (fail)
        refine wpQuiet_nil (wpSegs_nil ?_)
        go_wp2_with fail
        go_roundw
        case rel => exact ⟨I, H, by omega, by omega, by omega, rfl, by go_num, HLO.out, HN1.out, HW3.out⟩
        case measure => simp [intOf]; omega
    · have HS := Lib.hid (show OrdPure.IsSort f (x :: v) (v.take (I - m) ++ x :: v.drop (I - m)) from by
        have hxs := HXS.out
        have hb := HB.out
        have hm := HM.out
        have ha := HA.out
        refine OrdPure.one_ahead HP.out (by omega) HV.out (fun h => ?_) (fun h => ?_)
        · have h1 := HHI.out v[I - m] (by omega) (by rw [hxs, show J = p.length + 1 + (I - m) by omega]; exact one_at p v q x _ h)
          have := HP.out.neg x v[I - m]
          omega
        · have h1 := HLO.out (v[I - m - 1]'(by omega)) (by omega) (by rw [hxs, show I - 1 = p.length + 1 + (I - m - 1) by omega]; exact one_at p v q x _ (by omega))
          have := HP.out.neg (v[I - m - 1]'(by omega)) x
          omega)
      have HST := Lib.hid (show OneTo p v q x xs 0 from by rw [HXS.out]; exact OneTo.start p v q x)
      have HD := Lib.hid (show ∀ cur, OneTo p v q x cur (I - m) → cur = p ++ (v.take (I - m) ++ x :: v.drop (I - m)) ++ q from fun cur h => by rw [h.2]; simp)
      have HVL := Lib.hid (show v.length = b - m by have := HB.out; omega)
      have hIb : I ≤ b := by omega
      clear HLO HHI HV HXS
      go_wp2_with fail
      generalize wr = wo at HW ⊢
      go_loopw [13] (fun k wr => ∃ (d : Nat) (cur : List Value), d ≤ I - m ∧ k = .int .i64 ((a + d : Nat) : Int) ∧ OneTo p v q x cur d ∧ StRow S base g cap w0 wr N cur) (fun k _ => b - (intOf k).toNat)
      case atStart => exact ⟨0, _, Nat.zero_le _, by go_num, HST.out, HW.out⟩
      case round =>
        obtain ⟨d, cur, hd, rfl, hto, hw⟩ := hrel
        have HT := Lib.hid hto
        have HW2 := Lib.hid hw
        obtain ⟨D, hD⟩ : ∃ D : Nat, D = a + d := ⟨_, rfl⟩
        rw [← hD]
        clear hto hw
        by_cases hlt2 : d < I - m
        · have hDI : D + 1 < I := by have := HM.out; omega
          have hat := HT.out.at
          rw [← HA.out, ← hD] at hat
          obtain ⟨ya, yl, yc, hy, -⟩ := HW2.out.slice (i := D + 1) (by rw [HW2.out.len]; omega)
          have HTN := Lib.hid (HT.out.next (by have := HVL.out; omega) (by rw [← HA.out, ← hD]; exact hy))
          rw [← HA.out, ← hD] at HTN
          have HWN := Lib.hid (HW2.out.swapped hat hy)
          have c0 := HW2.out.cell _ _ hat
          have c1 := HW2.out.cell _ _ hy
          have f0 := HW2.out.free D
          have f1 := HW2.out.free (D + 1)
          obtain ⟨-, xa, xl, xc, rfl⟩ := HW2.out.shape x (List.mem_of_getElem? hat)
          have HDD := Lib.hid hD
          clear hat hy hD hlt
          go_wp2_with fail
          go_region
          all_goals go_wp2_with fail
          all_goals go_roundw
          case rel => exact ⟨d + 1, _, by omega, by have := HDD.out; go_num, HTN.out, HWN.out.ext (Ext.drew _)⟩
          case measure => have := HDD.out; simp [intOf]; omega
        · have hDI : ¬ D + 1 < I := by have := HM.out; omega
          have HE := Lib.hid (HD.out cur ((show d = I - m by omega) ▸ HT.out))
          clear hD hlt
          go_wp2_with fail
          refine bodyPost_ret (v := .tuple #[]) (results_none rfl _ _ _) rfl ?_
          exact ⟨rfl, _, HS.out, HE.out ▸ HW2.out⟩

set_option maxRecDepth 100000 in
set_option maxHeartbeats 4000000 in
theorem symLast_any (G : Nat) (pc : Value) (f : Value → Value → Int) (S : Value → Prop) (base g cap N : Nat) (w0 : World) (hc : CmpOk G pc f S g w0) (p u q : List Value) (x : Value) (a m b : Nat) (w : World) (hr : StRow S base g cap w0 w N (p ++ u ++ x :: q)) (ha : a = p.length) (hm : m = a + u.length) (hb : b = m + 1) (hu : 1 < u.length) (hv : OrdPure.Rising f u) :
    Calls Try.prog 46 #[.slice (some ⟨g, 0, none⟩) N cap, .int .i64 a, .int .i64 m, .int .i64 b, .func (.func G) #[] #[pc]] w fun e w' => e = .returned (.tuple #[]) ∧ ∃ s, OrdPure.IsSort f (u ++ [x]) s ∧ StRow S base g cap w0 w' N (p ++ s ++ q) := by
  obtain ⟨b1, b2, -, b3⟩ := hr.bound
  have hN : b ≤ N := by have := hr.len; simp only [List.length_append, List.length_cons] at this; omega
  have hxs : ∃ xs, xs = p ++ u ++ x :: q := ⟨_, rfl⟩
  obtain ⟨xs, hxs⟩ := hxs
  rw [← hxs] at hr
  have HXS := Lib.hid hxs
  have HP := Lib.hid hc.pre
  have HEN := hc.enters
  have HC := Lib.hid hc.call
  have HR := Lib.hid hr
  have HV := Lib.hid hv
  have HA := Lib.hid ha
  have HB := Lib.hid hb
  have HM := Lib.hid hm
  have hx : xs[m]? = some x := by rw [hxs, hm, ha, ← List.length_append]; simp
  have HX := Lib.hid hx
  have hmb : m < b := by omega
  have ham2 : a + 1 < m := by omega
  have q1 : ((m : Int) - (a : Int) == 1) = false := beq_eq_false_iff_ne.2 (by omega)
  have q2 : ((b : Int) - (m : Int) == 1) = true := beq_iff_eq.2 (by omega)
  have HU := Lib.hid hu
  have ham : a < m := by omega
  clear hr ha hb hc hxs hv hx hm hu
  go_enter Try.func46, Try.ntmps46
  go_wp2_with fail
  go_loopw [14, 15] (fun i j wr => ∃ I J : Nat, a ≤ I ∧ I ≤ J ∧ J ≤ m ∧ i = .int .i64 I ∧ j = .int .i64 J ∧ (∀ y, a < I → xs[I - 1]? = some y → 0 ≤ f x y) ∧ (∀ y, J < m → xs[J]? = some y → f x y < 0) ∧ StRow S base g cap w0 wr N xs) (fun i j _ => (intOf j).toNat - (intOf i).toNat)
  case atStart => exact ⟨a, m, Nat.le_refl _, Nat.le_of_lt ham, Nat.le_refl _, rfl, rfl, fun y h => absurd h (Nat.lt_irrefl _), fun y h => absurd h (Nat.lt_irrefl _), HR.out⟩
  case round =>
    obtain ⟨I, J, hI, hIJ, hJ, rfl, rfl, hlo, hhi, hw⟩ := hrel
    have HLO := Lib.hid hlo
    have HHI := Lib.hid hhi
    have HW := Lib.hid hw
    clear hlo hhi hw
    by_cases hlt : I < J
    · obtain ⟨H, hH⟩ : ∃ H : Nat, (I + J) / 2 = H := ⟨_, rfl⟩
      have hHI : I ≤ H := by omega
      have hHJ : H < J := by omega
      have hh := half_of I J (by omega)
      rw [hH] at hh
      obtain ⟨ya, yl, yc, hy, hsy⟩ := HW.out.slice (i := H) (by rw [HW.out.len]; omega)
      have c1 := HW.out.cell _ _ hy
      have hx := HX.out
      have c0 := HW.out.cell _ _ hx
      obtain ⟨hsx, xa, xl, xc, rfl⟩ := HW.out.shape x (List.mem_of_getElem? hx)
      have HCX := Lib.hid (fun W h => HC.out _ _ hsx hsy W h)
      have HY := Lib.hid hy
      generalize hF : f (.slice xa xl xc) (.slice ya yl yc) = F at HCX
      have HF := Lib.hid hF
      have z0 : ∀ z : Later Ext wr.drew, z.val.cell? ⟨g, m, none⟩ = some (.slice xa xl xc) := fun z => ((Ext.trans (Ext.drew wr) z.ext).cell (lt_of_cell c0)).trans c0
      have z1 : ∀ z : Later Ext wr.drew, z.val.cell? ⟨g, H, none⟩ = some (.slice ya yl yc) := fun z => ((Ext.trans (Ext.drew wr) z.ext).cell (lt_of_cell c1)).trans c1
      clear hy hsy hF c0 c1 hx hsx hH
      go_wp2_with fail
      clear hh
      refine wp_region_segs Ext Ext.keeps [([0, 1, 2, 3, 4, 5, 6, 7, 8], some 9), ([10, 11], none)] (by kernel_rfl) (by kernel_rfl) (fun c a a' w e h => (by exact ⟨e ▸ h.1, h.2⟩)) ?_
      simp only [pickSegs, pickOps, List.map_cons, List.map_nil, Option.map_some, Option.map_none, Option.getD_some, List.getElem?_toArray, List.getElem?_cons_zero, List.getElem?_cons_succ]
      refine wpSegs_some fun K' hK' => ?_
      repeat go_big_quiet_step (fail)
      refine wpQuiet_nil ?_
      clear z0 z1
      go_wp2_with fail
      refine (HCX.out _ (OnlyP.trans HW.out.only (OnlyP.of_ext (Ext.drew _)))).mono ?_
      rintro e w3 ⟨rfl, hx3⟩
      have HX3 := Lib.hid hx3
      have HW3 := Lib.hid (HW.out.ext (Ext.trans (Ext.drew wr) hx3))
      clear hx3
      go_wp2_with fail
      refine ⟨HX3.out, hK' _ _ ?_⟩
      clear hK' K'
      refine wpSegs_none ?_
      by_cases hF0 : F < 0
      · have d1 : decide (F < 0) = true := decide_eq_true hF0
        have HN1 := Lib.hid (show ∀ y, H < m → xs[H]? = some y → f (.slice xa xl xc) y < 0 from fun y _ hy => by
          rw [HY.out] at hy
          rw [← Option.some.inj hy, HF.out]
          exact hF0)
        clear hF0
        repeat go_big_quiet_step (fail)
        refine wpQuiet_nil (wpSegs_nil ?_)
        go_wp2_with fail
        go_roundw
        case rel => exact ⟨I, H, by omega, by omega, by omega, rfl, by go_num, HLO.out, HN1.out, HW3.out⟩
        case measure => simp [intOf]; omega
      · have d1 : decide (F < 0) = false := decide_eq_false hF0
        have HN1 := Lib.hid (show ∀ y, a < H + 1 → xs[H + 1 - 1]? = some y → 0 ≤ f (.slice xa xl xc) y from fun y _ hy => by
          rw [Nat.add_sub_cancel, HY.out] at hy
          rw [← Option.some.inj hy, HF.out]
          omega)
        clear hF0
        repeat go_big_quiet_step (fail)
        refine wpQuiet_nil (wpSegs_nil ?_)
        go_wp2_with fail
        go_roundw
        case rel => exact ⟨H + 1, J, by omega, by omega, by omega, by go_num, rfl, HN1.out, HHI.out, HW3.out⟩
        case measure => simp [intOf]; omega
    · have HS := Lib.hid (show OrdPure.IsSort f (u ++ [x]) (u.take (I - a) ++ x :: u.drop (I - a)) from by
        have hxs := HXS.out
        have hb := HB.out
        have hm := HM.out
        have ha := HA.out
        refine OrdPure.one_behind HP.out (by omega) HV.out (fun h => ?_) (fun h => ?_)
        · have h1 := HLO.out (u[I - a - 1]'(by omega)) (by omega) (by rw [hxs, show I - 1 = p.length + (I - a - 1) by omega]; exact behind_at p u q x _ (by omega))
          have := HP.out.neg x (u[I - a - 1]'(by omega))
          omega
        · have h1 := HHI.out u[I - a] (by omega) (by rw [hxs, show J = p.length + (I - a) by omega]; exact behind_at p u q x _ h)
          have := HP.out.neg x u[I - a]
          omega)
      have HST := Lib.hid (show OneTo p u q x xs (m - a) from by
        refine ⟨by have := HM.out; omega, ?_⟩
        rw [HXS.out, show m - a = u.length by have := HM.out; omega, List.take_length, List.drop_length, List.nil_append])
      have HD := Lib.hid (show ∀ cur, OneTo p u q x cur (I - a) → cur = p ++ (u.take (I - a) ++ x :: u.drop (I - a)) ++ q from fun cur h => by rw [h.2]; simp)
      have HVL := Lib.hid (show u.length = m - a by have := HM.out; omega)
      have hIb : I ≤ m := by omega
      clear HLO HHI HV HXS
      go_wp2_with fail
      generalize wr = wo at HW ⊢
      go_loopw [17] (fun k wr => ∃ (d : Nat) (cur : List Value), I - a ≤ d ∧ d ≤ m - a ∧ k = .int .i64 ((a + d : Nat) : Int) ∧ OneTo p u q x cur d ∧ StRow S base g cap w0 wr N cur) (fun k _ => (intOf k).toNat)
      case atStart => exact ⟨m - a, _, by omega, Nat.le_refl _, by go_num, HST.out, HW.out⟩
      case round =>
        obtain ⟨d, cur, hd, hd2, rfl, hto, hw⟩ := hrel
        have HT := Lib.hid hto
        have HW2 := Lib.hid hw
        obtain ⟨D, hD⟩ : ∃ D : Nat, D = a + d := ⟨_, rfl⟩
        rw [← hD]
        clear hto hw
        by_cases hlt2 : I - a < d
        · have hDI : I < D := by omega
          have hDm : D ≤ m := by omega
          have hat := HT.out.at
          rw [← HA.out, ← hD] at hat
          obtain ⟨ya, yl, yc, hy, -⟩ := HW2.out.slice (i := D - 1) (by rw [HW2.out.len]; omega)
          have HTN := Lib.hid (show OneTo p u q x (swapL cur D (D - 1)) (d - 1) from by
            have h := HT.out
            rw [show d = d - 1 + 1 by omega] at h
            have h2 := h.back (y := .slice ya yl yc) (by rw [← HA.out, show a + (d - 1) = D - 1 by omega]; exact hy)
            rw [← HA.out, show a + (d - 1) + 1 = D by omega, show a + (d - 1) = D - 1 by omega] at h2
            exact h2)
          have HWN := Lib.hid (HW2.out.swapped hat hy)
          have c0 := HW2.out.cell _ _ hat
          have c1 := HW2.out.cell _ _ hy
          have f0 := HW2.out.free D
          have f1 := HW2.out.free (D - 1)
          obtain ⟨-, xa, xl, xc, rfl⟩ := HW2.out.shape x (List.mem_of_getElem? hat)
          have HDD := Lib.hid hD
          clear hat hy hD hlt
          go_wp2_with fail
          go_region
          all_goals go_wp2_with fail
          all_goals go_roundw
          case rel => exact ⟨d - 1, _, by omega, by omega, by have := HDD.out; go_num, HTN.out, HWN.out.ext (Ext.drew _)⟩
          case measure => have := HDD.out; simp [intOf]; omega
        · have hDI : ¬ I < D := by omega
          have HE := Lib.hid (HD.out cur ((show d = I - a by omega) ▸ HT.out))
          clear hD hlt
          go_wp2_with fail
          refine bodyPost_ret (v := .tuple #[]) (results_none rfl _ _ _) rfl ?_
          exact ⟨rfl, _, HS.out, HE.out ▸ HW2.out⟩

end Go.Proofs.Ytjpdpgjalbjmgaa

/-
  Sorting rows in place, as the library does it: two sorted blocks of any length, side by side, become one.
-/
namespace Go.Proofs.Ytjpdpgjalbjmgaa
open Go.RowKit Go.BigFrame

/-- Where the blocks are parted: so far from the start, so far from the end, as the search has found. -/
structure SymEnd (a m b M s e : Nat) : Prop where
  sa : a ≤ s
  sm : s ≤ m
  me : m ≤ e
  eb : e ≤ b
  sM : s ≤ M
  Me : M ≤ e

theorem SymEnd.of {a m b M s e lo hi : Nat} (_ham : a < m) (_hmb : m < b) (hM : M = (a + b) / 2) (he : e + s = M + m) (hlo : lo = if M < m then M + m - b else a) (hhi : hi = if M < m then M else m) (h1 : lo ≤ s) (h2 : s ≤ hi) : SymEnd a m b M s e := by
  by_cases h : M < m
  · rw [if_pos h] at hlo hhi
    exact ⟨by omega, by omega, by omega, by omega, by omega, by omega⟩
  · rw [if_neg h] at hlo hhi
    exact ⟨by omega, by omega, by omega, by omega, by omega, by omega⟩

theorem sym_at {p u v q : List Value} {a m i : Nat} (ha : a = p.length) (hm : m = a + u.length) :
    (∀ (_ : i < u.length), (p ++ (u ++ v) ++ q)[a + i]? = u[i]?) ∧ (∀ (_ : i < v.length), (p ++ (u ++ v) ++ q)[m + i]? = v[i]?) := by
  subst ha hm
  constructor
  · intro h
    rw [List.append_assoc, List.getElem?_append_right (by omega), Nat.add_sub_cancel_left, List.append_assoc, List.getElem?_append_left h]
  · intro h
    rw [List.append_assoc, List.getElem?_append_right (by omega), List.append_assoc, List.getElem?_append_right (by omega), List.getElem?_append_left (by omega)]
    congr 1; omega

theorem SymEnd.sort {f : Value → Value → Int} (hf : OrdPure.Pre f) {p u v q : List Value} {a m b M s e lo hi : Nat} (ha : a = p.length) (hm : m = a + u.length) (hb : b = m + v.length) (hM : M = (a + b) / 2) (he : e + s = M + m)
    (hlo : lo = if M < m then M + m - b else a) (hhi : hi = if M < m then M else m) (hl : lo ≤ s) (hh : s ≤ hi) (hu : 0 < u.length) (hv : 0 < v.length) (ru : OrdPure.Rising f u) (rv : OrdPure.Rising f v)
    (h1 : ∀ x y, lo < s → (p ++ (u ++ v) ++ q)[s - 1]? = some x → (p ++ (u ++ v) ++ q)[e]? = some y → 0 ≤ f y x)
    (h2 : ∀ x y, s < hi → (p ++ (u ++ v) ++ q)[s]? = some x → (p ++ (u ++ v) ++ q)[e - 1]? = some y → f y x < 0)
    {c d : List Value} (hc : OrdPure.IsSort f (u.take (s - a) ++ v.take (e - m)) c) (hd : OrdPure.IsSort f (u.drop (s - a) ++ v.drop (e - m)) d) : OrdPure.IsSort f (u ++ v) (c ++ d) := by
  have hE := SymEnd.of (s := s) (e := e) (by omega) (by omega) hM he hlo hhi hl hh
  obtain ⟨sa, sm, me, eb, sM, Me⟩ := hE
  refine OrdPure.split_sort hf (by omega) (by omega) ru rv (fun g1 g2 => ?_) (fun g1 g2 => ?_) hc hd
  · have k1 := (sym_at (q := q) (v := v) ha hm (i := s - a - 1)).1 (by omega)
    have k2 := (sym_at (q := q) (v := v) ha hm (i := e - m)).2 g2
    rw [show a + (s - a - 1) = s - 1 by omega, List.getElem?_eq_getElem (show s - a - 1 < u.length by omega)] at k1
    rw [show m + (e - m) = e by omega, List.getElem?_eq_getElem g2] at k2
    have e1 : lo < s := by
      by_cases h : M < m
      · rw [if_pos h] at hlo
        omega
      · rw [if_neg h] at hlo
        omega
    have := h1 _ _ e1 k1 k2
    have := hf.neg (v[e - m]) (u[s - a - 1]'(by omega))
    omega
  · have k1 := (sym_at (q := q) (v := v) ha hm (i := s - a)).1 g1
    have k2 := (sym_at (q := q) (v := v) ha hm (i := e - m - 1)).2 (by omega)
    rw [show a + (s - a) = s by omega, List.getElem?_eq_getElem g1] at k1
    rw [show m + (e - m - 1) = e - 1 by omega, List.getElem?_eq_getElem (show e - m - 1 < v.length by omega)] at k2
    have e1 : s < hi := by
      by_cases h : M < m
      · rw [if_pos h] at hhi
        omega
      · rw [if_neg h] at hhi
        omega
    have := h2 _ _ e1 k1 k2
    have := hf.neg (v[e - m - 1]'(by omega)) (u[s - a])
    omega

set_option maxRecDepth 100000 in
set_option maxHeartbeats 8000000 in
theorem symMany_any (G : Nat) (pc : Value) (f : Value → Value → Int) (S : Value → Prop) (base g cap N : Nat) (w0 : World) (hc : CmpOk G pc f S g w0) (L : Nat)
    (ih : ∀ (p u v q : List Value) (a m b : Nat) (w : World), u.length + v.length < L → StRow S base g cap w0 w N (p ++ (u ++ v) ++ q) → a = p.length → m = a + u.length → b = m + v.length → 0 < u.length → 0 < v.length → OrdPure.Rising f u → OrdPure.Rising f v →
      Calls Try.prog 46 #[.slice (some ⟨g, 0, none⟩) N cap, .int .i64 a, .int .i64 m, .int .i64 b, .func (.func G) #[] #[pc]] w fun e w' => e = .returned (.tuple #[]) ∧ ∃ s, OrdPure.IsSort f (u ++ v) s ∧ StRow S base g cap w0 w' N (p ++ s ++ q))
    (p u v q : List Value) (a m b : Nat) (w : World) (hL : u.length + v.length = L) (hr : StRow S base g cap w0 w N (p ++ (u ++ v) ++ q)) (ha : a = p.length) (hm : m = a + u.length) (hb : b = m + v.length) (hu : 1 < u.length) (hv : 1 < v.length) (ru : OrdPure.Rising f u) (rv : OrdPure.Rising f v) :
    Calls Try.prog 46 #[.slice (some ⟨g, 0, none⟩) N cap, .int .i64 a, .int .i64 m, .int .i64 b, .func (.func G) #[] #[pc]] w fun e w' => e = .returned (.tuple #[]) ∧ ∃ s, OrdPure.IsSort f (u ++ v) s ∧ StRow S base g cap w0 w' N (p ++ s ++ q) := by
  obtain ⟨b1, b2, -, b3⟩ := hr.bound
  have hN : b ≤ N := by have := hr.len; simp only [List.length_append] at this; omega
  obtain ⟨M, hM⟩ : ∃ M : Nat, M = (a + b) / 2 := ⟨_, rfl⟩
  obtain ⟨lo, hlo⟩ : ∃ lo, lo = if M < m then M + m - b else a := ⟨_, rfl⟩
  obtain ⟨hi, hhi⟩ : ∃ hi, hi = if M < m then M else m := ⟨_, rfl⟩
  have HE := Lib.hid (fun s e he h1 h2 => SymEnd.of (s := s) (e := e) (show a < m by omega) (show m < b by omega) hM he hlo hhi h1 h2)
  have HSRT := Lib.hid (fun s e he h1 h2 g1 g2 c d hc' hd' => SymEnd.sort (s := s) (e := e) (q := q) hc.pre ha hm hb hM he hlo hhi h1 h2 (by omega) (by omega) ru rv g1 g2 (c := c) (d := d) hc' hd')
  have hh := half_of a b (by omega)
  rw [← hM] at hh
  obtain ⟨nn, hnn⟩ : ∃ nn : Nat, nn = M + m := ⟨_, rfl⟩
  have e19 : (M : Int) + (m : Int) = (nn : Int) := by omega
  have e22 : (nn : Int) - 1 = ((nn - 1 : Nat) : Int) := by omega
  have HNN := Lib.hid hnn
  have HLO := Lib.hid hlo
  have HHI := Lib.hid hhi
  have HMM := Lib.hid hM
  have HIH := Lib.hid ih
  have HEN := hc.enters
  have HC := Lib.hid hc.call
  have HP := Lib.hid hc.pre
  have HR := Lib.hid hr
  have HRU := Lib.hid ru
  have HRV := Lib.hid rv
  have HA := Lib.hid ha
  have HM := Lib.hid hm
  have HB := Lib.hid hb
  have HL := Lib.hid hL
  have ham : a + 1 < m := by omega
  have hmb : m + 1 < b := by omega
  have haM : a < M := by omega
  have hMb : M < b := by omega
  have q1 : ((m : Int) - (a : Int) == 1) = false := beq_eq_false_iff_ne.2 (by omega)
  have q2 : ((b : Int) - (m : Int) == 1) = false := beq_eq_false_iff_ne.2 (by omega)
  clear hr ha hb hc hm hM hlo hhi hnn ih hu hv ru rv hL
  go_enter Try.func46, Try.ntmps46
  go_upto_if 140 with fail
  go_cut [20, 21] from 25 (fun s r W => s = .int .i64 (lo : Int) ∧ r = .int .i64 (hi : Int) ∧ W = w)
  case first =>
    by_cases h : M < m
    · have k1 : (nn : Int) - (b : Int) = (lo : Int) := by have := HLO.out; have := HNN.out; rw [if_pos h] at *; omega
      have k2 : M = hi := by have := HHI.out; rw [if_pos h] at *; omega
      go_wp2_with fail
      go_meet
      exact ⟨rfl, by rw [k2], rfl⟩
    · have k1 : a = lo := by have := HLO.out; rw [if_neg h] at *; omega
      have k2 : m = hi := by have := HHI.out; rw [if_neg h] at *; omega
      go_wp2_with fail
      go_meet
      exact ⟨by rw [k1], by rw [k2], rfl⟩
  case rest =>
  obtain ⟨rfl, rfl, rfl⟩ := hcut
  have hlh : lo ≤ hi := by
    have h1 := HLO.out
    have h2 := HHI.out
    have h3 := HMM.out
    by_cases h : M < m
    · rw [if_pos h] at h1 h2
      omega
    · rw [if_neg h] at h1 h2
      omega
  have hib : hi ≤ M ∨ hi ≤ m := by
    have h2 := HHI.out
    by_cases h : M < m
    · rw [if_pos h] at h2
      omega
    · rw [if_neg h] at h2
      omega
  go_wp2_with fail
  go_loopw [20, 21, 23] (fun i j _ wr => ∃ I J : Nat, lo ≤ I ∧ I ≤ J ∧ J ≤ hi ∧ i = .int .i64 I ∧ j = .int .i64 J ∧ (∀ x y, lo < I → (p ++ (u ++ v) ++ q)[I - 1]? = some x → (p ++ (u ++ v) ++ q)[nn - I]? = some y → 0 ≤ f y x) ∧ (∀ x y, J < hi → (p ++ (u ++ v) ++ q)[J]? = some x → (p ++ (u ++ v) ++ q)[nn - J - 1]? = some y → f y x < 0) ∧ StRow S base g cap w0 wr N (p ++ (u ++ v) ++ q)) (fun i j _ _ => (intOf j).toNat - (intOf i).toNat)
  case atStart => exact ⟨lo, hi, Nat.le_refl _, hlh, Nat.le_refl _, rfl, rfl, fun _ _ h => absurd h (Nat.lt_irrefl _), fun _ _ h => absurd h (Nat.lt_irrefl _), HR.out⟩
  case round =>
    obtain ⟨I, J, hI, hIJ, hJ, rfl, rfl, hlo, hhi, hw⟩ := hrel
    have H1 := Lib.hid hlo
    have H2 := Lib.hid hhi
    have HW := Lib.hid hw
    clear hlo hhi hw
    have hJm : J ≤ M ∨ J ≤ m := by omega
    have hJb : J ≤ b := by omega
    have hInn : I ≤ nn := by have := HNN.out; omega
    by_cases hlt : I < J
    · obtain ⟨H, hH⟩ : ∃ H : Nat, (I + J) / 2 = H := ⟨_, rfl⟩
      have hHI : I ≤ H := by omega
      have hHJ : H < J := by omega
      have hhh := half_of I J (by omega)
      rw [hH] at hhh
      have hnH : H + 1 ≤ nn := by have := HNN.out; omega
      have hQb : nn - 1 - H < N := by
        have hE := HE.out H (nn - H) (by have := HNN.out; omega) (by omega) (by omega)
        have := hE.eb
        omega
      have eQ : ((nn - 1 : Nat) : Int) - (H : Int) = ((nn - 1 - H : Nat) : Int) := by omega
      obtain ⟨ya, yl, yc, hy, hsy⟩ := HW.out.slice (i := nn - 1 - H) (by rw [HW.out.len]; exact hQb)
      obtain ⟨xa, xl, xc, hx, hsx⟩ := HW.out.slice (i := H) (by rw [HW.out.len]; omega)
      have c1 := HW.out.cell _ _ hy
      have c0 := HW.out.cell _ _ hx
      have HCX := Lib.hid (fun W h => HC.out _ _ hsy hsx W h)
      have HX := Lib.hid hx
      have HY := Lib.hid hy
      generalize hF : f (.slice ya yl yc) (.slice xa xl xc) = F at HCX
      have HF := Lib.hid hF
      have z0 : ∀ z : Later Ext wr.drew, z.val.cell? ⟨g, H, none⟩ = some (.slice xa xl xc) := fun z => ((Ext.trans (Ext.drew wr) z.ext).cell (lt_of_cell c0)).trans c0
      have z1 : ∀ z : Later Ext wr.drew, z.val.cell? ⟨g, nn - 1 - H, none⟩ = some (.slice ya yl yc) := fun z => ((Ext.trans (Ext.drew wr) z.ext).cell (lt_of_cell c1)).trans c1
      clear hy hsy hF c0 c1 hx hsx hH
      go_wp2_with fail
      clear hhh
      refine wp_region_segs Ext Ext.keeps [([0, 1, 2, 3, 4, 5, 6, 7, 8, 9, 10], some 11), ([12, 13], none)] (by kernel_rfl) (by kernel_rfl) (fun c a a' w e h => (by exact ⟨e ▸ h.1, h.2⟩)) ?_
      simp only [pickSegs, pickOps, List.map_cons, List.map_nil, Option.map_some, Option.map_none, Option.getD_some, List.getElem?_toArray, List.getElem?_cons_zero, List.getElem?_cons_succ]
      refine wpSegs_some fun K' hK' => ?_
      repeat go_big_quiet_step (fail)
      refine wpQuiet_nil ?_
      clear z0 z1
      go_wp2_with fail
      refine (HCX.out _ (OnlyP.trans HW.out.only (OnlyP.of_ext (Ext.drew _)))).mono ?_
      rintro e w3 ⟨rfl, hx3⟩
      have HX3 := Lib.hid hx3
      have HW3 := Lib.hid (HW.out.ext (Ext.trans (Ext.drew wr) hx3))
      clear hx3
      go_wp2_with fail
      refine ⟨HX3.out, hK' _ _ ?_⟩
      clear hK' K'
      refine wpSegs_none ?_
      by_cases hF0 : F < 0
      · have d1 : decide (F < 0) = true := decide_eq_true hF0
        have HN1 := Lib.hid (show ∀ x y, H < hi → (p ++ (u ++ v) ++ q)[H]? = some x → (p ++ (u ++ v) ++ q)[nn - H - 1]? = some y → f y x < 0 from fun x y _ hx hy => by
          rw [HX.out] at hx
          rw [show nn - H - 1 = nn - 1 - H by omega, HY.out] at hy
          rw [← Option.some.inj hy, ← Option.some.inj hx, HF.out]
          exact hF0)
        clear hF0
        repeat go_big_quiet_step (fail)
        refine wpQuiet_nil (wpSegs_nil ?_)
        go_wp2_with fail
        go_roundw
        case rel => exact ⟨I, H, by omega, by omega, by omega, rfl, by go_num, H1.out, HN1.out, HW3.out⟩
        case measure => simp [intOf]; omega
      · have d1 : decide (F < 0) = false := decide_eq_false hF0
        have HN1 := Lib.hid (show ∀ x y, lo < H + 1 → (p ++ (u ++ v) ++ q)[H + 1 - 1]? = some x → (p ++ (u ++ v) ++ q)[nn - (H + 1)]? = some y → 0 ≤ f y x from fun x y _ hx hy => by
          rw [Nat.add_sub_cancel, HX.out] at hx
          rw [show nn - (H + 1) = nn - 1 - H by omega, HY.out] at hy
          rw [← Option.some.inj hy, ← Option.some.inj hx, HF.out]
          omega)
        clear hF0
        repeat go_big_quiet_step (fail)
        refine wpQuiet_nil (wpSegs_nil ?_)
        go_wp2_with fail
        go_roundw
        case rel => exact ⟨H + 1, J, by omega, by omega, by omega, by go_num, rfl, HN1.out, H2.out, HW3.out⟩
        case measure => simp [intOf]; omega
    · have hIJe : I = J := by omega
      subst hIJe
      have HEE := Lib.hid (HE.out I (nn - I) (by have := HNN.out; omega) hI hJ)
      have HSS := Lib.hid (fun c d hc hd => HSRT.out I (nn - I) (by have := HNN.out; omega) hI hJ (fun x y h1 h2 h3 => H1.out x y h1 h2 h3) (fun x y h1 h2 h3 => H2.out x y h1 h2 h3) c d hc hd)
      obtain ⟨E, hE⟩ : ∃ E : Nat, E = nn - I := ⟨_, rfl⟩
      rw [← hE] at HEE HSS
      have e24 : (nn : Int) - (I : Int) = (E : Int) := by omega
      have k1 : a ≤ I := HEE.out.sa
      have k2 : I ≤ m := HEE.out.sm
      have k3 : m ≤ E := HEE.out.me
      have k4 : E ≤ b := HEE.out.eb
      have k5 : I ≤ M := HEE.out.sM
      have k6 : M ≤ E := HEE.out.Me
      clear H1 H2 hE HE HSRT hJm hJ hI hIJ hlh hib hlt
      have HIE := Lib.hid (show E + I = M + m by have := HNN.out; omega)
      have hul : u.length = m - a := by have := HM.out; omega
      have hvl : v.length = b - m := by have := HB.out; omega
      obtain ⟨U1, hU1⟩ : ∃ U1, u.take (I - a) = U1 := ⟨_, rfl⟩
      obtain ⟨U2, hU2⟩ : ∃ U2, u.drop (I - a) = U2 := ⟨_, rfl⟩
      obtain ⟨V1, hV1⟩ : ∃ V1, v.take (E - m) = V1 := ⟨_, rfl⟩
      obtain ⟨V2, hV2⟩ : ∃ V2, v.drop (E - m) = V2 := ⟨_, rfl⟩
      have HL1 := Lib.hid (show U1.length = I - a by rw [← hU1, List.length_take]; omega)
      have HL2 := Lib.hid (show U2.length = m - I by rw [← hU2, List.length_drop]; omega)
      have HL3 := Lib.hid (show V1.length = E - m by rw [← hV1, List.length_take]; omega)
      have HL4 := Lib.hid (show V2.length = b - E by rw [← hV2, List.length_drop]; omega)
      have HRU1 := Lib.hid (hU1 ▸ HRU.out.take (I - a))
      have HRU2 := Lib.hid (hU2 ▸ HRU.out.drop (I - a))
      have HRV1 := Lib.hid (hV1 ▸ HRV.out.take (E - m))
      have HRV2 := Lib.hid (hV2 ▸ HRV.out.drop (E - m))
      have HUU := Lib.hid (show u = U1 ++ U2 by rw [← hU1, ← hU2, List.take_append_drop])
      have HVV := Lib.hid (show v = V1 ++ V2 by rw [← hV1, ← hV2, List.take_append_drop])
      rw [hU1, hU2, hV1, hV2] at HSS
      have HLL := Lib.hid (show u.length + v.length = L from HL.out)
      clear hU1 hU2 hV1 hV2 hul hvl
      go_upto_region 39 with fail
      go_cut [185] from 178 (fun s W => s = .bool (decide (I < m ∧ m < E)) ∧ W = wr)
      case first =>
        by_cases g1 : I < m
        · by_cases g2 : m < E
          · go_wp2_with fail
            go_meet
            exact ⟨by rw [decide_eq_true ⟨g1, g2⟩], rfl⟩
          · go_wp2_with fail
            go_meet
            exact ⟨by rw [decide_eq_false (fun h => g2 h.2)], rfl⟩
        · go_wp2_with fail
          go_meet
          exact ⟨by rw [decide_eq_false (fun h => g1 h.1)], rfl⟩
      case rest =>
      obtain ⟨rfl, rfl⟩ := hcut
      obtain ⟨c1, hc1⟩ : ∃ c1, decide (I < m ∧ m < E) = c1 := ⟨_, rfl⟩
      rw [hc1]
      have HC1 := Lib.hid hc1
      clear hc1
      go_upto_if 185 with fail
      go_cut [] from 186 (fun W => StRow S base g cap w0 W N (p ++ (U1 ++ V1) ++ ((U2 ++ V2) ++ q)))
      case first =>
        cases c1 with
        | true =>
          have hg := of_decide_eq_true HC1.out
          have HROT := Lib.hid (rotate_any S base g cap N w0 (.func (.func G) #[] #[pc]) (p ++ U1) U2 V1 (V2 ++ q) I m E wc (by
            have h := HW.out
            rw [HUU.out, HVV.out] at h
            simpa using h) (by rw [List.length_append, HL1.out, ← HA.out]; omega) (by rw [HL2.out]; omega) (by rw [HL3.out]; omega) (by rw [HL2.out]; omega) (by rw [HL3.out]; omega))
          clear hg
          go_wp2_with fail
          refine HROT.out.mono ?_
          rintro e w1 ⟨rfl, hw⟩
          have HW1 := Lib.hid hw
          clear hw
          go_wp2_with fail
          go_meet
          simpa using HW1.out
        | false =>
          have hg := of_decide_eq_false HC1.out
          have hcon : StRow S base g cap w0 wc N (p ++ (U1 ++ V1) ++ ((U2 ++ V2) ++ q)) := by
            have h := HW.out
            rw [HUU.out, HVV.out] at h
            have h2 : U2 = [] ∨ V1 = [] := by
              by_cases g1 : I < m
              · right
                exact List.eq_nil_of_length_eq_zero (by rw [HL3.out]; omega)
              · left
                exact List.eq_nil_of_length_eq_zero (by rw [HL2.out]; omega)
            rcases h2 with rfl | rfl <;> simpa using h
          have HCON := Lib.hid hcon
          clear hg hcon
          go_wp2_with fail
          go_meet
          exact HCON.out
      case rest =>
      have HW1 := Lib.hid hcut
      clear hcut
      go_upto_region 41 with fail
      generalize wc = wr1 at HW1 ⊢
      go_cut [199] from 192 (fun s W => s = .bool (decide (a < I ∧ I < M)) ∧ W = wr1)
      case first =>
        by_cases g1 : a < I
        · by_cases g2 : I < M
          · go_wp2_with fail
            go_meet
            exact ⟨by rw [decide_eq_true ⟨g1, g2⟩], rfl⟩
          · go_wp2_with fail
            go_meet
            exact ⟨by rw [decide_eq_false (fun h => g2 h.2)], rfl⟩
        · go_wp2_with fail
          go_meet
          exact ⟨by rw [decide_eq_false (fun h => g1 h.1)], rfl⟩
      case rest =>
      obtain ⟨rfl, rfl⟩ := hcut
      obtain ⟨c2, hc2⟩ : ∃ c2, decide (a < I ∧ I < M) = c2 := ⟨_, rfl⟩
      rw [hc2]
      have HC2 := Lib.hid hc2
      clear hc2
      go_upto_if 199 with fail
      go_cut [] from 200 (fun W => ∃ c, OrdPure.IsSort f (U1 ++ V1) c ∧ StRow S base g cap w0 W N (p ++ c ++ ((U2 ++ V2) ++ q)))
      case first =>
        cases c2 with
        | true =>
          have hg := of_decide_eq_true HC2.out
          have HREC := Lib.hid (HIH.out p U1 V1 ((U2 ++ V2) ++ q) a I M wc (by rw [HL1.out, HL3.out]; have := HLL.out; have := HUU.out ▸ HM.out; have := HB.out; have := HM.out; omega) HW1.out HA.out (by rw [HL1.out]; omega) (by rw [HL3.out]; have := HIE.out; omega) (by rw [HL1.out]; omega) (by rw [HL3.out]; have := HIE.out; omega) HRU1.out HRV1.out)
          clear hg
          go_wp2_with fail
          refine HREC.out.mono ?_
          rintro e w1 ⟨rfl, c, hcs, hw⟩
          have HW2 := Lib.hid hw
          have HCS := Lib.hid hcs
          clear hw hcs
          go_wp2_with fail
          go_meet
          exact ⟨c, HCS.out, HW2.out⟩
        | false =>
          have hg := of_decide_eq_false HC2.out
          have hsr : OrdPure.IsSort f (U1 ++ V1) (U1 ++ V1) := by
            have h2 : U1 = [] ∨ V1 = [] := by
              by_cases g1 : a < I
              · right
                exact List.eq_nil_of_length_eq_zero (by rw [HL3.out]; have := HIE.out; omega)
              · left
                exact List.eq_nil_of_length_eq_zero (by rw [HL1.out]; omega)
            rcases h2 with rfl | rfl
            · exact OrdPure.IsSort.self HRV1.out
            · rw [List.append_nil]
              exact OrdPure.IsSort.self HRU1.out
          have HSR := Lib.hid hsr
          clear hg hsr
          go_wp2_with fail
          go_meet
          exact ⟨_, HSR.out, HW1.out⟩
      case rest =>
      obtain ⟨c, hcs, hw⟩ := hcut
      have HCS := Lib.hid hcs
      have HW2 := Lib.hid hw
      clear hcs hw
      have HCL := Lib.hid (show c.length = M - a from by
        rw [HCS.out.length HP.out, List.length_append, HL1.out, HL3.out]
        have := HIE.out
        omega)
      go_upto_region 43 with fail
      generalize wc = wr2 at HW2 ⊢
      by_cases hg : M < E ∧ E < b
      · obtain ⟨g1, g2⟩ := hg
        have HREC := Lib.hid (HIH.out (p ++ c) U2 V2 q M E b wr2 (by rw [HL2.out, HL4.out]; have := HLL.out; have := HB.out; have := HM.out; omega) (by simpa using HW2.out) (by rw [List.length_append, HCL.out, ← HA.out]; omega) (by rw [HL2.out]; have := HIE.out; omega) (by rw [HL4.out]; omega) (by rw [HL2.out]; have := HIE.out; omega) (by rw [HL4.out]; omega) HRU2.out HRV2.out)
        go_wp2_with fail
        refine HREC.out.mono ?_
        rintro e w1 ⟨rfl, d, hds, hw⟩
        have HW3 := Lib.hid hw
        have HDS := Lib.hid hds
        clear hw hds
        go_wp2_with fail
        go_end0
        exact ⟨rfl, c ++ d, HSS.out c d HCS.out HDS.out, by simpa using HW3.out⟩
      · have hsr : OrdPure.IsSort f (U2 ++ V2) (U2 ++ V2) := by
          have h2 : U2 = [] ∨ V2 = [] := by
            by_cases g1 : M < E
            · right
              exact List.eq_nil_of_length_eq_zero (by rw [HL4.out]; omega)
            · left
              exact List.eq_nil_of_length_eq_zero (by rw [HL2.out]; have := HIE.out; omega)
          rcases h2 with rfl | rfl
          · exact OrdPure.IsSort.self HRV2.out
          · rw [List.append_nil]
            exact OrdPure.IsSort.self HRU2.out
        have HFIN := Lib.hid (show ∃ s, OrdPure.IsSort f (u ++ v) s ∧ StRow S base g cap w0 wr2 N (p ++ s ++ q) from ⟨c ++ (U2 ++ V2), HSS.out c _ HCS.out hsr, by simpa using HW2.out⟩)
        clear hsr
        by_cases g1 : M < E
        · have g2 : ¬ E < b := fun h => hg ⟨g1, h⟩
          clear hg
          go_wp2_with fail
          go_end0
          exact ⟨rfl, HFIN.out⟩
        · clear hg
          go_wp2_with fail
          go_end0
          exact ⟨rfl, HFIN.out⟩

theorem symMerge_any (G : Nat) (pc : Value) (f : Value → Value → Int) (S : Value → Prop) (base g cap N : Nat) (w0 : World) (hc : CmpOk G pc f S g w0) : ∀ (L : Nat) (p u v q : List Value) (a m b : Nat) (w : World), u.length + v.length < L → StRow S base g cap w0 w N (p ++ (u ++ v) ++ q) → a = p.length → m = a + u.length → b = m + v.length → 0 < u.length → 0 < v.length → OrdPure.Rising f u → OrdPure.Rising f v →
    Calls Try.prog 46 #[.slice (some ⟨g, 0, none⟩) N cap, .int .i64 a, .int .i64 m, .int .i64 b, .func (.func G) #[] #[pc]] w fun e w' => e = .returned (.tuple #[]) ∧ ∃ s, OrdPure.IsSort f (u ++ v) s ∧ StRow S base g cap w0 w' N (p ++ s ++ q) := by
  intro L
  induction L with
  | zero => intro p u v q a m b w h; omega
  | succ L ih =>
    intro p u v q a m b w hl hr ha hm hb hu hv ru rv
    by_cases h1 : u.length = 1
    · obtain ⟨x, rfl⟩ := List.length_eq_one_iff.1 h1
      exact symOne_any G pc f S base g cap N w0 hc p v q x a m b w hr ha hm hb rv
    · by_cases h2 : v.length = 1
      · obtain ⟨x, rfl⟩ := List.length_eq_one_iff.1 h2
        exact symLast_any G pc f S base g cap N w0 hc p u q x a m b w (by simpa using hr) ha hm hb (by omega) ru
      · exact symMany_any G pc f S base g cap N w0 hc (u.length + v.length) (fun p u v q a m b w h => ih p u v q a m b w (by omega)) p u v q a m b w rfl hr ha hm hb (by omega) (by omega) ru rv

end Go.Proofs.Ytjpdpgjalbjmgaa
