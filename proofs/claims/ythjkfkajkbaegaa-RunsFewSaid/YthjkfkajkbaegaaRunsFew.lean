/-
  The walk of the law RunsFew.
-/
import Derived.Test.YthjkfkajkbaegaaRunsOf
namespace Go.Proofs.Ythjkfkajkbaegaa
open Go.ChangeAt Go.RowKit Go.BigFrame

theorem runs_at {rs : List Sp} : ∀ {k : Nat} (_ : goodR rs) (hk : k < rs.length) {q : Int} (_ : 0 ≤ q) (_ : q < rs[k].t), runIdx rs (sumR (rs.take k) + q) = (k : Int) ∧ (flat rs).getD (sumR (rs.take k) + q).toNat 0 = rs[k].f ∧ 0 ≤ sumR (rs.take k) ∧ sumR (rs.take k) + q < sumR rs := by
  induction rs with
  | nil => intro k _ hk; simp at hk
  | cons s t ih =>
    intro k hg hk q h0 h1
    have hs := hg s (by simp)
    have hgt : goodR t := fun y hy => hg y (by simp [hy])
    have hfl : flat (s :: t) = List.replicate s.t.toNat s.f ++ flat t := by unfold flat; rw [List.flatMap_cons]
    cases k with
    | zero =>
      have h1' : q < s.t := h1
      have e0 : sumR ((s :: t).take 0) = 0 := rfl
      rw [e0, Int.zero_add, hfl]
      refine ⟨by rw [runIdx, if_pos h1']; rfl, ?_, Int.le_refl _, by rw [sumR]; have := sumR_nonneg hgt; omega⟩
      rw [List.getD_eq_getElem?_getD, List.getElem?_append_left (by rw [List.length_replicate]; omega), List.getElem?_replicate, if_pos (by omega)]
      rfl
    | succ k =>
      have hk' : k < t.length := by simpa using hk
      obtain ⟨i1, i2, i3, i4⟩ := ih hgt hk' (q := q) h0 h1
      have e0 : sumR ((s :: t).take (k + 1)) = s.t + sumR (t.take k) := rfl
      rw [e0, hfl]
      have e1 : s.t + sumR (t.take k) + q - s.t = sumR (t.take k) + q := by omega
      refine ⟨by rw [runIdx, if_neg (by omega), e1, i1]; omega, ?_, by omega, by rw [sumR]; omega⟩
      have e2 : (s.t + sumR (t.take k) + q).toNat = s.t.toNat + (sumR (t.take k) + q).toNat := by omega
      rw [e2, List.getD_eq_getElem?_getD, List.getElem?_append_right (by rw [List.length_replicate]; omega), List.length_replicate, Nat.add_sub_cancel_left, ← List.getD_eq_getElem?_getD, i2]
      rfl
theorem noAdj_at {rs : List Sp} : ∀ {j : Nat} (_ : noAdj rs) (hj : j + 1 < rs.length), (rs[j]'(by omega)).f ≠ rs[j + 1].f := by
  induction rs with
  | nil => intro j _ hj; simp at hj
  | cons s t ih =>
    intro j ha hj
    cases t with
    | nil => simp at hj
    | cons s' t =>
      cases j with
      | zero => exact ha.1
      | succ j => exact ih ha.2 (by simpa using hj)
/-- What the place of a run tells. -/
theorem at_run {x : List Int} (hx : x.length ≤ 4096) {k : Nat} (hk : k < (ofR x).length) {q : Int} (h0 : 0 ≤ q) (h1 : q < (ofR x)[k].t) :
    atS (ofR x) (sumR ((ofR x).take k) + q) = ((ofR x)[k].f, (k : Int), true) ∧ x[(sumR ((ofR x).take k) + q).toNat]? = some (ofR x)[k].f := by
  obtain ⟨a1, a2, a3, a4⟩ := runs_at (good_ofR x) hk h0 h1
  have hs := sumR_ofR x
  constructor
  · rw [atS_yes ⟨by rw [flatS_ok (good_ofR x) (by omega)], by omega, a4⟩, a1, a2]
  · rw [flat_ofR] at a2
    rw [List.getD_eq_getElem?_getD] at a2
    have hlt : (sumR ((ofR x).take k) + q).toNat < x.length := by omega
    rw [List.getElem?_eq_getElem hlt] at a2 ⊢
    exact congrArg some a2

set_option maxRecDepth 100000 in
set_option maxHeartbeats 2000000 in
theorem runsFew_walk (u : Value) (zs : List Int) (w : World) (hu : RdV w u (zs.map (Value.int .i64))) (hf : ∀ n ∈ zs, (Lit.int .i64 n).wf = true) :
    Calls Try.prog 7 #[u] w fun e w' => e = .returned (.bool true) ∧ Below w.heap.size w w' := by
  have HU := Lib.hid hu
  obtain ⟨ao, acap, rfl, h1, h2, -⟩ := RdV.cellsAt hu
  rw [List.length_map] at h1 HU ⊢
  unfold maxLen at h2
  obtain ⟨K, hk1, hk2, hk3, hk4, -⟩ := min_first9 zs.length 500
  have HV := Lib.hid (show RdV w (.slice ao K acap) ((zs.take K).map (Value.int .i64)) by rw [List.map_take]; exact rdV_head9 HU.out K hk3)
  have HXB := Lib.hid (show ∀ z ∈ zs.take K, -9223372036854775808 ≤ z ∧ z ≤ 9223372036854775807 from fun z hz => bounds_i64 (hf z (List.mem_of_mem_take hz)))
  have HXN := Lib.hid (show (zs.take K).length = K by rw [List.length_take]; omega)
  generalize zs.take K = x at HV HXB HXN
  generalize zs.length = N at h1 hk1 hk2 hk3 ⊢
  have hKc : K ≤ acap := by omega
  simp only [Int.cast_ofNat_Int] at hk1 hk2
  clear hu hf HU
  go_enter Try.func7, Try.ntmps7
  go_wp2_with fail
  refine (shown9_any w).mono ?_
  rintro e w1 ⟨rfl, hx1⟩
  have HX1 := Lib.hid hx1
  clear hx1
  go_wp2_with fail
  refine (pOf9_any _ x w1 (HV.out.mono HX1.out) (by have := HXN.out; omega) HXB.out).mono ?_
  rintro e w2 ⟨⟨v2, rfl, ho2⟩, hx2⟩
  have HI2 := Lib.hid (inSp_ofR ho2.rd (by have := HXN.out; omega) HXB.out)
  have HX2 := Lib.hid (Ext.trans HX1.out hx2)
  obtain ⟨so, sc, rfl, hs1, hs2, hat, -⟩ := ho2.rd
  have HAT := Lib.hid hat
  obtain ⟨M, hM⟩ : ∃ M, (ofR x).length = M := ⟨_, rfl⟩
  rw [hM] at hs1 HI2 ⊢
  have HM := Lib.hid hM
  have HMK := Lib.hid (show M ≤ K by have := ofR_len x; have := HXN.out; omega)
  unfold maxLen at hs2
  have hmk := HMK.out
  have hd0 : decide (K < M) = false := decide_eq_false (by omega)
  clear ho2 hx2 hat hM
  go_wp2_with fail
  clear hd0
  go_loopw [6, 30] (fun pv kv wr => ∃ k P : Nat, k ≤ M ∧ kv = .int .i64 k ∧ pv = .int .i64 P ∧ (P : Int) = sumR ((ofR x).take k) ∧ Ext w2 wr) (fun _ kv _ => M - (intOf kv).toNat)
  case atStart => exact ⟨0, 0, Nat.zero_le _, rfl, rfl, rfl, Ext.keeps.refl _⟩
  case round =>
    obtain ⟨k, P, hk, rfl, rfl, hP, hx⟩ := hrel
    have HP := Lib.hid hP
    have HX := Lib.hid hx
    have HXW := Lib.hid (Ext.trans HX2.out hx)
    have hPK : P ≤ K := by
      have h1 := sumR_take_le (good_ofR x) k
      rw [sumR_ofR, HXN.out] at h1
      omega
    clear hP hx
    by_cases hlt : k < M
    · have hkl : k < (ofR x).length := by have := HM.out; omega
      obtain ⟨g, off, rfl, hx0, hx1⟩ := HAT.out k hkl
      have hc0 := (HX.out.cell (lt_of_cell hx0)).trans hx0
      have hc1 := (HX.out.cell (lt_of_cell hx1)).trans hx1
      have HTS := Lib.hid (sumR_take_succ hkl)
      have HGD := Lib.hid (good_ofR x _ (List.getElem_mem hkl))
      have HLE := Lib.hid (show sumR ((ofR x).take (k + 1)) ≤ K by have h := sumR_take_le (good_ofR x) (k + 1); rw [sumR_ofR, HXN.out] at h; exact h)
      have HATR := Lib.hid (fun (q : Int) (h0 : 0 ≤ q) (h1 : q < (ofR x)[k].t) => at_run (x := x) (by have := HXN.out; omega) hkl h0 h1)
      have HADJ := Lib.hid (fun (j : Nat) (hj : j + 1 = k) => (show ((ofR x)[j]'(by omega)).f ≠ (ofR x)[k].f from by subst hj; exact noAdj_at (adj_ofR x) hkl))
      generalize (ofR x)[k] = c at hc0 hc1 HTS HGD HATR HADJ
      obtain ⟨cf, ct⟩ := c
      simp only at hc0 hc1 HTS HGD HATR HADJ
      have hct := HGD.out
      have hct2 : ct ≤ (K : Int) - (P : Int) := by have := HTS.out; have := HLE.out; have := HP.out; omega
      clear hx0 hx1
      have HXA := Lib.hid (Ext.trans HX.out (ext_new wr (.cells #[.int .i64 cf, .int .i64 ct] 45)))
      have HCB := Lib.hid (show (wr.alloc (.cells #[.int .i64 cf, .int .i64 ct] 45)).heap[wr.heap.size]? = some (.cells #[.int .i64 cf, .int .i64 ct] 45 (0, 0)) from heap_alloc_new _ _)
      go_wp2_with fail
      clear hc0 hc1
      generalize wr.alloc (.cells #[.int .i64 cf, .int .i64 ct] 45) = wa at HXA HCB ⊢
      generalize wr.heap.size = B at HCB ⊢
      have HCW := Lib.hid (fun W (h : Ext wa W) => (show W.cell? ⟨B, 0, none⟩ = some (.int .i64 cf) ∧ W.cell? ⟨B, 1, none⟩ = some (.int .i64 ct) from by
        have hb : W.heap[B]? = some (.cells #[.int .i64 cf, .int .i64 ct] 45 (0, 0)) := (h.block B (Array.getElem?_eq_some_iff.1 HCB.out).1).trans HCB.out
        exact ⟨by simp [World.cell?, hb], by simp [World.cell?, hb]⟩))
      have HXD := Lib.hid (Ext.trans HXA.out (Ext.drew wa))
      have d1 : decide (ct < 1) = false := decide_eq_false (by omega)
      have d2 : decide ((K : Int) - (P : Int) < ct) = false := decide_eq_false (by omega)
      have hz0 : ∀ z : Later Ext wa.drew, z.val.cell? ⟨B, 0, none⟩ = some (.int .i64 cf) := fun z => (HCW.out _ (Ext.trans (Ext.drew wa) z.ext)).1
      have hz1 : ∀ z : Later Ext wa.drew, z.val.cell? ⟨B, 1, none⟩ = some (.int .i64 ct) := fun z => (HCW.out _ (Ext.trans (Ext.drew wa) z.ext)).2
      by_cases hk0 : k = 0
      · subst hk0
        refine wp_region_segs Ext Ext.keeps [(List.range 27, none)] (by kernel_rfl) (by kernel_rfl) (fun c a a' w e h => (by exact ⟨e ▸ h.1, h.2⟩)) ?_
        simp only [List.range, List.range.loop, pickSegs, pickOps, List.map_cons, List.map_nil, Option.map_none, Option.getD_some, List.getElem?_toArray, List.getElem?_cons_zero, List.getElem?_cons_succ]
        refine wpSegs_none ?_
        repeat go_big_quiet_step (fail)
        refine wpQuiet_nil (wpSegs_nil ?_)
        have HCD := Lib.hid (fun W (h : Ext wa.drew W) => HCW.out W (Ext.trans (Ext.drew wa) h))
        clear hz0 hz1 d1 d2
        generalize wa.drew = wd at HXD HCD ⊢
        have hcd := (HCD.out wd (Ext.keeps.refl _)).2
        go_wp2_with fail
        clear hcd
        go_loopw [6, 64] (fun pv cv wk => ∃ q : Nat, (q : Int) ≤ ct ∧ cv = .int .i64 q ∧ pv = .int .i64 ((P + q : Nat) : Int) ∧ Ext wd wk) (fun _ cv _ => ct.toNat - (intOf cv).toNat)
        case atStart => exact ⟨0, by omega, rfl, rfl, Ext.keeps.refl _⟩
        case round =>
          obtain ⟨q, hq, rfl, rfl, hxq⟩ := hrel
          have HXQ := Lib.hid hxq
          have HXQ2 := Lib.hid (Ext.trans HXD.out hxq)
          clear hxq
          by_cases hqt : (q : Int) < ct
          · obtain ⟨ha1, ha2⟩ := HATR.out (q : Int) (Int.natCast_nonneg _) hqt
            have e1 : sumR ((ofR x).take 0) + (q : Int) = ((P + q : Nat) : Int) := by have := HP.out; omega
            rw [e1] at ha1 ha2
            rw [Int.toNat_natCast] at ha2
            have HA1 := Lib.hid ha1
            obtain ⟨hlx, hxe⟩ := List.getElem?_eq_some_iff.1 ha2
            obtain ⟨-, -, -, hxat⟩ := RdV.plain HV.out
            obtain ⟨g', off', rfl, hcx⟩ := hxat (P + q) hlx
            rw [hxe] at hcx
            have HCX := Lib.hid hcx
            have hPq : P + q < K := by have := HXN.out; omega
            clear ha1 ha2 hxe hxat hcx e1 hlx
            go_wp2_with fail
            refine (pAt9_any _ (ofR x) ((P + q : Nat) : Int) _ ⟨HI2.out.rd.mono HXQ2.out, HI2.out.few, HI2.out.fits⟩ (by omega)).mono ?_
            rintro e w5 ⟨rfl, hx5⟩
            rw [HA1.out]
            have HX5 := Lib.hid (Ext.trans HXQ.out hx5)
            have hcx := ((Ext.trans HX2.out (Ext.trans HXD.out HX5.out)).cell (lt_of_cell HCX.out)).trans HCX.out
            have hcb := (HCD.out _ HX5.out).1
            have q1 : (cf == cf) = true := beq_self_eq_true _
            clear hx5
            go_wp2_with fail
            refine ⟨?_, ?measure⟩
            (repeat apply Exists.intro)
            refine ⟨?relX, ?eqX⟩
            case eqX => rfl
            case relX => exact ⟨q + 1, by omega, by go_num, by go_num, HX5.out⟩
            case measure => simp [intOf]; omega
          · go_wp2_with fail
            go_roundw
            case rel => exact ⟨0 + 1, P + q, by omega, by go_num, rfl, by have := HTS.out; have := HP.out; omega, HXQ2.out⟩
            case measure => simp [intOf]; omega
      · obtain ⟨J, rfl⟩ : ∃ J, k = J + 1 := ⟨k - 1, by omega⟩
        have hjl : J < (ofR x).length := by omega
        obtain ⟨g2, off2, hg2, hy0, -⟩ := HAT.out J hjl
        simp only [Option.some.injEq, Addr.mk.injEq, and_true] at hg2
        obtain ⟨rfl, rfl⟩ := hg2
        have hne : ((ofR x)[J].f == cf) = false := beq_eq_false_iff_ne.2 (HADJ.out J rfl)
        have hzp : ∀ z : Later Ext wa.drew, z.val.cell? ⟨g, off + J * 2, none⟩ = some (.int .i64 (ofR x)[J].f) := fun z => ((Ext.trans HXD.out z.ext).cell (lt_of_cell hy0)).trans hy0
        clear HADJ hy0
        generalize (ofR x)[J].f = pf at hne hzp
        clear hjl
        refine wp_region_segs Ext Ext.keeps [(List.range 27, none)] (by kernel_rfl) (by kernel_rfl) (fun c a a' w e h => (by exact ⟨e ▸ h.1, h.2⟩)) ?_
        simp only [List.range, List.range.loop, pickSegs, pickOps, List.map_cons, List.map_nil, Option.map_none, Option.getD_some, List.getElem?_toArray, List.getElem?_cons_zero, List.getElem?_cons_succ]
        refine wpSegs_none ?_
        repeat go_big_quiet_step (fail)
        refine wpQuiet_nil (wpSegs_nil ?_)
        clear hzp hne
        have HCD := Lib.hid (fun W (h : Ext wa.drew W) => HCW.out W (Ext.trans (Ext.drew wa) h))
        clear hz0 hz1 d1 d2
        generalize wa.drew = wd at HXD HCD ⊢
        have hcd := (HCD.out wd (Ext.keeps.refl _)).2
        go_wp2_with fail
        clear hcd
        go_loopw [6, 64] (fun pv cv wk => ∃ q : Nat, (q : Int) ≤ ct ∧ cv = .int .i64 q ∧ pv = .int .i64 ((P + q : Nat) : Int) ∧ Ext wd wk) (fun _ cv _ => ct.toNat - (intOf cv).toNat)
        case atStart => exact ⟨0, by omega, rfl, rfl, Ext.keeps.refl _⟩
        case round =>
          obtain ⟨q, hq, rfl, rfl, hxq⟩ := hrel
          have HXQ := Lib.hid hxq
          have HXQ2 := Lib.hid (Ext.trans HXD.out hxq)
          clear hxq
          by_cases hqt : (q : Int) < ct
          · obtain ⟨ha1, ha2⟩ := HATR.out (q : Int) (Int.natCast_nonneg _) hqt
            have e1 : sumR ((ofR x).take (J + 1)) + (q : Int) = ((P + q : Nat) : Int) := by have := HP.out; omega
            rw [e1] at ha1 ha2
            rw [Int.toNat_natCast] at ha2
            have HA1 := Lib.hid ha1
            obtain ⟨hlx, hxe⟩ := List.getElem?_eq_some_iff.1 ha2
            obtain ⟨-, -, -, hxat⟩ := RdV.plain HV.out
            obtain ⟨g', off', rfl, hcx⟩ := hxat (P + q) hlx
            rw [hxe] at hcx
            have HCX := Lib.hid hcx
            have hPq : P + q < K := by have := HXN.out; omega
            clear ha1 ha2 hxe hxat hcx e1 hlx
            go_wp2_with fail
            refine (pAt9_any _ (ofR x) ((P + q : Nat) : Int) _ ⟨HI2.out.rd.mono HXQ2.out, HI2.out.few, HI2.out.fits⟩ (by omega)).mono ?_
            rintro e w5 ⟨rfl, hx5⟩
            rw [HA1.out]
            have HX5 := Lib.hid (Ext.trans HXQ.out hx5)
            have hcx := ((Ext.trans HX2.out (Ext.trans HXD.out HX5.out)).cell (lt_of_cell HCX.out)).trans HCX.out
            have hcb := (HCD.out _ HX5.out).1
            have q1 : (cf == cf) = true := beq_self_eq_true _
            clear hx5
            go_wp2_with fail
            refine ⟨?_, ?measure⟩
            (repeat apply Exists.intro)
            refine ⟨?relX, ?eqX⟩
            case eqX => rfl
            case relX => exact ⟨q + 1, by omega, by go_num, by go_num, HX5.out⟩
            case measure => simp [intOf]; omega
          · go_wp2_with fail
            go_roundw
            case rel => exact ⟨(J + 1) + 1, P + q, by omega, by go_num, rfl, by have := HTS.out; have := HP.out; omega, HXQ2.out⟩
            case measure => simp [intOf]; omega
    · have HALL := Lib.hid (show (ofR x).take k = ofR x from List.take_of_length_le (by have := HM.out; omega))
      have hPe : P = K := by have h := HP.out; rw [HALL.out, sumR_ofR, HXN.out] at h; omega
      subst hPe
      have HATN := Lib.hid (show atS (ofR x) (P : Int) = (0, 0, false) from atS_no (fun h => by have h2 := h.2.2; rw [sumR_ofR, HXN.out] at h2; omega))
      go_wp2_with fail
      refine (pAt9_any _ (ofR x) (P : Int) wr ⟨HI2.out.rd.mono HX.out, HI2.out.few, HI2.out.fits⟩ (by omega)).mono ?_
      rintro e w3 ⟨rfl, hx3⟩
      rw [HATN.out]
      have HX3 := Lib.hid (Ext.trans HXW.out hx3)
      clear hx3
      go_wp2_with fail
      go_ret
      exact ⟨by simp, HX3.out⟩

end Go.Proofs.Ythjkfkajkbaegaa
