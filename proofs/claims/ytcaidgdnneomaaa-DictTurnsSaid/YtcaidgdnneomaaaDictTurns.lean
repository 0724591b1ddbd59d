/-
  The walk of the law DictTurns.
-/
import Derived.Test.YtcaidgdnneomaaaDictRound
namespace Go.Proofs.Ytcaidgdnneomaaa
open Go.ChangeAt Go.RowKit Go.BigFrame

theorem of_two (l : List T8) : ofS10 l = ([], [], 3) ∨ ∃ W P, ofS10 l = (W, P, 0) ∧ rightW W = true := by
  by_cases h : okTexts l
  · exact .inr ⟨_, _, ofS10_ok h, words_good h⟩
  · exact .inl (ofS10_no h)
theorem turn_ok {a b : List T8} (ha : rightW a = true) (hb : rightW b = true) : turnS a b = (a.map (placeS b), 0) := if_pos ⟨ha, hb⟩
theorem place_self {W : List T8} (h : Rising W) {j : Nat} (hj : j < W.length) : placeS W W[j] = j :=
  placeS_found hj rfl fun i hi hij e => by
    have := rising_get h hi hj hij
    rw [e] at this
    exact tless_irrefl _ this
theorem good_small {W : List T8} (h : rightW W = true) : W.length ≤ 100000 ∧ ∀ t ∈ W, t.length ≤ 1000000 := by
  obtain ⟨h1, h2, _⟩ := rightW_iff.1 h
  exact ⟨by omega, fun t ht => by have := h2 t ht; omega⟩

set_option maxRecDepth 100000 in
set_option maxHeartbeats 8000000 in
theorem dictTurns_walk (u1 : Value) (ss1 : List ByteArray) (u2 : Value) (ss2 : List ByteArray) (u3 : Value) (ss3 : List ByteArray) (w : World) (hu1 : RdV w u1 (ss1.map Value.string)) (_hf1 : ∀ s ∈ ss1, s.size ≤ maxLen) (hu2 : RdV w u2 (ss2.map Value.string)) (_hf2 : ∀ s ∈ ss2, s.size ≤ maxLen) (hu3 : RdV w u3 (ss3.map Value.string)) (_hf3 : ∀ s ∈ ss3, s.size ≤ maxLen) :
    Calls Try.prog 8 #[u1, u2, u3] w fun e w' => e = .returned (.bool true) ∧ Below w.heap.size w w' := by
  obtain ⟨l1, hl1, -⟩ := texts_in hu1
  have HFEW1 := Lib.hid (fun W (h : Ext w W) => few10_any u1 l1 W (hl1.mono h))
  have HOK1 := Lib.hid (few_in (w := w) (l := l1))
  generalize fewW l1 = x1 at HFEW1 HOK1
  obtain ⟨ao1, cap1, rfl, -, -, -⟩ := rd_words hl1
  generalize l1.length = N1 at HFEW1 ⊢
  obtain ⟨l2, hl2, -⟩ := texts_in hu2
  have HFEW2 := Lib.hid (fun W (h : Ext w W) => few10_any u2 l2 W (hl2.mono h))
  have HOK2 := Lib.hid (few_in (w := w) (l := l2))
  generalize fewW l2 = x2 at HFEW2 HOK2
  obtain ⟨ao2, cap2, rfl, -, -, -⟩ := rd_words hl2
  generalize l2.length = N2 at HFEW2 ⊢
  obtain ⟨l3, hl3, -⟩ := texts_in hu3
  have HFEW3 := Lib.hid (fun W (h : Ext w W) => few10_any u3 l3 W (hl3.mono h))
  have HOK3 := Lib.hid (few_in (w := w) (l := l3))
  generalize fewW l3 = x3 at HFEW3 HOK3
  obtain ⟨ao3, cap3, rfl, -, -, -⟩ := rd_words hl3
  generalize l3.length = N3 at HFEW3 ⊢
  clear hu1 hl1 hu2 hl2 hu3 hl3
  go_enter Try.func8, Try.ntmps8
  go_wp2_with fail
  refine (shown10_any w).mono ?_
  rintro e w0 ⟨rfl, hx0⟩
  have HX0 := Lib.hid hx0
  clear hx0
  go_wp2_with fail
  refine (HFEW1.out w0 HX0.out).mono ?_
  rintro e wz ⟨⟨f1, rfl, hf1⟩, rfl⟩
  go_wp2_with fail
  refine (pOf10_any f1 x1 w0 hf1 HOK1.out.1 HOK1.out.2.1).mono ?_
  rintro e w1 ⟨⟨v1, p1, rfl, hv1, hp1⟩, hx⟩
  have HX1 := Lib.hid (Ext.trans HX0.out hx)
  have HV1 := Lib.hid hv1
  have HE1 := Lib.hid hx
  have HTW1 := Lib.hid (of_two x1)
  obtain ⟨W1, Q1, e1, hR1⟩ : ∃ W Q e, ofS10 x1 = (W, Q, e) := ⟨_, _, _, rfl⟩
  rw [hR1] at HV1 HTW1 ⊢
  simp only at HV1 HTW1 ⊢
  clear hf1 hv1 hp1 hx hR1
  go_wp2_with fail
  refine (HFEW2.out w1 HX1.out).mono ?_
  rintro e wz ⟨⟨f2, rfl, hf2⟩, rfl⟩
  go_wp2_with fail
  refine (pOf10_any f2 x2 w1 hf2 HOK2.out.1 HOK2.out.2.1).mono ?_
  rintro e w2 ⟨⟨v2, p2, rfl, hv2, hp2⟩, hx⟩
  have HX2 := Lib.hid (Ext.trans HX1.out hx)
  have HV2 := Lib.hid hv2
  have HE2 := Lib.hid hx
  have HTW2 := Lib.hid (of_two x2)
  obtain ⟨W2, Q2, e2, hR2⟩ : ∃ W Q e, ofS10 x2 = (W, Q, e) := ⟨_, _, _, rfl⟩
  rw [hR2] at HV2 HTW2 ⊢
  simp only at HV2 HTW2 ⊢
  clear hf2 hv2 hp2 hx hR2
  go_wp2_with fail
  refine (HFEW3.out w2 HX2.out).mono ?_
  rintro e wz ⟨⟨f3, rfl, hf3⟩, rfl⟩
  go_wp2_with fail
  refine (pOf10_any f3 x3 w2 hf3 HOK3.out.1 HOK3.out.2.1).mono ?_
  rintro e w3 ⟨⟨v3, p3, rfl, hv3, hp3⟩, hx⟩
  have HX3 := Lib.hid (Ext.trans HX2.out hx)
  have HV3 := Lib.hid hv3
  have HE3 := Lib.hid hx
  have HTW3 := Lib.hid (of_two x3)
  obtain ⟨W3, Q3, e3, hR3⟩ : ∃ W Q e, ofS10 x3 = (W, Q, e) := ⟨_, _, _, rfl⟩
  rw [hR3] at HV3 HTW3 ⊢
  simp only at HV3 HTW3 ⊢
  clear hf3 hv3 hp3 hx hR3
  rcases HTW1.out with h1 | ⟨W1', Q1', h1, hr1⟩
  · simp only [Prod.mk.injEq] at h1
    obtain ⟨rfl, rfl, rfl⟩ := h1
    go_wp2_with fail
    go_ret
    exact ⟨rfl, HX3.out⟩
  · simp only [Prod.mk.injEq] at h1
    obtain ⟨rfl, rfl, rfl⟩ := h1
    rcases HTW2.out with h2 | ⟨W2', Q2', h2, hr2⟩
    · simp only [Prod.mk.injEq] at h2
      obtain ⟨rfl, rfl, rfl⟩ := h2
      go_wp2_with fail
      go_ret
      exact ⟨rfl, HX3.out⟩
    · simp only [Prod.mk.injEq] at h2
      obtain ⟨rfl, rfl, rfl⟩ := h2
      rcases HTW3.out with h3 | ⟨W3', Q3', h3, hr3⟩
      · simp only [Prod.mk.injEq] at h3
        obtain ⟨rfl, rfl, rfl⟩ := h3
        go_wp2_with fail
        go_ret
        exact ⟨rfl, HX3.out⟩
      · simp only [Prod.mk.injEq] at h3
        obtain ⟨rfl, rfl, rfl⟩ := h3
        have HV1c := Lib.hid (HV1.out.mono (Ext.trans HE2.out HE3.out))
        have HV2c := Lib.hid (HV2.out.mono HE3.out)
        have HV3c := Lib.hid HV3.out
        have HL1 := Lib.hid (good_small hr1)
        have HL2 := Lib.hid (good_small hr2)
        have HL3 := Lib.hid (good_small hr3)
        have HTA := Lib.hid (turn_ok hr1 hr2)
        have HTB := Lib.hid (turn_ok hr2 hr3)
        have HTC := Lib.hid (turn_ok hr1 hr3)
        have HTD := Lib.hid (turn_ok hr1 hr1)
        have HRS := Lib.hid (rightW_iff.1 hr1).2.2
        obtain ⟨ga, ca, rfl, hca1, hca2, -⟩ := rd_words HV1c.out
        obtain ⟨gb, cb, rfl, hcb1, hcb2, -⟩ := rd_words HV2c.out
        obtain ⟨gc, cc, rfl, hcc1, hcc2, -⟩ := rd_words HV3c.out
        clear hr1 hr2 hr3
        go_wp2_with fail
        refine (pTurn10_any _ _ W1 W2 w3 HV1c.out HV2c.out HL1.out.1 HL2.out.1 HL1.out.2 HL2.out.2).mono ?_
        rintro e w4 ⟨ab, rfl, ho4, hx4⟩
        rw [HTA.out] at ho4 ⊢
        simp only at ho4 ⊢
        have HAB := Lib.hid (RdV.of_owns ho4)
        have HX4 := Lib.hid hx4
        clear ho4 hx4
        go_wp2_with fail
        refine (pTurn10_any _ _ W2 W3 w4 (HV2c.out.mono HX4.out) (HV3c.out.mono HX4.out) HL2.out.1 HL3.out.1 HL2.out.2 HL3.out.2).mono ?_
        rintro e w5 ⟨bc, rfl, ho5, hx5⟩
        rw [HTB.out] at ho5 ⊢
        simp only at ho5 ⊢
        have HBC := Lib.hid (RdV.of_owns ho5)
        have HAB5 := Lib.hid (HAB.out.mono hx5)
        have HX5 := Lib.hid (Ext.trans HX4.out hx5)
        clear ho5 hx5
        go_wp2_with fail
        refine (pTurn10_any _ _ W1 W3 w5 (HV1c.out.mono HX5.out) (HV3c.out.mono HX5.out) HL1.out.1 HL3.out.1 HL1.out.2 HL3.out.2).mono ?_
        rintro e w6 ⟨ac, rfl, ho6, hx6⟩
        rw [HTC.out] at ho6 ⊢
        simp only at ho6 ⊢
        have HAC := Lib.hid (RdV.of_owns ho6)
        have HAB6 := Lib.hid (HAB5.out.mono hx6)
        have HBC6 := Lib.hid (HBC.out.mono hx6)
        have HX6 := Lib.hid (Ext.trans HX5.out hx6)
        clear ho6 hx6
        go_wp2_with fail
        refine (pTurn10_any _ _ W1 W1 w6 (HV1c.out.mono HX6.out) (HV1c.out.mono HX6.out) HL1.out.1 HL1.out.1 HL1.out.2 HL1.out.2).mono ?_
        rintro e w7 ⟨aa, rfl, ho7, hx7⟩
        rw [HTD.out] at ho7 ⊢
        simp only at ho7 ⊢
        have HAA := Lib.hid (RdV.of_owns ho7)
        have HAB7 := Lib.hid (HAB6.out.mono hx7)
        have HBC7 := Lib.hid (HBC6.out.mono hx7)
        have HAC7 := Lib.hid (HAC.out.mono hx7)
        have HV1d := Lib.hid (HV1c.out.mono (Ext.trans HX6.out hx7))
        have HV2d := Lib.hid (HV2c.out.mono (Ext.trans HX6.out hx7))
        have HX7 := Lib.hid (Ext.trans HX3.out (Ext.trans HX6.out hx7))
        clear ho7 hx7
        obtain ⟨o1, c1, rfl, k1, m1, -⟩ := RdV.cellsAt HAA.out
        obtain ⟨o2, c2, rfl, k2, m2, -⟩ := RdV.cellsAt HAB7.out
        obtain ⟨o3, c3, rfl, k3, m3, -⟩ := RdV.cellsAt HBC7.out
        obtain ⟨o4, c4, rfl, k4, m4, -⟩ := RdV.cellsAt HAC7.out
        simp only [List.length_map] at HAA HAB7 HBC7 HAC7 k1 k2 k3 k4 ⊢
        obtain ⟨N, hN⟩ : ∃ N, W1.length = N := ⟨_, rfl⟩
        have HN := Lib.hid hN
        obtain ⟨M, hM⟩ : ∃ M, W2.length = M := ⟨_, rfl⟩
        have HM := Lib.hid hM
        unfold maxLen at hca2 hcb2 hcc2 m1 m2 m3 m4
        rw [hN] at HAA HAB7 HAC7 HV1d hca1 k1 k2 k4 ⊢
        rw [hM] at HBC7 HV2d hcb1 k3 ⊢
        have P1 := Lib.hid (RdV.plainV HAA.out).2.2.2
        have P2 := Lib.hid (RdV.plainV HAB7.out).2.2.2
        have P3 := Lib.hid (RdV.plainV HBC7.out).2.2.2
        have P4 := Lib.hid (RdV.plainV HAC7.out).2.2.2
        have P5 := Lib.hid (RdV.plainV HV1d.out).2.2.2
        have P6 := Lib.hid (RdV.plainV HV2d.out).2.2.2
        clear hN hM
        go_wp2_with fail
        go_loopw [25, 127] (fun _ i wr => ∃ j : Nat, j ≤ N ∧ i = .int .i64 j ∧ Ext w7 wr) (fun _ i _ => N - (intOf i).toNat)
        case atStart => exact ⟨0, Nat.zero_le _, rfl, Ext.keeps.refl _⟩
        case round =>
          obtain ⟨j, hj, rfl, hx⟩ := hrel
          have HX := Lib.hid hx
          clear hx
          by_cases hlt : j < N
          · have hjl : j < W1.length := by have := HN.out; omega
            obtain ⟨g1, f1, rfl, hc1⟩ := P1.out j (.int .i64 (placeS W1 W1[j])) (by rw [List.getElem?_map, List.getElem?_map, List.getElem?_eq_getElem hjl]; rfl)
            obtain ⟨g2, f2, rfl, hc2⟩ := P2.out j (.int .i64 (placeS W2 W1[j])) (by rw [List.getElem?_map, List.getElem?_map, List.getElem?_eq_getElem hjl]; rfl)
            obtain ⟨g4, f4, rfl, hc4⟩ := P4.out j (.int .i64 (placeS W3 W1[j])) (by rw [List.getElem?_map, List.getElem?_map, List.getElem?_eq_getElem hjl]; rfl)
            obtain ⟨g5, f5, rfl, hc5⟩ := P5.out j (tv W1[j]) (by rw [List.getElem?_map, List.getElem?_eq_getElem hjl]; rfl)
            have HMV := Lib.hid (fun (p : Addr) (v : Value) (h : w7.cell? p = some v) (z : Later Ext wr.drew) => (show z.val.cell? p = some v from ((Ext.trans HX.out (Ext.trans (Ext.drew wr) z.ext)).cell (lt_of_cell h)).trans h))
            rw [place_self HRS.out hjl] at hc1
            generalize W1[j] = t at hc2 hc4 hc5
            have hz1 := fun z => HMV.out _ _ hc1 z
            have hz2 := fun z => HMV.out _ _ hc2 z
            have hz4 := fun z => HMV.out _ _ hc4 z
            have hz5 := fun z => HMV.out _ _ hc5 z
            have hjj : ((j : Int) == (j : Int)) = true := beq_self_eq_true _
            have htt : (t == t) = true := beq_self_eq_true _
            have hpp : (placeS W3 t == placeS W3 t) = true := beq_self_eq_true _
            by_cases hin : t ∈ W2
            · have hq := placeN_get hin
              obtain ⟨hqM, hWq⟩ := List.getElem?_eq_some_iff.1 hq
              obtain ⟨g6, f6, rfl, hc6⟩ := P6.out (placeN W2 t) (tv t) (by rw [List.getElem?_map, hq]; rfl)
              obtain ⟨g3, f3, rfl, hc3⟩ := P3.out (placeN W2 t) (.int .i64 (placeS W3 t)) (by rw [List.getElem?_map, List.getElem?_map, hq]; rfl)
              have hz6 := fun z => HMV.out _ _ hc6 z
              have hz3 := fun z => HMV.out _ _ hc3 z
              have hps : placeS W2 t = ((placeN W2 t : Nat) : Int) := if_pos hin
              rw [hps] at hz2
              have hqM2 : placeN W2 t < M := by have := HM.out; omega
              clear hc1 hc2 hc3 hc4 hc5 hc6 hq hqM hWq hps hin
              unfold tv at hz5 hz6
              generalize placeN W2 t = q at hz2 hz3 hz6 hqM2
              generalize placeS W3 t = p at hz3 hz4 hpp
              have d2 : decide (M ≤ q) = false := decide_eq_false (by omega)
              have d3 : decide ((0 : Int) ≤ (q : Int)) = true := decide_eq_true (by omega)
              go_wp2_with fail
              refine wp_region_segs Ext Ext.keeps [(List.range 50, none)] (by kernel_rfl) (by kernel_rfl) (fun c a a' w e h => (by exact ⟨e ▸ h.1, h.2⟩)) ?_
              simp only [List.range, List.range.loop, pickSegs, pickOps, List.map_cons, List.map_nil, Option.map_none, Option.getD_some, List.getElem?_toArray, List.getElem?_cons_zero, List.getElem?_cons_succ]
              refine wpSegs_none ?_
              repeat go_big_quiet_step (fail)
              refine wpQuiet_nil (wpSegs_nil ?_)
              clear hz1 hz2 hz3 hz4 hz5 hz6
              go_wp2_with fail
              go_roundw
              case rel => exact ⟨j + 1, by omega, by go_num, Ext.trans HX.out (Ext.drew wr)⟩
              case measure => simp [intOf]; omega
            · have hps : placeS W2 t = -1 := if_neg hin
              rw [hps] at hz2
              clear hc1 hc2 hc4 hc5 hps hin
              unfold tv at hz5
              generalize placeS W3 t = p at hz4 hpp
              have d2 : decide ((M : Int) ≤ -1) = false := decide_eq_false (by omega)
              have d3 : decide ((0 : Int) ≤ -1) = false := by decide
              go_wp2_with fail
              refine wp_region_segs Ext Ext.keeps [(List.range 50, none)] (by kernel_rfl) (by kernel_rfl) (fun c a a' w e h => (by exact ⟨e ▸ h.1, h.2⟩)) ?_
              simp only [List.range, List.range.loop, pickSegs, pickOps, List.map_cons, List.map_nil, Option.map_none, Option.getD_some, List.getElem?_toArray, List.getElem?_cons_zero, List.getElem?_cons_succ]
              refine wpSegs_none ?_
              repeat go_big_quiet_step (fail)
              refine wpQuiet_nil (wpSegs_nil ?_)
              clear hz1 hz2 hz4 hz5
              go_wp2_with fail
              go_roundw
              case rel => exact ⟨j + 1, by omega, by go_num, Ext.trans HX.out (Ext.drew wr)⟩
              case measure => simp [intOf]; omega
          · go_wp2_with fail
            go_ret
            exact ⟨rfl, Ext.trans HX7.out HX.out⟩

end Go.Proofs.Ytcaidgdnneomaaa
