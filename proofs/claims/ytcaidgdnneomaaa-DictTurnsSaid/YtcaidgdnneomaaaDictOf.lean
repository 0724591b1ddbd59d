/-
  The walks of the laws DictOf, DictFinds, DictPuts.
-/
import Derived.Test.YtcaidgdnneomaaaDictShown
namespace Go.Proofs.Ytcaidgdnneomaaa
open Go.ChangeAt Go.RowKit Go.BigFrame

/-- Texts that came in, as lists of bytes. -/
theorem texts_in {w : World} {u : Value} {ss : List ByteArray} (h : RdV w u (ss.map Value.string)) : ∃ l : List T8, RdV w u (l.map tv) ∧ l = ss.map (·.data.toList) := ⟨_, by rw [tv_map]; exact h, rfl⟩
theorem few_in {w : World} {l : List T8} : (fewW l).length ≤ 100000 ∧ (∀ t ∈ fewW l, t.length ≤ 1000000) ∧ (fewW l).length ≤ 300 ∧ (∀ t ∈ fewW l, t.length ≤ 1100) ∧ w = w := by
  obtain ⟨h1, h2⟩ := fewW_ok l
  exact ⟨by omega, fun t ht => by have := h2 t ht; omega, h1, h2, rfl⟩
theorem ofS10_small (l : List T8) (hl : l.length ≤ 100000) : (ofS10 l).2.1.length ≤ 1000000 := by
  by_cases h : okTexts l
  · rw [ofS10_ok h, List.length_map]; omega
  · rw [ofS10_no h]; exact Nat.zero_le _

set_option maxRecDepth 100000 in
set_option maxHeartbeats 1000000 in
theorem dictOf_walk (u : Value) (ss : List ByteArray) (w : World) (hu : RdV w u (ss.map Value.string)) (_hf : ∀ s ∈ ss, s.size ≤ maxLen) :
    Calls Try.prog 3 #[u] w fun e w' => e = .returned (.bool true) ∧ Below w.heap.size w w' := by
  obtain ⟨l, hl, -⟩ := texts_in hu
  have HFEW := Lib.hid (fun W (h : Ext w W) => few10_any u l W (hl.mono h))
  have HOK := Lib.hid (few_in (w := w) (l := l))
  generalize fewW l = x at HFEW HOK
  obtain ⟨ao, cap, rfl, -, -, -⟩ := rd_words hl
  generalize l.length = N at HFEW ⊢
  clear hu hl
  go_enter Try.func3, Try.ntmps3
  go_wp2_with fail
  refine (HFEW.out w (Ext.keeps.refl _)).mono ?_
  rintro e w1 ⟨⟨v, rfl, hv⟩, rfl⟩
  go_wp2_with fail
  refine (pOf10_any v x w hv HOK.out.1 HOK.out.2.1).mono ?_
  rintro e w1 ⟨⟨v1, p1, rfl, hv1, hp1⟩, hx1⟩
  have HV1 := Lib.hid hv1
  have HP1 := Lib.hid hp1
  have HX1 := Lib.hid hx1
  clear hv hv1 hp1 hx1
  go_wp2_with fail
  refine (HFEW.out w1 HX1.out).mono ?_
  rintro e w2 ⟨⟨v2, rfl, hv2⟩, rfl⟩
  go_wp2_with fail
  refine (refOfW_any v2 x w1 hv2).mono ?_
  rintro e w2 ⟨⟨v3, p3, rfl, hv3, hp3⟩, hx2⟩
  have HV3 := Lib.hid hv3
  have HP3 := Lib.hid hp3
  have HV1a := Lib.hid (HV1.out.mono hx2)
  have HP1a := Lib.hid (HP1.out.mono hx2)
  have HX2 := Lib.hid (Ext.trans HX1.out hx2)
  have HSM := Lib.hid (ofS10_small x HOK.out.1)
  clear hv2 hv3 hp3 hx2
  generalize ofS10 x = R at HV1a HP1a HV3 HP3 HSM ⊢
  obtain ⟨R1, R2, R3⟩ := R
  simp only at HV1a HP1a HV3 HP3 HSM ⊢
  have q3 : (R3 == R3) = true := beq_self_eq_true _
  go_wp2_with fail
  refine (shown10_any w2).mono ?_
  rintro e w3 ⟨rfl, hx3⟩
  have HX3 := Lib.hid hx3
  clear hx3
  go_wp2_with fail
  refine (refSameW_any v1 v3 R1 R1 w3 (HV1a.out.mono HX3.out) (HV3.out.mono HX3.out)).mono ?_
  rintro e w4 ⟨rfl, hx4⟩
  rw [decide_eq_true rfl]
  have HX4 := Lib.hid (Ext.trans HX3.out hx4)
  clear hx4
  go_wp2_with fail
  refine (refInts_any p1 p3 R2 R2 w4 (HP1a.out.mono HX4.out) (HP3.out.mono HX4.out) HSM.out HSM.out).mono ?_
  rintro e w5 ⟨rfl, hx5⟩
  rw [decide_eq_true rfl]
  have HX5 := Lib.hid (Ext.trans HX2.out (Ext.trans HX4.out hx5))
  clear hx5
  go_wp2_with fail
  go_ret
  exact ⟨by simp, HX5.out⟩

set_option maxRecDepth 100000 in
set_option maxHeartbeats 1000000 in
theorem dictFinds_walk (u : Value) (ss : List ByteArray) (sb : ByteArray) (w : World) (hu : RdV w u (ss.map Value.string)) (_hf : ∀ s ∈ ss, s.size ≤ maxLen) (_hs : sb.size ≤ maxLen) :
    Calls Try.prog 4 #[u, .string sb] w fun e w' => e = .returned (.bool true) ∧ Below w.heap.size w w' := by
  obtain ⟨l, hl, -⟩ := texts_in hu
  obtain ⟨s, rfl⟩ : ∃ s : T8, sb = ⟨s.toArray⟩ := ⟨sb.data.toList, rfl⟩
  have HFEW := Lib.hid (fun W (h : Ext w W) => few10_any u l W (hl.mono h))
  have HOK := Lib.hid (few_in (w := w) (l := l))
  have HONE := Lib.hid (fun W => one10_any s W)
  have HS := Lib.hid (show (s.take 1100).length ≤ 1100 by rw [List.length_take]; omega)
  generalize fewW l = x at HFEW HOK
  generalize s.take 1100 = t at HONE HS
  obtain ⟨ao, cap, rfl, -, -, -⟩ := rd_words hl
  generalize l.length = N at HFEW ⊢
  clear hu hl
  have HB := Lib.hid (show ∀ y ∈ x, y.length ≤ 4611686018427387904 from fun y hy => by have := HOK.out.2.1 y hy; omega)
  go_enter Try.func4, Try.ntmps4
  go_wp2_with fail
  refine (HFEW.out w (Ext.keeps.refl _)).mono ?_
  rintro e w1 ⟨⟨v, rfl, hv⟩, rfl⟩
  have HV := Lib.hid (fun W (h : Ext w W) => hv.mono h)
  clear hv
  go_wp2_with fail
  refine (HONE.out w).mono ?_
  rintro e w1 ⟨rfl, rfl⟩
  go_wp2_with fail
  refine (pFind10_any v x t w (HV.out _ (Ext.keeps.refl _)) HOK.out.1 HOK.out.2.1 (by have := HS.out; omega)).mono ?_
  rintro e w1 ⟨rfl, hx1⟩
  have HX1 := Lib.hid hx1
  clear hx1
  go_wp2_with fail
  refine (refFind_any v x t w1 (HV.out _ HX1.out)).mono ?_
  rintro e w2 ⟨rfl, hx2⟩
  have HX2 := Lib.hid (Ext.trans HX1.out hx2)
  clear hx2
  generalize findS x t = F
  obtain ⟨F1, F2⟩ := F
  have q1 : (F1 == F1) = true := beq_self_eq_true _
  have q2 : (F2 == F2) = true := beq_self_eq_true _
  go_wp2_with fail
  refine (shown10_any w2).mono ?_
  rintro e w3 ⟨rfl, hx3⟩
  have HX3 := Lib.hid (Ext.trans HX2.out hx3)
  clear hx3
  go_wp2_with fail
  refine (pRight10_any v x w3 (HV.out _ HX3.out) HOK.out.1 HOK.out.2.1).mono ?_
  rintro e w4 ⟨rfl, hx4⟩
  have HX4 := Lib.hid (Ext.trans HX3.out hx4)
  clear hx4
  go_wp2_with fail
  refine (refRightW_any v x w4 (HV.out _ HX4.out)).mono ?_
  rintro e w5 ⟨rfl, hx5⟩
  have HX5 := Lib.hid (Ext.trans HX4.out hx5)
  clear hx5
  have q3 : (rightW x == rightW x) = true := beq_self_eq_true _
  generalize rightW x = rx at q3 ⊢
  go_wp2_with fail
  refine (pFrom10_any v x t w5 (HV.out _ HX5.out) HOK.out.1 HOK.out.2.1 (by have := HS.out; omega)).mono ?_
  rintro e w6 ⟨rfl, hx6⟩
  have HX6 := Lib.hid (Ext.trans HX5.out hx6)
  clear hx6
  go_wp2_with fail
  refine (refFrom_any v x t w6 (HV.out _ HX6.out)).mono ?_
  rintro e w7 ⟨rfl, hx7⟩
  have HX7 := Lib.hid (Ext.trans HX6.out hx7)
  clear hx7
  have q4 : (fromS x t == fromS x t) = true := beq_self_eq_true _
  generalize fromS x t = fx at q4 ⊢
  go_wp2_with fail
  refine (pBehind10_any v x t w7 (HV.out _ HX7.out) HOK.out.1 HOK.out.2.1 (by have := HS.out; omega)).mono ?_
  rintro e w8 ⟨rfl, hx8⟩
  have HX8 := Lib.hid (Ext.trans HX7.out hx8)
  clear hx8
  go_wp2_with fail
  refine (refBehind_any v x t w8 (HV.out _ HX8.out) HB.out (by have := HS.out; omega)).mono ?_
  rintro e w9 ⟨rfl, hx9⟩
  have HX9 := Lib.hid (Ext.trans HX8.out hx9)
  clear hx9
  have q5 : (behindS x t == behindS x t) = true := beq_self_eq_true _
  generalize behindS x t = bx at q5 ⊢
  go_wp2_with fail
  go_ret
  exact ⟨by simp, HX9.out⟩

set_option maxRecDepth 100000 in
set_option maxHeartbeats 2000000 in
theorem dictPuts_walk (u : Value) (ss : List ByteArray) (u2 : Value) (ss2 : List ByteArray) (u3 : Value) (b : List UInt8) (w : World) (hu : RdV w u (ss.map Value.string)) (_hf : ∀ s ∈ ss, s.size ≤ maxLen) (hu2 : RdV w u2 (ss2.map Value.string)) (_hf2 : ∀ s ∈ ss2, s.size ≤ maxLen) (hu3 : Rd w u3 b) :
    Calls Try.prog 5 #[u, u2, u3] w fun e w' => e = .returned (.bool true) ∧ Below w.heap.size w w' := by
  obtain ⟨l, hl, -⟩ := texts_in hu
  obtain ⟨m, hm, -⟩ := texts_in hu2
  have HFEW := Lib.hid (fun W (h : Ext w W) => few10_any u l W (hl.mono h))
  have HFEW2 := Lib.hid (fun W (h : Ext w W) => few10_any u2 m W (hm.mono h))
  have HOK := Lib.hid (few_in (w := w) (l := l))
  have HOK2 := Lib.hid (few_in (w := w) (l := m))
  generalize fewW l = x at HFEW HOK
  generalize fewW m = y at HFEW2 HOK2
  obtain ⟨ao, cap, rfl, -, -, -⟩ := rd_words hl
  obtain ⟨bo, bcap, rfl, -, -, -⟩ := rd_words hm
  have HU3 := Lib.hid hu3
  obtain ⟨co, ccap, rfl, h3, h4⟩ := hu3.shape
  unfold maxLen at h4
  obtain ⟨J, hj1, hj2, hj3, hj4, -⟩ := min_firstN b.length 3000
  have HB := Lib.hid (show Rd w (.slice co J ccap) (b.take J) by have := rdV_first HU3.out J hj3; rwa [← List.map_take] at this)
  have HBN := Lib.hid (show (b.take J).length ≤ 3000 by rw [List.length_take]; omega)
  generalize b.take J = bs at HB HBN
  generalize b.length = N3 at h3 hj1 hj2 hj3 ⊢
  have hJc : J ≤ ccap := by omega
  simp only [Int.cast_ofNat_Int] at hj1 hj2
  generalize l.length = N at HFEW ⊢
  generalize m.length = M at HFEW2 ⊢
  clear hu hl hu2 hm hu3 HU3
  go_enter Try.func5, Try.ntmps5
  go_wp2_with fail
  refine (shown10_any w).mono ?_
  rintro e w1 ⟨rfl, hx1⟩
  have HX1 := Lib.hid hx1
  clear hx1
  go_wp2_with fail
  refine (HFEW.out w1 HX1.out).mono ?_
  rintro e w2 ⟨⟨v, rfl, hv⟩, rfl⟩
  have HV := Lib.hid (fun W (h : Ext w1 W) => hv.mono h)
  clear hv
  go_wp2_with fail
  refine (HFEW2.out w1 HX1.out).mono ?_
  rintro e w2 ⟨⟨v2, rfl, hv2⟩, rfl⟩
  have HV2 := Lib.hid (fun W (h : Ext w1 W) => hv2.mono h)
  clear hv2
  go_wp2_with fail
  refine (pPut10_any v x w1 (HV.out _ (Ext.keeps.refl _)) HOK.out.1 HOK.out.2.1).mono ?_
  rintro e w2 ⟨a1, rfl, ho2, hx2⟩
  have HA1 := Lib.hid (show Rd w2 a1 (putS10 x).1 from RdV.of_owns ho2)
  have HX2 := Lib.hid hx2
  clear ho2 hx2
  go_wp2_with fail
  refine (refPutW_any v x w2 (HV.out _ HX2.out)).mono ?_
  rintro e w3 ⟨c1, rfl, ho3, hx3⟩
  have HC1 := Lib.hid (show Rd w3 c1 (putS10 x).1 from RdV.of_owns ho3)
  have HA1b := Lib.hid (HA1.out.mono hx3)
  have HX3 := Lib.hid (Ext.trans HX2.out hx3)
  clear ho3 hx3
  generalize putS10 x = P at HA1b HC1
  obtain ⟨P1, P2⟩ := P
  have q1 : (P1 == P1) = true := beq_self_eq_true _
  have q2 : (P2 == P2) = true := beq_self_eq_true _
  go_wp2_with fail
  refine (pTake10_any _ bs w3 (HB.out.mono (Ext.trans HX1.out HX3.out)) (by have := HBN.out; omega)).mono ?_
  rintro e w4 ⟨⟨t1, r1, rfl, ht1, hr1⟩, hx4⟩
  have HT1 := Lib.hid ht1
  have HR1 := Lib.hid hr1
  have HX4 := Lib.hid hx4
  clear ht1 hr1 hx4
  go_wp2_with fail
  refine (refTakeW_any _ bs w4 (HB.out.mono (Ext.trans HX1.out (Ext.trans HX3.out HX4.out))) (by have := HBN.out; omega)).mono ?_
  rintro e w5 ⟨⟨t2, r2, rfl, ht2, hr2⟩, hx5⟩
  have HT2 := Lib.hid ht2
  have HR2 := Lib.hid hr2
  have HT1b := Lib.hid (HT1.out.mono hx5)
  have HR1b := Lib.hid (HR1.out.mono hx5)
  have HX5 := Lib.hid (Ext.trans HX4.out hx5)
  clear ht2 hr2 hx5
  generalize takeS10 bs = T at HT1b HR1b HT2 HR2
  obtain ⟨T1, T2, T3⟩ := T
  have q3 : (T2 == T2) = true := beq_self_eq_true _
  have q4 : (T3 == T3) = true := beq_self_eq_true _
  go_wp2_with fail
  refine (pTurn10_any v v2 x y w5 (HV.out _ (Ext.trans HX3.out HX5.out)) (HV2.out _ (Ext.trans HX3.out HX5.out)) HOK.out.1 HOK2.out.1 HOK.out.2.1 HOK2.out.2.1).mono ?_
  rintro e w6 ⟨l1, rfl, ho6, hx6⟩
  have HL1 := Lib.hid (RdV.of_owns ho6)
  have HX6 := Lib.hid hx6
  clear ho6 hx6
  go_wp2_with fail
  refine (refTurn_any v v2 x y w6 (HV.out _ (Ext.trans HX3.out (Ext.trans HX5.out HX6.out))) (HV2.out _ (Ext.trans HX3.out (Ext.trans HX5.out HX6.out)))).mono ?_
  rintro e w7 ⟨l2, rfl, ho7, hx7⟩
  have HL2 := Lib.hid (RdV.of_owns ho7)
  have HL1b := Lib.hid (HL1.out.mono hx7)
  have HX7 := Lib.hid (Ext.trans HX6.out hx7)
  have HTS := Lib.hid (show (turnS x y).1.length ≤ 1000000 by
    unfold turnS
    split
    · rw [List.length_map]; have := HOK.out.1; omega
    · exact Nat.zero_le _)
  clear ho7 hx7
  generalize turnS x y = G at HL1b HL2 HTS
  obtain ⟨G1, G2⟩ := G
  have q5 : (G2 == G2) = true := beq_self_eq_true _
  have hs1 := str_of (HA1b.out.mono (Ext.trans HX5.out HX7.out))
  have hs2 := str_of (HC1.out.mono (Ext.trans HX5.out HX7.out))
  go_wp2_with fail
  refine (refSameW_any t1 t2 T1 T1 w7 (HT1b.out.mono HX7.out) (HT2.out.mono HX7.out)).mono ?_
  rintro e w8 ⟨rfl, hx8⟩
  rw [decide_eq_true rfl]
  have HX8 := Lib.hid (Ext.trans HX7.out hx8)
  have HL1c := Lib.hid (HL1b.out.mono hx8)
  have HL2c := Lib.hid (HL2.out.mono hx8)
  have hs3 := str_of (HR1b.out.mono HX8.out)
  have hs4 := str_of (HR2.out.mono HX8.out)
  clear hx8 hs1 hs2
  go_wp2_with fail
  refine (refInts_any l1 l2 G1 G1 w8 HL1c.out HL2c.out HTS.out HTS.out).mono ?_
  rintro e w9 ⟨rfl, hx9⟩
  rw [decide_eq_true rfl]
  have HX9 := Lib.hid (Ext.trans HX1.out (Ext.trans HX3.out (Ext.trans HX5.out (Ext.trans HX8.out hx9))))
  clear hx9
  go_wp2_with fail
  go_ret
  exact ⟨by simp, HX9.out⟩

end Go.Proofs.Ytcaidgdnneomaaa
