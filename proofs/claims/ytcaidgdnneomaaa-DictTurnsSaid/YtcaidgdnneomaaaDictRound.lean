/-
  The walk of the law DictRound.
-/
import Derived.Test.YtcaidgdnneomaaaDictBack
namespace Go.Proofs.Ytcaidgdnneomaaa
open Go.ChangeAt Go.RowKit Go.BigFrame

theorem takeS10_small (b : T8) : (takeS10 b).1.length ≤ 100000 ∧ ∀ t ∈ (takeS10 b).1, t.length ≤ 1000000 := by
  rcases takeW_two b with h | ⟨ws, r, hp, h⟩
  · rw [h]; exact ⟨Nat.zero_le _, fun t ht => (by cases ht)⟩
  · rw [h]; exact ⟨by have := hp.1.1; show ws.length ≤ _; omega, fun t ht => by have := hp.1.2.1 t ht; omega⟩

set_option maxRecDepth 100000 in
set_option maxHeartbeats 4000000 in
theorem dictRound_walk (u : Value) (ss : List ByteArray) (u3 : Value) (b : List UInt8) (w : World) (hu : RdV w u (ss.map Value.string)) (_hf : ∀ s ∈ ss, s.size ≤ maxLen) (hu3 : Rd w u3 b) :
    Calls Try.prog 7 #[u, u3] w fun e w' => e = .returned (.bool true) ∧ Below w.heap.size w w' := by
  obtain ⟨i1, hi1, hy0, hy1, hy2⟩ := info_parts Try.info5
  obtain ⟨l, hl, -⟩ := texts_in hu
  have HFEW := Lib.hid (fun W (h : Ext w W) => few10_any u l W (hl.mono h))
  have HOK := Lib.hid (few_in (w := w) (l := l))
  generalize fewW l = x at HFEW HOK
  obtain ⟨ao, cap, rfl, -, -, -⟩ := rd_words hl
  have HU3 := Lib.hid hu3
  obtain ⟨co, ccap, rfl, h3, h4⟩ := hu3.shape
  unfold maxLen at h4
  obtain ⟨J, hj1, hj2, hj3, hj4, -⟩ := min_firstN b.length 3000
  have HB := Lib.hid (show Rd w (.slice co J ccap) (b.take J) by have := rdV_first HU3.out J hj3; rwa [← List.map_take] at this)
  have HBL := Lib.hid (show (b.take J).length = J by rw [List.length_take]; omega)
  generalize b.take J = y at HB HBL
  generalize b.length = N3 at h3 hj1 hj2 hj3 ⊢
  have hJc : J ≤ ccap := by omega
  simp only [Int.cast_ofNat_Int] at hj1 hj2
  generalize l.length = N at HFEW ⊢
  clear hu hl hu3 HU3
  have HTK := Lib.hid (takeW_two y)
  have HTS := Lib.hid (takeS10_small y)
  have HPL := Lib.hid (putS10_len x)
  go_enter Try.func7, Try.ntmps7
  go_wp2_with fail
  refine (shown10_any w).mono ?_
  rintro e w1 ⟨rfl, hx1⟩
  have HX1 := Lib.hid hx1
  clear hx1
  go_wp2_with fail
  refine (HFEW.out w1 HX1.out).mono ?_
  rintro e w2 ⟨⟨v, rfl, hv⟩, rfl⟩
  have HV := Lib.hid (fun W (h : Ext w1 W) => hv.mono h)
  clear hv
  go_wp2_with fail
  refine (pPut10_any v x w1 (HV.out _ (Ext.keeps.refl _)) HOK.out.1 HOK.out.2.1).mono ?_
  rintro e w2 ⟨a1, rfl, ho2, hx2⟩
  have HA1 := Lib.hid (show Rd w2 a1 (putS10 x).1 from RdV.of_owns ho2)
  have HX2 := Lib.hid (Ext.trans HX1.out hx2)
  clear ho2 hx2
  cases hr : rightW x with
  | true =>
    have HPA := Lib.hid (putS10_ok hr)
    have HRX := Lib.hid hr
    rw [HPA.out] at HA1 HPL ⊢
    simp only at HA1 HPL ⊢
    clear hr
    have HIP := Lib.hid (show takeS10 (putW x ++ y) = (x, y, 0) from takeW_yes ⟨rightW_iff.1 HRX.out, rfl⟩)
    generalize putW x = A at HA1 HPL HIP
    have HOCA := Lib.hid (bv_oneCell A)
    have HOCY := Lib.hid (bv_oneCell y)
    have HLA := Lib.hid (show (A.map bv).length = A.length from List.length_map _)
    have HLY := Lib.hid (show (y.map bv).length = J from by rw [List.length_map, HBL.out])
    have HA2 := Lib.hid (HA1.out.mono (ext_new w2 (.cells #[] 5)))
    have HY2 := Lib.hid (fun W (h : Ext w2 W) => HB.out.mono (Ext.trans HX2.out h))
    have hpl := HPL.out
    go_wp2_with (at_builtin; first
      | (refine wpList_append_rd rfl (.tmp 34) (.tmp 35) 37 rfl w2.heap.size 5 i1 (.int .u8 0) 1 Try.underlying37 hi1 hy0 hy1 hy2 rfl _ _ _ rfl HO3.out _ _ rfl (HY2.out _ HE3.out) HOCY.out (by rw [HLA.out, HLY.out]; unfold maxLen; omega) (by rw [HLA.out, HLY.out]; omega) HS3.out ?_; intro v4 w4 hown4 hgrow4; have HO4 := Lib.hid hown4; have HE4 := Lib.hid ((show Below w2.heap.size w2 w3 from HE3.out).trans ((Below.refl w2.heap.size w3).grown hgrow4 HS3.out (fun k hk => (HO3.out.lt k hk).1))); clear hown4 hgrow4)
      | (go_must (refine wpList_append_rd rfl (.tmp 32) (.tmp 33) 37 rfl w2.heap.size 5 i1 (.int .u8 0) 1 Try.underlying37 hi1 hy0 hy1 hy2 rfl _ _ _ rfl (empty_owned w2) _ _ rfl HA2.out HOCA.out (by rw [HLA.out]; unfold maxLen; omega) (by rw [HLA.out]; omega) (by simp) ?_); intro v3 w3 hown3 hgrow3; have HO3 := Lib.hid hown3; have HE3 := Lib.hid (show Ext w2 w3 from (ext_new w2 _).grown hgrow3 (by simp) (fun k hk => by cases hk; exact Nat.le_refl _)); have HS3 := Lib.hid HE3.out.size; clear hown3 hgrow3))
    have HR4 := Lib.hid (show Rd w4 v4 (A ++ y) from by
      have h := RdV.of_owns HO4.out
      rw [List.nil_append, ← List.map_append] at h
      exact h)
    refine (pTake10_any v4 (A ++ y) w4 HR4.out (by rw [List.length_append, HBL.out]; omega)).mono ?_
    rintro e w5 ⟨⟨t1, r1, rfl, ht1, hr1⟩, hx5⟩
    rw [HIP.out] at ht1 hr1 ⊢
    simp only at ht1 hr1 ⊢
    have HT1 := Lib.hid ht1
    have HR1 := Lib.hid hr1
    have HX5 := Lib.hid (Ext.trans HX2.out (Ext.trans (show Ext w2 w4 from HE4.out) hx5))
    clear ht1 hr1 hx5
    go_wp2_with fail
    refine (HFEW.out w5 HX5.out).mono ?_
    rintro e w6 ⟨⟨v6, rfl, hv6⟩, rfl⟩
    have HV6 := Lib.hid hv6
    clear hv6
    go_wp2_with fail
    refine (refSameW_any t1 v6 x x w5 HT1.out HV6.out).mono ?_
    rintro e w6 ⟨rfl, hx6⟩
    rw [decide_eq_true rfl]
    have HXC := Lib.hid (Ext.trans HX5.out hx6)
    have hs1 := str_of (HR1.out.mono hx6)
    have hs2 := str_of (HB.out.mono HXC.out)
    have hyy : (y == y) = true := beq_self_eq_true _
    clear hx6
    go_wp2_with fail
    clear hs1 hs2
    refine (pTake10_any _ y w6 (HB.out.mono HXC.out) (by rw [HBL.out]; omega)).mono ?_
    rintro e w7 ⟨⟨t7, r7, rfl, ht7, hr7⟩, hx7⟩
    have HX7 := Lib.hid (Ext.trans HXC.out hx7)
    have HT7 := Lib.hid ht7
    have HR7 := Lib.hid hr7
    clear hx7
    obtain ⟨to7, tc7, rfl, -, -, -⟩ := rd_words ht7
    obtain ⟨ro7, rc7, rfl, -, -⟩ := hr7.shape
    clear ht7 hr7
    obtain ⟨ws, r, f, hT⟩ : ∃ ws r f, takeS10 y = (ws, r, f) := ⟨_, _, _, rfl⟩
    rw [hT] at HT7 HR7 HTK HTS ⊢
    simp only at HT7 HR7 HTK HTS ⊢
    clear hT
    go_wp2_with fail
    refine (pPut10_any _ ws w7 HT7.out HTS.out.1 HTS.out.2).mono ?_
    rintro e w8 ⟨c8, rfl, ho8, hx8⟩
    have HX8 := Lib.hid (Ext.trans HX7.out hx8)
    have HC8 := Lib.hid (show Rd w8 c8 (putS10 ws).1 from RdV.of_owns ho8)
    have HR8 := Lib.hid (HR7.out.mono hx8)
    clear ho8 hx8
    rcases HTK.out with hno | ⟨ws', r', hp, hyes⟩
    · simp only [Prod.mk.injEq] at hno
      obtain ⟨rfl, rfl, rfl⟩ := hno
      generalize putS10 [] = C at HC8 ⊢
      obtain ⟨C1, C2⟩ := C
      go_wp2_with fail
      refine (HFEW.out w8 HX8.out).mono ?_
      rintro e w9 ⟨⟨v9, rfl, hv9⟩, rfl⟩
      have HV9 := Lib.hid hv9
      clear hv9
      go_wp2_with fail
      refine (pRight10_any v9 x w8 HV9.out HOK.out.1 HOK.out.2.1).mono ?_
      rintro e w10 ⟨rfl, hx10⟩
      rw [HRX.out]
      have HX10 := Lib.hid (Ext.trans HX8.out hx10)
      clear hx10
      go_wp2_with fail
      go_ret
      exact ⟨by simp, HX10.out⟩
    · simp only [Prod.mk.injEq] at hyes
      obtain ⟨rfl, rfl, rfl⟩ := hyes
      have hput := putS10_ok (rightW_iff.2 hp.1)
      rw [hput] at HC8 ⊢
      simp only at HC8 ⊢
      have hjoin : (⟨(putW ws).toArray⟩ : ByteArray) ++ ⟨r.toArray⟩ = ⟨y.toArray⟩ := by rw [tjoin, ← hp.2]
      have hwl := putW_len hp.1
      have hrl : r.length ≤ 3000 := by
        have := congrArg List.length hp.2
        rw [List.length_append, HBL.out] at this
        omega
      have hyy2 : (y == y) = true := beq_self_eq_true _
      generalize putW ws = C at HC8 hjoin hwl
      clear hput hp
      go_wp2_with fail
      refine (HFEW.out w8 HX8.out).mono ?_
      rintro e w9 ⟨⟨v9, rfl, hv9⟩, rfl⟩
      have HV9 := Lib.hid hv9
      clear hv9
      go_wp2_with fail
      refine (pRight10_any v9 x w8 HV9.out HOK.out.1 HOK.out.2.1).mono ?_
      rintro e w10 ⟨rfl, hx10⟩
      rw [HRX.out]
      have HX10 := Lib.hid (Ext.trans HX8.out hx10)
      have hs3 := str_of (HC8.out.mono hx10)
      have hs4 := str_of (HR8.out.mono hx10)
      have hs5 := str_of (HB.out.mono HX10.out)
      clear hx10
      go_wp2_with fail
      go_ret
      exact ⟨by simp, HX10.out⟩
  | false =>
    have HPA := Lib.hid (putS10_no hr)
    have HRX := Lib.hid hr
    rw [HPA.out] at HA1 HPL ⊢
    simp only at HA1 HPL ⊢
    clear hr
    have HXC := Lib.hid HX2.out
    go_wp2_with fail
    refine (pTake10_any _ y w2 (HB.out.mono HXC.out) (by rw [HBL.out]; omega)).mono ?_
    rintro e w7 ⟨⟨t7, r7, rfl, ht7, hr7⟩, hx7⟩
    have HX7 := Lib.hid (Ext.trans HXC.out hx7)
    have HT7 := Lib.hid ht7
    have HR7 := Lib.hid hr7
    clear hx7
    obtain ⟨to7, tc7, rfl, -, -, -⟩ := rd_words ht7
    obtain ⟨ro7, rc7, rfl, -, -⟩ := hr7.shape
    clear ht7 hr7
    obtain ⟨ws, r, f, hT⟩ : ∃ ws r f, takeS10 y = (ws, r, f) := ⟨_, _, _, rfl⟩
    rw [hT] at HT7 HR7 HTK HTS ⊢
    simp only at HT7 HR7 HTK HTS ⊢
    clear hT
    go_wp2_with fail
    refine (pPut10_any _ ws w7 HT7.out HTS.out.1 HTS.out.2).mono ?_
    rintro e w8 ⟨c8, rfl, ho8, hx8⟩
    have HX8 := Lib.hid (Ext.trans HX7.out hx8)
    have HC8 := Lib.hid (show Rd w8 c8 (putS10 ws).1 from RdV.of_owns ho8)
    have HR8 := Lib.hid (HR7.out.mono hx8)
    clear ho8 hx8
    rcases HTK.out with hno | ⟨ws', r', hp, hyes⟩
    · simp only [Prod.mk.injEq] at hno
      obtain ⟨rfl, rfl, rfl⟩ := hno
      generalize putS10 [] = C at HC8 ⊢
      obtain ⟨C1, C2⟩ := C
      go_wp2_with fail
      refine (HFEW.out w8 HX8.out).mono ?_
      rintro e w9 ⟨⟨v9, rfl, hv9⟩, rfl⟩
      have HV9 := Lib.hid hv9
      clear hv9
      go_wp2_with fail
      refine (pRight10_any v9 x w8 HV9.out HOK.out.1 HOK.out.2.1).mono ?_
      rintro e w10 ⟨rfl, hx10⟩
      rw [HRX.out]
      have HX10 := Lib.hid (Ext.trans HX8.out hx10)
      clear hx10
      go_wp2_with fail
      go_ret
      exact ⟨by simp, HX10.out⟩
    · simp only [Prod.mk.injEq] at hyes
      obtain ⟨rfl, rfl, rfl⟩ := hyes
      have hput := putS10_ok (rightW_iff.2 hp.1)
      rw [hput] at HC8 ⊢
      simp only at HC8 ⊢
      have hjoin : (⟨(putW ws).toArray⟩ : ByteArray) ++ ⟨r.toArray⟩ = ⟨y.toArray⟩ := by rw [tjoin, ← hp.2]
      have hwl := putW_len hp.1
      have hrl : r.length ≤ 3000 := by
        have := congrArg List.length hp.2
        rw [List.length_append, HBL.out] at this
        omega
      have hyy2 : (y == y) = true := beq_self_eq_true _
      generalize putW ws = C at HC8 hjoin hwl
      clear hput hp
      go_wp2_with fail
      refine (HFEW.out w8 HX8.out).mono ?_
      rintro e w9 ⟨⟨v9, rfl, hv9⟩, rfl⟩
      have HV9 := Lib.hid hv9
      clear hv9
      go_wp2_with fail
      refine (pRight10_any v9 x w8 HV9.out HOK.out.1 HOK.out.2.1).mono ?_
      rintro e w10 ⟨rfl, hx10⟩
      rw [HRX.out]
      have HX10 := Lib.hid (Ext.trans HX8.out hx10)
      have hs3 := str_of (HC8.out.mono hx10)
      have hs4 := str_of (HR8.out.mono hx10)
      have hs5 := str_of (HB.out.mono HX10.out)
      clear hx10
      go_wp2_with fail
      go_ret
      exact ⟨by simp, HX10.out⟩

end Go.Proofs.Ytcaidgdnneomaaa
