/-
  The walk of the law LikeBegins.
-/
import Derived.Test.YtmlaedhmgkcdpaaDoorLikeShown
import Derived.Test.YtmlaedhmgkcdpaaDoorLikeCheck
import Derived.Test.YtmlaedhmgkcdpaaDoorValid
namespace Go.Proofs.YtmlaedhmgkcdpaaDoor
open Go.RowKit

theorem fixed_len (ps : List El) (h : ∀ c, El.lit c ∈ ps → c.length ≤ 4) : (fixedE ps).1.length ≤ 4 * ps.length := by
  induction ps with
  | nil => simp [fixedE]
  | cons e t ih =>
    cases e with
    | any => simp [fixedE]
    | one => simp [fixedE]
    | lit c =>
      have h1 := h c (by simp)
      have h2 := ih fun d hd => h d (List.mem_cons_of_mem _ hd)
      simp only [fixedE, List.length_append, List.length_cons]
      omega

set_option maxRecDepth 100000 in
set_option maxHeartbeats 1000000 in
theorem likeBegins_walk (p s : ByteArray) (w : World) (hp : p.size ≤ maxLen) (hs : s.size ≤ maxLen) (hT : Tabs w) :
    Calls Tryd.prog 5 #[.string p, .string s] w fun e w' => e = .returned (.bool true) ∧ Below w.heap.size w w' := by
  obtain ⟨l, rfl, hl⟩ := bytes_list p
  obtain ⟨m, rfl, hm⟩ := bytes_list s
  unfold maxLen at hp hs
  have HT := Lib.hid hT
  have HF1 := Lib.hid (fun w => few_any l w (by omega))
  have HF2 := Lib.hid (fun w => few_any m w (by omega))
  have ha := few_le l
  have hb := few_le m
  generalize few l = a at HF1 ha
  generalize few m = b at HF2 hb
  have HFX := Lib.hid (fun w hT => Fixed_any a w hT (by omega))
  have HCK := Lib.hid (fun w hT => Check_any a w hT (by omega))
  have HIS := Lib.hid (fun w hT => is_any a b w hT (by omega) (by omega))
  have HVA := Lib.hid (fun w hT => valid_any a w hT (by omega))
  have HQB := Lib.hid (fun w hT => Quote_any b w hT (by omega))
  have hqb := quote_len b
  have HCB := Lib.hid (fun w hT => Check_any (quote b) w hT (by omega))
  have HEB := Lib.hid (show errN (quote b) = 0 from errN_some (elsOf_quote b))
  clear hT hp hs hl hm
  cases hel : elsOf a with
  | none =>
    have HE := Lib.hid (errN_none hel)
    clear hel
    unfold sv at HF1 HF2 HFX HCK
    go_enter Tryd.func5, Tryd.ntmps5
    go_wp2_with fail
    refine (shown_any _ HT.out).mono ?_
    rintro e w1 ⟨rfl, hbb⟩
    have HB1 := Lib.hid hbb
    clear hbb
    go_wp2_with fail
    refine (HF1.out _).mono ?_
    rintro e w' ⟨rfl, rfl⟩
    go_wp2_with fail
    refine (HF2.out _).mono ?_
    rintro e w' ⟨rfl, rfl⟩
    go_wp2_with fail
    refine (HFX.out _ (HT.out.mono HB1.out)).mono ?_
    rintro e w2 ⟨rfl, hbb⟩
    rw [HE.out]
    have HB2 := Lib.hid (Ext.trans HB1.out hbb)
    clear hbb
    go_wp2_with fail
    refine (HCK.out _ (HT.out.mono HB2.out)).mono ?_
    rintro e w3 ⟨rfl, hbb⟩
    rw [HE.out]
    have HB3 := Lib.hid (Ext.trans HB2.out hbb)
    clear hbb
    go_wp2_with fail
    go_ret
    exact ⟨rfl, HB3.out⟩
  | some ps =>
    have HE := Lib.hid (errN_some hel)
    have hfs := fix_some hel
    have hll := els_len _ _ _ (Nat.le_refl _) hel
    have hla := lets_length a
    have hfl := fixed_len ps fun c hc => by have h := lets_letters a c (hll.2 c hc); rw [← h.2]; exact (wid_bounds c h.1).2.2
    have HBEG := Lib.hid (show isB a b = true → fixS a <+: b ∧ (fixB a = true → b = fixS a) from fun h => by
      rw [isB_some hel] at h
      have := fixed_begins ps _ h
      rw [lets_flat] at this
      rw [hfs.1, hfs.2]
      exact this)
    have HAL := Lib.hid (show fixB a = true → Lib.validD a = true → isB a (fixS a) = true from fun h1 h2 => by
      rw [hfs.1]
      exact is_alone a ps hel ((goods_valid a).1 h2) (by rw [← hfs.2]; exact h1))
    have hf5 : (fixS a).length ≤ 1200 := by rw [hfs.1]; omega
    have hqf := quote_len (fixS a)
    have HQF := Lib.hid (fun w hT => Quote_any (fixS a) w hT (by omega))
    have HIQ := Lib.hid (fun w hT => is_any (quote (fixS a)) (fixS a) w hT (by omega) (by omega))
    have HI := Lib.hid (show isB (quote (fixS a)) (fixS a) = true by rw [is_quote]; exact decide_eq_true rfl)
    clear hel hfs hll hla hfl
    generalize fixS a = f at HFX HBEG HAL hf5 HQF HIQ HI hqf
    generalize fixB a = C at HFX HBEG HAL
    generalize Lib.validD a = V at HVA HAL
    unfold sv at HF1 HF2 HFX HIS HVA HQB HCB HQF HIQ
    go_enter Tryd.func5, Tryd.ntmps5
    go_wp2_with fail
    refine (shown_any _ HT.out).mono ?_
    rintro e w1 ⟨rfl, hbb⟩
    have HB1 := Lib.hid hbb
    clear hbb
    go_wp2_with fail
    refine (HF1.out _).mono ?_
    rintro e w' ⟨rfl, rfl⟩
    go_wp2_with fail
    refine (HF2.out _).mono ?_
    rintro e w' ⟨rfl, rfl⟩
    go_wp2_with fail
    refine (HFX.out _ (HT.out.mono HB1.out)).mono ?_
    rintro e w2 ⟨rfl, hbb⟩
    rw [HE.out]
    have HB2 := Lib.hid (Ext.trans HB1.out hbb)
    clear hbb
    go_wp2_with fail
    refine (HIS.out _ (HT.out.mono HB2.out)).mono ?_
    rintro e w3 ⟨rfl, hbb⟩
    have HB3 := Lib.hid (Ext.trans HB2.out hbb)
    clear hbb
    cases hB : isB a b with
    | true =>
      have hbg := HBEG.out hB
      cases C with
      | true =>
        have hbf := hbg.2 rfl
        clear hbg hB
        subst hbf
        have hex : ((⟨b.toArray⟩ : ByteArray).extract 0 b.length) = ⟨b.toArray⟩ := by rw [extract_take b b.length (Nat.le_refl _), List.take_length]
        have hnl : decide (b.length < b.length) = false := decide_eq_false (by omega)
        cases V
        all_goals
          go_wp2_with fail
          refine (HVA.out _ (HT.out.mono HB3.out)).mono ?_
          rintro e w4 ⟨rfl, hbb⟩
          have HB4 := Lib.hid (Ext.trans HB3.out hbb)
          clear hbb
          clear hex hnl
          go_wp2_with fail
          refine (HQF.out _ (HT.out.mono HB4.out)).mono ?_
          rintro e w5 ⟨rfl, hbb⟩
          have HB5 := Lib.hid (Ext.trans HB4.out hbb)
          clear hbb
          go_wp2_with fail
          refine (HIQ.out _ (HT.out.mono HB5.out)).mono ?_
          rintro e w6 ⟨rfl, hbb⟩
          rw [HI.out]
          have HB6 := Lib.hid (Ext.trans HB5.out hbb)
          clear hbb
          go_wp2_with fail
          refine (HQB.out _ (HT.out.mono HB6.out)).mono ?_
          rintro e w7 ⟨rfl, hbb⟩
          have HB7 := Lib.hid (Ext.trans HB6.out hbb)
          clear hbb
          go_wp2_with fail
          refine (HCB.out _ (HT.out.mono HB7.out)).mono ?_
          rintro e w8 ⟨rfl, hbb⟩
          rw [HEB.out]
          have HB8 := Lib.hid (Ext.trans HB7.out hbb)
          clear hbb
          go_wp2_with fail
          go_ret
          exact ⟨rfl, HB8.out⟩
      | false =>
        obtain ⟨r, hr⟩ := hbg.1
        have hle : f.length ≤ b.length := by rw [← hr, List.length_append]; omega
        have hex : ((⟨b.toArray⟩ : ByteArray).extract 0 f.length) = ⟨f.toArray⟩ := by
          rw [extract_take b f.length hle, ← hr, List.take_left]
        have hnl : decide (b.length < f.length) = false := decide_eq_false (by omega)
        have HB4 := HB3
        clear hbg hr hB
        go_wp2_with fail
        clear hex hnl hle
        refine (HQF.out _ (HT.out.mono HB4.out)).mono ?_
        rintro e w5 ⟨rfl, hbb⟩
        have HB5 := Lib.hid (Ext.trans HB4.out hbb)
        clear hbb
        go_wp2_with fail
        refine (HIQ.out _ (HT.out.mono HB5.out)).mono ?_
        rintro e w6 ⟨rfl, hbb⟩
        rw [HI.out]
        have HB6 := Lib.hid (Ext.trans HB5.out hbb)
        clear hbb
        go_wp2_with fail
        refine (HQB.out _ (HT.out.mono HB6.out)).mono ?_
        rintro e w7 ⟨rfl, hbb⟩
        have HB7 := Lib.hid (Ext.trans HB6.out hbb)
        clear hbb
        go_wp2_with fail
        refine (HCB.out _ (HT.out.mono HB7.out)).mono ?_
        rintro e w8 ⟨rfl, hbb⟩
        rw [HEB.out]
        have HB8 := Lib.hid (Ext.trans HB7.out hbb)
        clear hbb
        go_wp2_with fail
        go_ret
        exact ⟨rfl, HB8.out⟩
    | false =>
      cases C with
      | true =>
        by_cases hbf : b = f
        · have hV : V = false := by
            cases V with
            | false => rfl
            | true => have := HAL.out rfl rfl; rw [← hbf, hB] at this; cases this
          subst hV
          clear hbf hB
          go_wp2_with fail
          refine (HVA.out _ (HT.out.mono HB3.out)).mono ?_
          rintro e w4 ⟨rfl, hbb⟩
          have HB4 := Lib.hid (Ext.trans HB3.out hbb)
          clear hbb
          go_wp2_with fail
          refine (HQF.out _ (HT.out.mono HB4.out)).mono ?_
          rintro e w5 ⟨rfl, hbb⟩
          have HB5 := Lib.hid (Ext.trans HB4.out hbb)
          clear hbb
          go_wp2_with fail
          refine (HIQ.out _ (HT.out.mono HB5.out)).mono ?_
          rintro e w6 ⟨rfl, hbb⟩
          rw [HI.out]
          have HB6 := Lib.hid (Ext.trans HB5.out hbb)
          clear hbb
          go_wp2_with fail
          refine (HQB.out _ (HT.out.mono HB6.out)).mono ?_
          rintro e w7 ⟨rfl, hbb⟩
          have HB7 := Lib.hid (Ext.trans HB6.out hbb)
          clear hbb
          go_wp2_with fail
          refine (HCB.out _ (HT.out.mono HB7.out)).mono ?_
          rintro e w8 ⟨rfl, hbb⟩
          rw [HEB.out]
          have HB8 := Lib.hid (Ext.trans HB7.out hbb)
          clear hbb
          go_wp2_with fail
          go_ret
          exact ⟨rfl, HB8.out⟩
        · have hq : (b == f) = false := beq_eq_false_iff_ne.2 hbf
          clear hbf hB
          cases V
          all_goals
            go_wp2_with fail
            refine (HVA.out _ (HT.out.mono HB3.out)).mono ?_
            rintro e w4 ⟨rfl, hbb⟩
            have HB4 := Lib.hid (Ext.trans HB3.out hbb)
            clear hbb
            go_wp2_with fail
            refine (HQF.out _ (HT.out.mono HB4.out)).mono ?_
            rintro e w5 ⟨rfl, hbb⟩
            have HB5 := Lib.hid (Ext.trans HB4.out hbb)
            clear hbb
            go_wp2_with fail
            refine (HIQ.out _ (HT.out.mono HB5.out)).mono ?_
            rintro e w6 ⟨rfl, hbb⟩
            rw [HI.out]
            have HB6 := Lib.hid (Ext.trans HB5.out hbb)
            clear hbb
            go_wp2_with fail
            refine (HQB.out _ (HT.out.mono HB6.out)).mono ?_
            rintro e w7 ⟨rfl, hbb⟩
            have HB7 := Lib.hid (Ext.trans HB6.out hbb)
            clear hbb
            go_wp2_with fail
            refine (HCB.out _ (HT.out.mono HB7.out)).mono ?_
            rintro e w8 ⟨rfl, hbb⟩
            rw [HEB.out]
            have HB8 := Lib.hid (Ext.trans HB7.out hbb)
            clear hbb
            go_wp2_with fail
            go_ret
            exact ⟨rfl, HB8.out⟩
      | false =>
        have HB4 := HB3
        clear hB
        go_wp2_with fail
        refine (HQF.out _ (HT.out.mono HB4.out)).mono ?_
        rintro e w5 ⟨rfl, hbb⟩
        have HB5 := Lib.hid (Ext.trans HB4.out hbb)
        clear hbb
        go_wp2_with fail
        refine (HIQ.out _ (HT.out.mono HB5.out)).mono ?_
        rintro e w6 ⟨rfl, hbb⟩
        rw [HI.out]
        have HB6 := Lib.hid (Ext.trans HB5.out hbb)
        clear hbb
        go_wp2_with fail
        refine (HQB.out _ (HT.out.mono HB6.out)).mono ?_
        rintro e w7 ⟨rfl, hbb⟩
        have HB7 := Lib.hid (Ext.trans HB6.out hbb)
        clear hbb
        go_wp2_with fail
        refine (HCB.out _ (HT.out.mono HB7.out)).mono ?_
        rintro e w8 ⟨rfl, hbb⟩
        rw [HEB.out]
        have HB8 := Lib.hid (Ext.trans HB7.out hbb)
        clear hbb
        go_wp2_with fail
        go_ret
        exact ⟨rfl, HB8.out⟩

end Go.Proofs.YtmlaedhmgkcdpaaDoor
