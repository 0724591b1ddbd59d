/-
  The contract of the document's own Take of words.
-/
import Derived.Test.YtcaidgdnneomaaaDictRef5
import Derived.Test.YtcaidgdnneomaaaRefTextP
namespace Go.Proofs.Ytcaidgdnneomaaa
open Go.RowKit Go.BigFrame

set_option maxRecDepth 100000 in
set_option maxHeartbeats 4000000 in
theorem refTakeW_any (u : Value) (b : List UInt8) (w : World) (hu : Rd w u b) (hb : b.length ≤ 8000000) :
    Calls Try.prog 27 #[u] w fun e w' => (∃ v r, e = .returned (.tuple #[v, r, .int .i64 (takeS10 b).2.2]) ∧ RdV w' v ((takeS10 b).1.map tv) ∧ Rd w' r (takeS10 b).2.1) ∧ Ext w w' := by
  obtain ⟨i1, hi1, hy0, hy1, hy2⟩ := info_parts Try.info5
  obtain ⟨i2, hi2, hx0, hx1, hx2⟩ := info_parts Try.info_text
  have HU := Lib.hid hu
  have HB := Lib.hid hb
  have HOC := Lib.hid (bv_oneCell b)
  have HLM := Lib.hid (show (b.map bv).length = b.length from List.length_map _)
  have HO0 := Lib.hid (empty_owned w)
  have HR0 := Lib.hid (hu.mono (ext_new w (.cells #[] 5)))
  obtain ⟨ao, cap, rfl, h1, h2⟩ := hu.shape
  obtain ⟨N, hN⟩ : ∃ N, b.length = N := ⟨_, rfl⟩
  have HN := Lib.hid hN
  rw [hN] at h1 HU HR0 HLM hb ⊢
  unfold maxLen at h2
  clear hu hN
  go_enter Try.func27, Try.ntmps27
  go_wp2_with (at_builtin; go_must (refine wpList_append_rd rfl (.tmp 13) (.tmp 14) 37 rfl w.heap.size 5 i1 (.int .u8 0) 1 Try.underlying37 hi1 hy0 hy1 hy2 rfl _ _ _ rfl HO0.out _ _ rfl HR0.out HOC.out (by rw [HLM.out]; unfold maxLen; omega) (by rw [HLM.out]; omega) (by simp) ?_); intro v1 w1 hown1 hgrow1; rw [List.nil_append, Nat.zero_add, HLM.out] at hown1; obtain ⟨so, sc, rfl, hsc1, hsc2⟩ := own_shapeP hown1; have HO1 := Lib.hid hown1; have HX1 := Lib.hid (show Ext w w1 from (ext_new w _).grown hgrow1 (by simp) (fun k hk => by cases hk; exact Nat.le_refl _)); clear hown1 hgrow1)
  have HRR := Lib.hid (show RRefP (fun k => k < w1.heap.size) (w1.alloc (.cells #[.slice so N sc, .bool false] 66)) w1.heap.size b false from ⟨_, heap_alloc_new _ _, (show Rd w1 _ b from RdV.of_owns HO1.out).mono (ext_new w1 _), fun k hk => (HO1.out.lt k hk).2⟩)
  have HG := Lib.hid (show w.heap.size ≤ w1.heap.size from HX1.out.size)
  have HX1' := Lib.hid (Ext.trans HX1.out (ext_new w1 (.cells #[.slice so N sc, .bool false] 66)))
  have HSZ := Lib.hid (show (w1.alloc (.cells #[.slice so N sc, .bool false] 66)).heap.size = w1.heap.size + 1 by simp)
  obtain ⟨W1, hW1⟩ : ∃ W1, W1 = w1.alloc (.cells #[.slice so N sc, .bool false] 66) := ⟨_, rfl⟩
  rw [← hW1]
  rw [← hW1] at HRR
  rw [← hW1] at HX1'
  rw [← hW1] at HSZ
  obtain ⟨g, hg⟩ : ∃ g, w1.heap.size = g := ⟨_, rfl⟩
  rw [hg] at HRR HG HSZ ⊢
  clear hW1 hg hsc1 hsc2
  have HBE := Lib.hid (fun (W W' : World) (h : Ext w W) (ho : Only g W W') => (show Ext w W' from Below.trans h (only_belowR ho h.size HG.out)))
  have HP := Lib.hid (show ∀ k, (fun k => k < g) k → k < g + 1 from fun k hk => by have : k < g := hk; omega)
  generalize (fun k => k < g) = P at HRR HP
  refine (refRNum_tk P g b false W1 (fun h => by cases h) HRR.out).mono ?_
  rintro e w2 ⟨rfl, hr2, ho2⟩
  have HR2 := Lib.hid hr2
  have HX2 := Lib.hid (HBE.out _ _ HX1'.out ho2)
  have HS2 := Lib.hid (show g + 1 ≤ w2.heap.size by have := ho2.size; have := HSZ.out; omega)
  have HI2 := Lib.hid (takeW_start b)
  have HMANY := Lib.hid (fun h => takeW_no (takeW_many (b := b) h))
  have HB2 := Lib.hid (show (tk b).2.2 = true → (tk b).2.1 = [] from fun h => by rw [tk_bad h])
  have HSUF := Lib.hid (show ∃ p, b = p ++ (tk b).2.1 from by
    cases h : (tk b).2.2 with
    | true => exact ⟨b, by rw [tk_bad h]; simp⟩
    | false => exact ⟨_, (tk_sound h).1⟩)
  have hn64 := tk_lt b
  obtain ⟨n0, r0, bad0, ht⟩ : ∃ n r bad, tk b = (n, r, bad) := ⟨_, _, _, rfl⟩
  rw [ht] at HR2 HI2 HB2 HMANY HSUF hn64 ⊢
  simp only at HR2 HI2 HB2 HMANY HSUF hn64 ⊢
  clear hr2 ho2 ht
  by_cases hmany : 200 < n0
  · have HNO := Lib.hid (HMANY.out hmany)
    go_wp2_with fail
    refine bodyPost_ret (v := .tuple #[.slice none 0 0, .slice none 0 0, .int .i64 6]) (by simp [results, Try.results27, go_sem]) rfl ⟨⟨_, _, by rw [HNO.out], by rw [HNO.out]; exact RdV.nil _, by rw [HNO.out]; exact Rd.nil _⟩, HX2.out⟩
  · go_wp2_with fail
    go_loopw [6, 7, 8, 9, 10] (fun nv v la _ _ wr => ∃ (n : Nat) (rest : List UInt8) (bad : Bool) (x : List T8), nv = .int .u64 n ∧ la = .string ⟨(lastT [] x).toArray⟩ ∧ x.length + n = n0 ∧ RRefP P wr g rest bad ∧ (bad = true → rest = []) ∧ wr.ownsRow (g + 1) 9 1 v x.length (x.map tv) ∧ TakeInvW b n rest bad x ∧ (∀ t ∈ x, t.length ≤ 1024 * x.length) ∧ (∃ p, b = p ++ rest) ∧ g + 1 ≤ wr.heap.size ∧ Ext w wr) (fun nv _ _ _ _ _ => (intOf nv).toNat)
    case atStart => exact ⟨n0, r0, bad0, [], rfl, rfl, by simp, HR2.out, HB2.out, owns_nil _ _ _ _, HI2.out, fun s hs => (by cases hs), HSUF.out, HS2.out, HX2.out⟩
    case round =>
      obtain ⟨n, rest, bad, x, rfl, rfl, hn, hrr, hbl, hown, hinv, hxf, hsuf, hsz, hext⟩ := hrel
      have HRR := Lib.hid hrr
      have HBL := Lib.hid hbl
      have HO := Lib.hid hown
      have HINV := Lib.hid hinv
      have HXF := Lib.hid hxf
      have HSUF := Lib.hid hsuf
      have HSZ := Lib.hid hsz
      have HX := Lib.hid hext
      have HLL := Lib.hid (show (lastT [] x).length ≤ 204800 by
        rcases lastT_mem (a := ([] : T8)) (x := x) with e | e
        · rw [e]; exact Nat.zero_le _
        · have := hxf _ e
          omega)
      clear hbl hown hinv hsuf hext hrr hxf
      by_cases hgo : n ≠ 0
      · obtain ⟨m, rfl⟩ : ∃ m, n = m + 1 := ⟨n - 1, by omega⟩
        go_wp2_with fail
        refine (refRNum_tk P g rest bad wr HBL.out HRR.out).mono ?_
        rintro e w3 ⟨rfl, hr3, ho3⟩
        have HR3 := Lib.hid hr3
        have HX3 := Lib.hid (HBE.out _ _ HX.out ho3)
        have HB3 := Lib.hid (show (tk rest).2.2 = true → (tk rest).2.1 = [] from fun h => by rw [tk_bad h])
        have HOW3 := Lib.hid (HO.out.kept ho3 (by
          cases hk : u7.ownBlock with
          | none => exact .inl rfl
          | some k => exact .inr (fun e => by have := (HO.out.lt k hk).1; cases e; omega)))
        have HS3 := Lib.hid (show g + 1 ≤ w3.heap.size by have := ho3.size; have := HSZ.out; omega)
        clear hr3 ho3
        go_wp2_with fail
        refine (refRText_tk P g (tk rest).2.1 (tk rest).2.2 w3 HB3.out HR3.out).mono ?_
        rintro e w4 ⟨rfl, hr4, ho4⟩
        have HR4 := Lib.hid hr4
        have HX4 := Lib.hid (HBE.out _ _ HX3.out ho4)
        have HOW4 := Lib.hid (HOW3.out.kept ho4 (by
          cases hk : u7.ownBlock with
          | none => exact .inl rfl
          | some k => exact .inr (fun e => by have := (HO.out.lt k hk).1; cases e; omega)))
        have HS4 := Lib.hid (show g + 1 ≤ w4.heap.size by have := ho4.size; have := HS3.out; omega)
        have HSTEP := Lib.hid (takeW_step HINV.out)
        have HFAIL := Lib.hid (fun h => takeW_no (takeW_fail HINV.out h))
        have HC64 := Lib.hid (tk_lt rest)
        have HTL := Lib.hid (tkT_len (tk rest).2.1)
        have HBT := Lib.hid (show (tkT (tk rest).2.1).2.2 = true → (tkT (tk rest).2.1).2.1 = [] from fun h => by rw [tkT_bad h])
        have HSUF4 := Lib.hid (show (tkT (tk rest).2.1).2.2 = false → ∃ p, b = p ++ (tkT (tk rest).2.1).2.1 from fun h => by
          obtain ⟨p, hp⟩ := HSUF.out
          have h1 : (tk rest).2.2 = false := by
            cases h2 : (tk rest).2.2 with
            | false => rfl
            | true =>
              rw [HB3.out h2] at h
              cases h
          have e1 := (tk_sound h1).1
          have e2 := tkT_sound h
          exact ⟨p ++ (enc (tk rest).1 ++ (enc (tkT (tk rest).2.1).1.length ++ (tkT (tk rest).2.1).1)), by rw [hp]; exact (congrArg (p ++ ·) (e1.trans (congrArg (enc (tk rest).1 ++ ·) e2))).trans (by simp only [List.append_assoc])⟩)
        generalize tkT (tk rest).2.1 = T at HR4 HSTEP HFAIL HTL HBT HSUF4 ⊢
        obtain ⟨s, r2, bad2⟩ := T
        simp only at HR4 HSTEP HFAIL HTL HBT HSUF4 ⊢
        generalize (tk rest).1 = c at HSTEP HFAIL HC64 ⊢
        have hc64 := HC64.out
        obtain ⟨rv, hb5, -, -⟩ := HR4.out
        have hc1 := Rdr.cell1 hb5
        clear ho4 hb5 hr4
        by_cases hbad2 : bad2 = true
        · subst hbad2
          have HNO := Lib.hid (HFAIL.out (.inl rfl))
          go_wp2_with fail
          refine bodyPost_ret (v := .tuple #[.slice none 0 0, .slice none 0 0, .int .i64 6]) (by simp [results, Try.results27, go_sem]) rfl ⟨⟨_, _, by rw [HNO.out], by rw [HNO.out]; exact RdV.nil _, by rw [HNO.out]; exact Rd.nil _⟩, HX4.out⟩
        · obtain rfl : bad2 = false := by simpa using hbad2
          have hll := HLL.out
          by_cases hcl : (lastT [] x).length < c
          · have HNO := Lib.hid (HFAIL.out (.inr hcl))
            have d1 : decide ((lastT [] x).length < c) = true := decide_eq_true hcl
            generalize lastT [] x = la at hll d1 ⊢
            clear hcl hbad2
            go_wp2_with fail
            refine bodyPost_ret (v := .tuple #[.slice none 0 0, .slice none 0 0, .int .i64 6]) (by simp [results, Try.results27, go_sem]) rfl ⟨⟨_, _, by rw [HNO.out], by rw [HNO.out]; exact RdV.nil _, by rw [HNO.out]; exact Rd.nil _⟩, HX4.out⟩
          · have d1 : decide ((lastT [] x).length < c) = false := decide_eq_false hcl
            have hcut := tcut_take (lastT [] x) c
            have hjoin := tjoin ((lastT [] x).take c) s
            have HNL := Lib.hid (show ((lastT [] x).take c ++ s).length ≤ 1024 * (x.length + 1) by
              have h1 := HTL.out.1
              rw [List.length_append, List.length_take]
              rcases lastT_mem (a := ([] : T8)) (x := x) with e | e
              · rw [e, List.length_nil, Nat.min_zero]; omega
              · have := HXF.out _ e
                omega)
            have hcl2 : c ≤ (lastT [] x).length := by omega
            have hpl : ((lastT [] x).take c).length ≤ 204800 := by rw [List.length_take]; omega
            have hsl : s.length ≤ 1024 := HTL.out.1
            generalize (lastT [] x).take c = pre at hcut hjoin HNL HSTEP hpl
            generalize lastT [] x = la at hll d1 hcl2 hcut ⊢
            generalize hnew : pre ++ s = nw at hjoin HNL HSTEP
            clear hcl hbad2 hnew
            have HXN := Lib.hid (show x.length ≤ 200 by omega)
            go_wp2_with (at_builtin; go_must (refine wpList_append_own _ rfl (.tmp 46) (.tmp 48) 22 rfl (g + 1) 9 i2 (.string ByteArray.empty) 1 16 Try.underlying22 hi2 hx0 hx1 hx2 rfl (by decide) u7 _ _ rfl (HOW4.out.alloc _) ⟨w4.heap.size, 0, none⟩ 1 1 [tv nw] rfl rfl (row_new _ _ _) (by simp [tv, Value.oneCell']) (by have := HXN.out; unfold maxLen; omega) (by have := HXN.out; omega) (by have := HS4.out; simp; omega) ?_); intro v5 w5 hown5 hgrow5 _; have HO5 := Lib.hid hown5; have HB5 := Lib.hid (((Below.refl (g + 1) w4).alloc HS4.out _).grown hgrow5 (by simp; have := HS4.out; omega) (fun b hb => (HOW4.out.lt b hb).1)); clear hown5 hgrow5)
            go_roundw
            case rel =>
              refine ⟨m, r2, false, x ++ [nw], by go_num, by rw [lastT_snoc], by simp; omega, RdrP.below HR4.out HB5.out (by omega) HP.out, (fun h => by cases h), ?_, HSTEP.out, fun t ht => ?_, HSUF4.out rfl, by have := HB5.out.size; have := HS4.out; omega, ?_⟩
              · rw [List.length_append, List.map_append]
                exact HO5.out
              · rw [List.length_append, List.length_singleton]
                rcases List.mem_append.1 ht with ht | ht
                · have := HXF.out t ht
                  omega
                · rw [List.mem_singleton.1 ht]
                  exact HNL.out
              · exact Below.trans HX4.out (HB5.out.mono (show w.heap.size ≤ g + 1 by have := HG.out; omega))
            case measure => simp [intOf]; try omega
      · obtain rfl : n = 0 := by omega
        have HEND := Lib.hid (fun ws r (hp : IsPutW b ws r) => takeW_end HINV.out hp)
        have HPUT := Lib.hid (refPutW_any u7 x wr (RdV.of_owns HO.out))
        clear hgo
        go_wp2_with fail
        refine HPUT.out.mono ?_
        rintro e w3 ⟨v3, rfl, ho3, hx3⟩
        have HX3 := Lib.hid (Ext.trans HX.out hx3)
        have HR3 := Lib.hid (show Rd w3 v3 (putS10 x).1 from RdV.of_owns ho3)
        have HRD := Lib.hid (RdrP.mono HRR.out hx3)
        have HX7 := Lib.hid ((RdV.of_owns HO.out).mono hx3)
        clear ho3 hx3
        obtain ⟨C, ce, hC⟩ : ∃ C e, putS10 x = (C, e) := ⟨_, _, rfl⟩
        have HPC := Lib.hid hC
        rw [hC] at HR3 ⊢
        simp only at HR3 ⊢
        clear hC
        obtain ⟨rv, hb4, hrd, -⟩ := HRD.out
        obtain ⟨ra, rc, rfl, hrc1, hrc2⟩ := hrd.shape
        have HRV := Lib.hid hrd
        have hk1 := Rdr.cell1 hb4
        have hk0 := Rdr.cell0 hb4
        have hz1 : ∀ z : Later Ext w3.drew, z.val.cell? ⟨g, 1, none⟩ = some (.bool bad) := fun z => ((Ext.trans (Ext.drew w3) z.ext).cell (lt_of_cell hk1)).trans hk1
        have hz0 : ∀ z : Later Ext w3.drew, z.val.cell? ⟨g, 0, none⟩ = some (.slice ra rest.length rc) := fun z => ((Ext.trans (Ext.drew w3) z.ext).cell (lt_of_cell hk0)).trans hk0
        unfold maxLen at hrc2
        cases bad with
        | true =>
          have HNO := Lib.hid (show takeS10 b = ([], [], 6) from takeW_no (fun ⟨ws, r, hp⟩ => by have := (HEND.out ws r hp).1; cases this))
          go_wp2_with fail
          refine wp_region_segs Ext Ext.keeps [(List.range 24, none)] (by kernel_rfl) (by kernel_rfl) (fun c a a' w e h => (by exact ⟨e ▸ h.1, h.2⟩)) ?_
          simp only [List.range, List.range.loop, pickSegs, pickOps, List.map_cons, List.map_nil, Option.map_none, Option.getD_some, List.getElem?_toArray, List.getElem?_cons_zero, List.getElem?_cons_succ]
          refine wpSegs_none ?_
          repeat go_big_quiet_step (fail)
          refine wpQuiet_nil (wpSegs_nil ?_)
          clear hz0 hz1
          go_wp2_with fail
          refine bodyPost_ret (v := .tuple #[.slice none 0 0, .slice none 0 0, .int .i64 6]) (by simp [results, Try.results27, go_sem]) rfl ⟨⟨_, _, by rw [HNO.out], by rw [HNO.out]; exact RdV.nil _, by rw [HNO.out]; exact Rd.nil _⟩, Ext.trans HX3.out (Ext.drew w3)⟩
        | false =>
          by_cases hce : ce = 0
          · subst hce
            have HGX := Lib.hid (show rightW x = true ∧ C = putW x from by
              have h := HPC.out
              cases hr : rightW x with
              | true => rw [putS10_ok hr] at h; exact ⟨rfl, (congrArg Prod.fst h).symm⟩
              | false => rw [putS10_no hr] at h; have h2 : (1 : Int) = 0 := congrArg Prod.snd h; omega)
            obtain ⟨K, hK, hKN, hKr⟩ : ∃ K : Nat, (N : Int) - (rest.length : Int) = (K : Int) ∧ K ≤ N ∧ (b.take K ++ rest = b) := by
              obtain ⟨p, hp⟩ := HSUF.out
              have hl := congrArg List.length hp
              rw [List.length_append] at hl
              have := HN.out
              refine ⟨p.length, by omega, by omega, ?_⟩
              rw [hp, List.take_left]
            have HKR := Lib.hid hKr
            have HBK := Lib.hid (show Rd w3 (.slice ao K cap) (b.take K) by
              have h := rdV_first (HU.out.mono HX3.out) K hKN
              rwa [← List.map_take] at h)
            have hs1 := str_later HR3.out
            have hs2 := str_later HBK.out
            have hKc : K ≤ cap := by omega
            clear hKr
            by_cases hcb : C = b.take K
            · have HYES := Lib.hid (show takeS10 b = (x, rest, 0) from takeW_yes ⟨rightW_iff.1 HGX.out.1, by rw [← HGX.out.2, hcb, HKR.out]⟩)
              rw [← hcb] at hs2
              clear hcb
              have hqq : (C == C) = true := beq_self_eq_true _
              go_wp2_with fail
              refine wp_region_segs Ext Ext.keeps [(List.range 24, none)] (by kernel_rfl) (by kernel_rfl) (fun c a a' w e h => (by exact ⟨e ▸ h.1, h.2⟩)) ?_
              simp only [List.range, List.range.loop, pickSegs, pickOps, List.map_cons, List.map_nil, Option.map_none, Option.getD_some, List.getElem?_toArray, List.getElem?_cons_zero, List.getElem?_cons_succ]
              refine wpSegs_none ?_
              repeat go_big_quiet_step (fail)
              refine wpQuiet_nil (wpSegs_nil ?_)
              clear hz0 hz1 hs1 hs2
              go_wp2_with fail
              have hz3 : ∀ z : Later Ext w3.drew.drew, z.val.cell? ⟨g, 0, none⟩ = some (.slice ra rest.length rc) := fun z => ((Ext.trans (Ext.drew w3) (Ext.trans (Ext.drew w3.drew) z.ext)).cell (lt_of_cell hk0)).trans hk0
              have HXF3 := Lib.hid (Ext.trans (Ext.drew w3) (Ext.drew w3.drew))
              refine wp_region_segs Ext Ext.keeps [(List.range 8, none)] (by kernel_rfl) (by kernel_rfl) (fun c a a' w e h => (by exact ⟨e ▸ h.1, h.2⟩)) ?_
              simp only [List.range, List.range.loop, pickSegs, pickOps, List.map_cons, List.map_nil, Option.map_none, Option.getD_some, List.getElem?_toArray, List.getElem?_cons_zero, List.getElem?_cons_succ]
              refine wpSegs_none ?_
              repeat go_big_quiet_step (fail)
              refine wpQuiet_nil (wpSegs_nil ?_)
              clear hz3
              go_wp2_with fail
              refine bodyPost_ret (v := .tuple #[u7, .slice ra rest.length rc, .int .i64 0]) (by simp [results, Try.results27, go_sem]) rfl ⟨⟨_, _, by rw [HYES.out], by rw [HYES.out]; exact HX7.out.mono HXF3.out, by rw [HYES.out]; exact HRV.out.mono HXF3.out⟩, Ext.trans HX3.out HXF3.out⟩
            · have HNO := Lib.hid (show takeS10 b = ([], [], 6) by
                refine takeW_no (fun ⟨ws, r, hp⟩ => hcb ?_)
                obtain ⟨-, e1, e2⟩ := HEND.out ws r hp
                have h := HKR.out
                rw [hp.2, e2] at h
                rw [HGX.out.2, e1, hp.2]
                exact (List.append_cancel_right h).symm)
              have hqq : (C == b.take K) = false := beq_eq_false_iff_ne.2 hcb
              generalize b.take K = D at hs2 hqq
              clear hcb
              go_wp2_with fail
              refine wp_region_segs Ext Ext.keeps [(List.range 24, none)] (by kernel_rfl) (by kernel_rfl) (fun c a a' w e h => (by exact ⟨e ▸ h.1, h.2⟩)) ?_
              simp only [List.range, List.range.loop, pickSegs, pickOps, List.map_cons, List.map_nil, Option.map_none, Option.getD_some, List.getElem?_toArray, List.getElem?_cons_zero, List.getElem?_cons_succ]
              refine wpSegs_none ?_
              repeat go_big_quiet_step (fail)
              refine wpQuiet_nil (wpSegs_nil ?_)
              clear hz0 hz1 hs1 hs2
              go_wp2_with fail
              refine bodyPost_ret (v := .tuple #[.slice none 0 0, .slice none 0 0, .int .i64 6]) (by simp [results, Try.results27, go_sem]) rfl ⟨⟨_, _, by rw [HNO.out], by rw [HNO.out]; exact RdV.nil _, by rw [HNO.out]; exact Rd.nil _⟩, Ext.trans HX3.out (Ext.drew w3)⟩
          · have HNO := Lib.hid (show takeS10 b = ([], [], 6) by
              refine takeW_no (fun ⟨ws, r, hp⟩ => hce ?_)
              have h := HPC.out
              rw [(HEND.out ws r hp).2.1, putS10_ok (rightW_iff.2 hp.1)] at h
              exact (congrArg Prod.snd h).symm)
            have hqq : (ce != 0) = true := bne_iff_ne.2 hce
            clear hce
            go_wp2_with fail
            refine wp_region_segs Ext Ext.keeps [(List.range 24, none)] (by kernel_rfl) (by kernel_rfl) (fun c a a' w e h => (by exact ⟨e ▸ h.1, h.2⟩)) ?_
            simp only [List.range, List.range.loop, pickSegs, pickOps, List.map_cons, List.map_nil, Option.map_none, Option.getD_some, List.getElem?_toArray, List.getElem?_cons_zero, List.getElem?_cons_succ]
            refine wpSegs_none ?_
            repeat go_big_quiet_step (fail)
            refine wpQuiet_nil (wpSegs_nil ?_)
            clear hz0 hz1
            go_wp2_with fail
            refine bodyPost_ret (v := .tuple #[.slice none 0 0, .slice none 0 0, .int .i64 6]) (by simp [results, Try.results27, go_sem]) rfl ⟨⟨_, _, by rw [HNO.out], by rw [HNO.out]; exact RdV.nil _, by rw [HNO.out]; exact Rd.nil _⟩, Ext.trans HX3.out (Ext.drew w3)⟩

end Go.Proofs.Ytcaidgdnneomaaa
