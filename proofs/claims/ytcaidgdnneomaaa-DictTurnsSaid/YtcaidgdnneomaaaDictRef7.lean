/-
  The contract of the document's own Of.
-/
import Derived.Test.YtcaidgdnneomaaaDictRef6
import Derived.Test.YtcaidgdnneomaaaBelowK
namespace Go.Proofs.Ytcaidgdnneomaaa
open Go.RowKit Go.BigFrame


set_option maxRecDepth 100000 in
set_option maxHeartbeats 4000000 in
theorem refOfW_any (u : Value) (l : List T8) (w : World) (hu : RdV w u (l.map tv)) :
    Calls Try.prog 11 #[u] w fun e w' => (∃ v p, e = .returned (.tuple #[v, p, .int .i64 (ofS10 l).2.2]) ∧ RdV w' v ((ofS10 l).1.map tv) ∧ RdV w' p ((ofS10 l).2.1.map (Value.int .i64))) ∧ Ext w w' := by
  obtain ⟨i1, hi1, hy0, hy1, hy2⟩ := info_parts Try.info_text
  obtain ⟨i2, hi2, hx0, hx1, hx2⟩ := info_parts Try.info_int8
  obtain ⟨ao, cap, rfl, h1, h2, hat⟩ := rd_words hu
  have HAT := Lib.hid hat
  obtain ⟨N, hN⟩ : ∃ N, l.length = N := ⟨_, rfl⟩
  have HN := Lib.hid hN
  unfold maxLen at h2
  rw [hN] at h1 ⊢
  clear hat hN hu
  by_cases hbig : 4096 < N
  · have HNO := Lib.hid (show ofS10 l = ([], [], 3) from ofS10_no (fun h => by have := h.1; have := HN.out; omega))
    have d1 : decide (4096 < N) = true := decide_eq_true hbig
    go_enter Try.func11, Try.ntmps11
    go_wp2_with fail
    refine bodyPost_ret (v := .tuple #[.slice none 0 0, .slice none 0 0, .int .i64 3]) (by simp [results, Try.results11, go_sem]) rfl ⟨⟨_, _, by rw [HNO.out], by rw [HNO.out]; exact RdV.nil _, by rw [HNO.out]; exact RdV.nil _⟩, Ext.keeps.refl _⟩
  · go_enter Try.func11, Try.ntmps11
    go_wp2_with fail
    go_loopw [5, 6, 7, 8] (fun v i _ _ wr => ∃ j : Nat, j ≤ N ∧ i = .int .i64 j ∧ (∀ t ∈ l.take j, t.length ≤ 1024) ∧ (wordsOf (l.take j)).length ≤ 200 ∧ wr.ownsRow w.heap.size 9 1 v (wordsOf (l.take j)).length ((wordsOf (l.take j)).map tv) ∧ Ext w wr) (fun _ i _ _ _ => N - (intOf i).toNat)
    case atStart => exact ⟨0, Nat.zero_le _, rfl, fun t ht => (by cases ht), Nat.zero_le _, owns_nil _ _ _ _, Ext.keeps.refl _⟩
    case round =>
      obtain ⟨j, hj, rfl, hlen, h200, hown, hx⟩ := hrel
      have HLEN := Lib.hid hlen
      have HO := Lib.hid hown
      have HX := Lib.hid hx
      clear hlen hown hx
      by_cases hlt : j < N
      · have hjl : j < l.length := by have := HN.out; omega
        obtain ⟨g, off, rfl, hcx⟩ := HAT.out j hjl
        have HC := Lib.hid (fun W (h : Below w.heap.size w W) => (h.cell (lt_of_cell hcx)).trans hcx)
        have HT := Lib.hid (List.take_succ_eq_append_getElem hjl)
        have HWS := Lib.hid (words_take_succ hjl)
        have HLM := Lib.hid (List.getElem_mem hjl)
        have HWT := Lib.hid (words_take l (j + 1))
        have hc := HC.out wr HX.out
        have hgl : ∃ s, l[j] = s := ⟨_, rfl⟩
        generalize l[j] = s at HC hc HT HWS HLM
        clear hcx hgl
        by_cases hlong : 1024 < s.length
        · have HNO := Lib.hid (show ofS10 l = ([], [], 3) from ofS10_no (fun h => by have := h.2.1 s HLM.out; omega))
          have d1 : decide (1024 < s.length) = true := decide_eq_true hlong
          have d1' : decide ((1024 : Int) < (s.length : Int)) = true := decide_eq_true (by omega)
          go_wp2_with fail
          refine bodyPost_ret (v := .tuple #[.slice none 0 0, .slice none 0 0, .int .i64 3]) (by simp [results, Try.results11, go_sem]) rfl ⟨⟨_, _, by rw [HNO.out], by rw [HNO.out]; exact RdV.nil _, by rw [HNO.out]; exact RdV.nil _⟩, HX.out⟩
        · have d1 : decide (1024 < s.length) = false := decide_eq_false hlong
          have d1' : decide ((1024 : Int) < (s.length : Int)) = false := decide_eq_false (by omega)
          have HL2 := Lib.hid (show ∀ t ∈ l.take (j + 1), t.length ≤ 1024 from fun t ht => by
            rw [HT.out] at ht
            rcases List.mem_append.1 ht with ht | ht
            · exact HLEN.out t ht
            · rw [List.mem_singleton.1 ht]; omega)
          generalize hW : wordsOf (l.take j) = W at HO HWS h200
          have HPL := Lib.hid (refPlace_any u5 W s wr (RdV.of_owns HO.out))
          have HNEG := Lib.hid (placeS_neg (ws := W) (s := s))
          clear hW
          by_cases hin : s ∈ W
          · have HWE := Lib.hid (HWS.out.trans (addW_in hin))
            have d2 : decide (0 ≤ placeS W s) = true := decide_eq_true (by have := mt HNEG.out.1 (fun h => h hin); omega)
            generalize placeS W s = pl at HPL d2
            go_wp2_with fail
            refine HPL.out.mono ?_
            rintro e w3 ⟨rfl, rfl⟩
            go_wp2_with fail
            go_roundw
            case rel => exact ⟨j + 1, by omega, by go_num, HL2.out, by rw [HWE.out]; exact h200, by rw [HWE.out]; exact HO.out, HX.out⟩
            case measure => simp [intOf]; omega
          · have HWE := Lib.hid (HWS.out.trans (addW_new hin))
            have d2 : decide (0 ≤ placeS W s) = false := decide_eq_false (by have := HNEG.out.2 hin; omega)
            obtain ⟨vo, vc, rfl, hv1, hv2⟩ := own_shapeP HO.out
            generalize placeS W s = pl at HPL d2
            by_cases hfull : W.length = 200
            · have HNO := Lib.hid (show ofS10 l = ([], [], 3) from ofS10_no (fun h => by
                have h3 := h.2.2
                have h4 := HWT.out
                rw [HWE.out, length_insW] at h4
                omega))
              have d3 : ((W.length : Int) == 200) = true := by rw [beq_iff_eq]; omega
              clear hfull hin
              go_wp2_with fail
              refine HPL.out.mono ?_
              rintro e w3 ⟨rfl, rfl⟩
              go_wp2_with fail
              refine bodyPost_ret (v := .tuple #[.slice none 0 0, .slice none 0 0, .int .i64 3]) (by simp [results, Try.results11, go_sem]) rfl ⟨⟨_, _, by rw [HNO.out], by rw [HNO.out]; exact RdV.nil _, by rw [HNO.out]; exact RdV.nil _⟩, HX.out⟩
            · have d3 : ((W.length : Int) == 200) = false := by rw [beq_eq_false_iff_ne]; omega
              go_wp2_with fail
              refine HPL.out.mono ?_
              rintro e w3 ⟨rfl, rfl⟩
              have hW200 : W.length < 200 := by omega
              have HIN := Lib.hid hin
              clear hin hfull h200
              go_wp2_with fail
              have HO1 := Lib.hid HO.out
              go_loopw [7] (fun k wi => ∃ kn : Nat, kn ≤ W.length ∧ k = .int .i64 kn ∧ (∀ i, (hi : i < W.length) → i < kn → W[i] < s) ∧ wi.ownsRow w.heap.size 9 1 (.slice vo W.length vc) W.length (W.map tv) ∧ Ext w wi) (fun k _ => W.length - (intOf k).toNat)
              case atStart => exact ⟨0, Nat.zero_le _, rfl, fun i _ h => by omega, HO1.out, HX.out⟩
              case round =>
                obtain ⟨kn, hkn, rfl, hb1, ho2, hx2⟩ := hrel
                have HB1 := Lib.hid hb1
                have HO2 := Lib.hid ho2
                have HX2 := Lib.hid hx2
                obtain ⟨-, -, -, hat2⟩ := RdV.plainV (RdV.of_owns ho2)
                have HAT2 := Lib.hid hat2
                have hcl : ∀ z : Later Ext wr.drew, z.val.cell? ⟨g, off + j, none⟩ = some (.string ⟨s.toArray⟩) := fun z => HC.out z.val (Ext.trans hx2 (Ext.trans (Ext.drew wr) z.ext))
                clear hb1 ho2 hx2 hat2
                by_cases hk : kn < W.length
                · obtain ⟨g2, off2, rfl, hcw⟩ := HAT2.out kn (tv W[kn]) (by rw [List.getElem?_map, List.getElem?_eq_getElem hk]; rfl)
                  have hcw2 : ∀ z : Later Ext wr.drew, z.val.cell? ⟨g2, off2 + kn, none⟩ = some (.string ⟨W[kn].toArray⟩) := fun z => ((Ext.trans (Ext.drew wr) z.ext).cell (lt_of_cell hcw)).trans hcw
                  have HNX := Lib.hid (fun (h : W[kn] < s) => (show ∀ i, (hi : i < W.length) → i < kn + 1 → W[i] < s from fun i hi hik => by
                    by_cases e : i = kn
                    · subst e; exact h
                    · exact HB1.out i hi (by omega)))
                  have HEX := Lib.hid (fun (h : ¬ W[kn] < s) => insW_at hkn HB1.out (fun _ => h))
                  generalize W[kn] = t at hcw2 HNX HEX
                  clear hcw
                  have d5 : decide (kn < W.length) = true := decide_eq_true hk
                  by_cases hts : t < s
                  · have HN2 := Lib.hid (HNX.out hts)
                    have d6 : Op.bytesLess t s = true := (tless_iff t s).2 hts
                    clear hts
                    go_wp2_with fail
                    refine wp_region_segs Ext Ext.keeps [(List.range 15, none)] (by kernel_rfl) (by kernel_rfl) (fun c a a' w e h => (by exact ⟨e ▸ h.1, h.2⟩)) ?_
                    simp only [List.range, List.range.loop, pickSegs, pickOps, List.map_cons, List.map_nil, Option.map_none, Option.getD_some, List.getElem?_toArray, List.getElem?_cons_zero, List.getElem?_cons_succ]
                    refine wpSegs_none ?_
                    repeat go_big_quiet_step (fail)
                    refine wpQuiet_nil (wpSegs_nil ?_)
                    clear hcl hcw2
                    go_wp2_with fail
                    go_roundw
                    case rel => exact ⟨kn + 1, by omega, by go_num, HN2.out, owns_ext HO2.out (Ext.drew wr), Ext.trans HX2.out (Ext.drew wr)⟩
                    case measure => simp [intOf]; omega
                  · have HINS := Lib.hid (HEX.out hts)
                    have d6 : Op.bytesLess t s = false := by rw [tless_dec]; exact decide_eq_false hts
                    clear hts
                    go_wp2_with fail
                    refine wp_region_segs Ext Ext.keeps [(List.range 15, none)] (by kernel_rfl) (by kernel_rfl) (fun c a a' w e h => (by exact ⟨e ▸ h.1, h.2⟩)) ?_
                    simp only [List.range, List.range.loop, pickSegs, pickOps, List.map_cons, List.map_nil, Option.map_none, Option.getD_some, List.getElem?_toArray, List.getElem?_cons_zero, List.getElem?_cons_succ]
                    refine wpSegs_none ?_
                    repeat go_big_quiet_step (fail)
                    refine wpQuiet_nil (wpSegs_nil ?_)
                    clear hcl hcw2
                    have HOD := Lib.hid (owns_ext HO2.out (Ext.drew wr))
                    have HXD := Lib.hid (Ext.trans HX2.out (Ext.drew wr))
                    generalize wr.drew = wd at HOD HXD ⊢
                    obtain ⟨ra, rcap, hrr, hsl⟩ := slice_restV Try.underlying22 hi1 hy1 (RdV.of_owns HOD.out) kn hkn
                    have HRR := Lib.hid (hrr.mono (ext_new wd (.cells #[] 9)))
                    have HTO := Lib.hid (tv_oneCell (W.drop kn))
                    have HDL := Lib.hid (show ((W.map tv).drop kn).length = W.length - kn by rw [List.length_drop, List.length_map])
                    rw [List.map_drop] at HTO
                    clear hrr
                    go_wp2_with (at_builtin; go_must (refine wpList_append_rd rfl (.tmp 53) (.tmp 56) 22 rfl wd.heap.size 9 i1 (.string ByteArray.empty) 16 Try.underlying22 hi1 hy0 hy1 hy2 rfl _ _ _ rfl (empty_text wd) _ _ rfl HRR.out HTO.out (by rw [HDL.out]; unfold maxLen; omega) (by rw [HDL.out]; omega) (by simp) ?_); intro v5 w5 hown5 hgrow5; have HO5 := Lib.hid hown5; have HX5 := Lib.hid (show Ext wd w5 from (ext_new wd _).grown hgrow5 (by simp) (fun k hk => by cases hk; exact Nat.le_refl _)); clear hown5 hgrow5)
                    have HX05 := Lib.hid (show Below w.heap.size w w5 from Ext.trans HXD.out HX5.out)
                    have hcl5 : ∀ z : Later (Below w.heap.size) w5.drew, z.val.cell? ⟨g, off + j, none⟩ = some (.string ⟨s.toArray⟩) := fun z => HC.out z.val (HX05.out.trans ((Below.drew (Below.refl w.heap.size w5)).trans z.ext))
                    have HO6 := Lib.hid (owns_ext (owns_ext HOD.out HX5.out) (Ext.drew w5))
                    have HX6 := Lib.hid (show Below w.heap.size w w5.drew from HX05.out.trans (Below.drew (Below.refl w.heap.size w5)))
                    have HR6 := Lib.hid ((RdV.of_owns HO5.out).mono (Ext.drew w5))
                    have HBL := Lib.hid (show ∀ k, v5.ownBlock = some k → wd.heap.size ≤ k from fun k hk => (HO5.out.lt k hk).1)
                    have HBW := Lib.hid (fun (n k : Nat) (hk : (Value.slice (some ⟨g2, off2, none⟩) n vc).ownBlock = some k) => (show k < wd.heap.size from (HOD.out.lt k ((ownBlock_len (some ⟨g2, off2, none⟩) W.length n vc).trans hk)).2))
                    rw [List.nil_append] at HR6
                    refine wp_region_segs (Below w.heap.size) (Below.keepsD _) [([0, 1, 2, 3, 4, 5, 6], some 7), ([], some 8), ([9], none)] (by kernel_rfl) (by kernel_rfl) (fun c a a' w e h => (by exact ⟨e ▸ h.1, h.2⟩)) ?_
                    simp only [pickSegs, pickOps, List.map_cons, List.map_nil, Option.map_some, Option.map_none, Option.getD_some, List.getElem?_toArray, List.getElem?_cons_zero, List.getElem?_cons_succ]
                    refine wpSegs_some fun KK hKK => ?_
                    repeat go_big_quiet_step (fail)
                    refine wpQuiet_nil ?_
                    clear hcl5
                    generalize w5.drew = w6 at HO6 HX6 HR6 ⊢
                    have HSZ6 := Lib.hid HX6.out.size
                    go_wp2_with fail
                    refine ⟨(Below.refl w.heap.size w6).alloc HSZ6.out _, hKK _ _ ?_⟩
                    clear hKK KK
                    refine wpSegs_some fun KK hKK => ?_
                    refine wpQuiet_nil ?_
                    have HO6k := Lib.hid (owns_take HO6.out kn hkn)
                    go_wp2_with (at_builtin; go_must (refine wpList_append_own _ rfl (.tmp 60) (.tmp 65) 22 rfl w.heap.size 9 i1 (.string ByteArray.empty) 1 16 Try.underlying22 hi1 hy0 hy1 hy2 rfl (by decide) _ _ _ rfl (HO6k.out.alloc _) ⟨w6.heap.size, 0, none⟩ 1 1 [tv s] rfl rfl (row_new _ _ _) (by simp [tv, Value.oneCell']) (by unfold maxLen; omega) (by omega) (by have := HSZ6.out; simp; omega) ?_); intro v7 w7 hown7 hgrow7 _; have HO7 := Lib.hid hown7; have HG7 := Lib.hid (OnlyS.of_grown hgrow7); have HB7 := Lib.hid ((Below.refl w.heap.size (w6.alloc (.cells #[tv s] 9))).grown hgrow7 (by have := HSZ6.out; simp; omega) (fun b hb => (HO6k.out.lt b hb).1)); clear hown7 hgrow7)
                    refine ⟨HB7.out, hKK _ _ ?_⟩
                    clear hKK KK
                    simp only [Act.put, List.setIfInBounds_toArray, List.set]
                    refine wpSegs_none ?_
                    repeat go_big_quiet_step (fail)
                    refine wpQuiet_nil (wpSegs_nil ?_)
                    have HR7 := Lib.hid (RdV.onlyS (HR6.out.mono (ext_new w6 (.cells #[tv s] 9))) HG7.out (fun _ k hk hx => by
                      have h1 := HBL.out k hk
                      have h2 := HBW.out kn k hx
                      omega))
                    have HX7 := Lib.hid (show Below w.heap.size w w7 from HX6.out.trans (((Below.refl w.heap.size w6).alloc HSZ6.out _).trans HB7.out))
                    have HSZ7 := Lib.hid HX7.out.size
                    go_wp2_with (at_builtin; go_must (refine wpList_append_rd rfl (.tmp 67) (.tmp 68) 22 rfl w.heap.size 9 i1 (.string ByteArray.empty) 16 Try.underlying22 hi1 hy0 hy1 hy2 rfl _ _ _ rfl HO7.out _ _ rfl HR7.out HTO.out (by rw [HDL.out]; unfold maxLen; omega) (by rw [HDL.out]; omega) HSZ7.out ?_); intro v8 w8 hown8 hgrow8; have HO8 := Lib.hid hown8; have HB8 := Lib.hid ((Below.refl w.heap.size w7).grown hgrow8 HSZ7.out (fun b hb => (HO7.out.lt b hb).1)); clear hown8 hgrow8)
                    go_roundw
                    case rel =>
                      refine ⟨j + 1, by omega, by go_num, HL2.out, by rw [HWE.out, length_insW]; omega, ?_, HX7.out.trans HB8.out⟩
                      rw [HWE.out, HINS.out]
                      have h := HO8.out
                      rw [HDL.out] at h
                      have e1 : (W.take kn ++ s :: W.drop kn).length = kn + 1 + (W.length - kn) := by
                        rw [List.length_append, List.length_cons, List.length_take, List.length_drop]
                        omega
                      have e2 : (W.take kn ++ s :: W.drop kn).map tv = (W.map tv).take kn ++ [tv s] ++ (W.map tv).drop kn := by
                        rw [List.map_append, List.map_cons, List.map_take, List.map_drop, List.append_assoc]
                        rfl
                      rw [e1, e2]
                      exact h
                    case measure => simp [intOf]; omega
                · have HINS := Lib.hid (insW_at hkn HB1.out (fun h => absurd h hk))
                  have d5 : decide (kn < W.length) = false := decide_eq_false hk
                  go_wp2_with fail
                  refine wp_region_segs Ext Ext.keeps [(List.range 15, none)] (by kernel_rfl) (by kernel_rfl) (fun c a a' w e h => (by exact ⟨e ▸ h.1, h.2⟩)) ?_
                  simp only [List.range, List.range.loop, pickSegs, pickOps, List.map_cons, List.map_nil, Option.map_none, Option.getD_some, List.getElem?_toArray, List.getElem?_cons_zero, List.getElem?_cons_succ]
                  refine wpSegs_none ?_
                  repeat go_big_quiet_step (fail)
                  refine wpQuiet_nil (wpSegs_nil ?_)
                  clear hcl
                  have HOD := Lib.hid (owns_ext HO2.out (Ext.drew wr))
                  have HXD := Lib.hid (Ext.trans HX2.out (Ext.drew wr))
                  generalize wr.drew = wd at HOD HXD ⊢
                  obtain ⟨ra, rcap, hrr, hsl⟩ := slice_restV Try.underlying22 hi1 hy1 (RdV.of_owns HOD.out) kn hkn
                  have HRR := Lib.hid (hrr.mono (ext_new wd (.cells #[] 9)))
                  have HTO := Lib.hid (tv_oneCell (W.drop kn))
                  have HDL := Lib.hid (show ((W.map tv).drop kn).length = W.length - kn by rw [List.length_drop, List.length_map])
                  rw [List.map_drop] at HTO
                  clear hrr
                  go_wp2_with (at_builtin; go_must (refine wpList_append_rd rfl (.tmp 53) (.tmp 56) 22 rfl wd.heap.size 9 i1 (.string ByteArray.empty) 16 Try.underlying22 hi1 hy0 hy1 hy2 rfl _ _ _ rfl (empty_text wd) _ _ rfl HRR.out HTO.out (by rw [HDL.out]; unfold maxLen; omega) (by rw [HDL.out]; omega) (by simp) ?_); intro v5 w5 hown5 hgrow5; have HO5 := Lib.hid hown5; have HX5 := Lib.hid (show Ext wd w5 from (ext_new wd _).grown hgrow5 (by simp) (fun k hk => by cases hk; exact Nat.le_refl _)); clear hown5 hgrow5)
                  have HX05 := Lib.hid (show Below w.heap.size w w5 from Ext.trans HXD.out HX5.out)
                  have hcl5 : ∀ z : Later (Below w.heap.size) w5.drew, z.val.cell? ⟨g, off + j, none⟩ = some (.string ⟨s.toArray⟩) := fun z => HC.out z.val (HX05.out.trans ((Below.drew (Below.refl w.heap.size w5)).trans z.ext))
                  have HO6 := Lib.hid (owns_ext (owns_ext HOD.out HX5.out) (Ext.drew w5))
                  have HX6 := Lib.hid (show Below w.heap.size w w5.drew from HX05.out.trans (Below.drew (Below.refl w.heap.size w5)))
                  have HR6 := Lib.hid ((RdV.of_owns HO5.out).mono (Ext.drew w5))
                  have HBL := Lib.hid (show ∀ k, v5.ownBlock = some k → wd.heap.size ≤ k from fun k hk => (HO5.out.lt k hk).1)
                  have HBW := Lib.hid (fun (n k : Nat) (hk : (Value.slice vo n vc).ownBlock = some k) => (show k < wd.heap.size from (HOD.out.lt k ((ownBlock_len vo W.length n vc).trans hk)).2))
                  rw [List.nil_append] at HR6
                  refine wp_region_segs (Below w.heap.size) (Below.keepsD _) [([0, 1, 2, 3, 4, 5, 6], some 7), ([], some 8), ([9], none)] (by kernel_rfl) (by kernel_rfl) (fun c a a' w e h => (by exact ⟨e ▸ h.1, h.2⟩)) ?_
                  simp only [pickSegs, pickOps, List.map_cons, List.map_nil, Option.map_some, Option.map_none, Option.getD_some, List.getElem?_toArray, List.getElem?_cons_zero, List.getElem?_cons_succ]
                  refine wpSegs_some fun KK hKK => ?_
                  repeat go_big_quiet_step (fail)
                  refine wpQuiet_nil ?_
                  clear hcl5
                  generalize w5.drew = w6 at HO6 HX6 HR6 ⊢
                  have HSZ6 := Lib.hid HX6.out.size
                  go_wp2_with fail
                  refine ⟨(Below.refl w.heap.size w6).alloc HSZ6.out _, hKK _ _ ?_⟩
                  clear hKK KK
                  refine wpSegs_some fun KK hKK => ?_
                  refine wpQuiet_nil ?_
                  have HO6k := Lib.hid (owns_take HO6.out kn hkn)
                  go_wp2_with (at_builtin; go_must (refine wpList_append_own _ rfl (.tmp 60) (.tmp 65) 22 rfl w.heap.size 9 i1 (.string ByteArray.empty) 1 16 Try.underlying22 hi1 hy0 hy1 hy2 rfl (by decide) _ _ _ rfl (HO6k.out.alloc _) ⟨w6.heap.size, 0, none⟩ 1 1 [tv s] rfl rfl (row_new _ _ _) (by simp [tv, Value.oneCell']) (by unfold maxLen; omega) (by omega) (by have := HSZ6.out; simp; omega) ?_); intro v7 w7 hown7 hgrow7 _; have HO7 := Lib.hid hown7; have HG7 := Lib.hid (OnlyS.of_grown hgrow7); have HB7 := Lib.hid ((Below.refl w.heap.size (w6.alloc (.cells #[tv s] 9))).grown hgrow7 (by have := HSZ6.out; simp; omega) (fun b hb => (HO6k.out.lt b hb).1)); clear hown7 hgrow7)
                  refine ⟨HB7.out, hKK _ _ ?_⟩
                  clear hKK KK
                  simp only [Act.put, List.setIfInBounds_toArray, List.set]
                  refine wpSegs_none ?_
                  repeat go_big_quiet_step (fail)
                  refine wpQuiet_nil (wpSegs_nil ?_)
                  have HR7 := Lib.hid (RdV.onlyS (HR6.out.mono (ext_new w6 (.cells #[tv s] 9))) HG7.out (fun _ k hk hx => by
                    have h1 := HBL.out k hk
                    have h2 := HBW.out kn k hx
                    omega))
                  have HX7 := Lib.hid (show Below w.heap.size w w7 from HX6.out.trans (((Below.refl w.heap.size w6).alloc HSZ6.out _).trans HB7.out))
                  have HSZ7 := Lib.hid HX7.out.size
                  go_wp2_with (at_builtin; go_must (refine wpList_append_rd rfl (.tmp 67) (.tmp 68) 22 rfl w.heap.size 9 i1 (.string ByteArray.empty) 16 Try.underlying22 hi1 hy0 hy1 hy2 rfl _ _ _ rfl HO7.out _ _ rfl HR7.out HTO.out (by rw [HDL.out]; unfold maxLen; omega) (by rw [HDL.out]; omega) HSZ7.out ?_); intro v8 w8 hown8 hgrow8; have HO8 := Lib.hid hown8; have HB8 := Lib.hid ((Below.refl w.heap.size w7).grown hgrow8 HSZ7.out (fun b hb => (HO7.out.lt b hb).1)); clear hown8 hgrow8)
                  go_roundw
                  case rel =>
                    refine ⟨j + 1, by omega, by go_num, HL2.out, by rw [HWE.out, length_insW]; omega, ?_, HX7.out.trans HB8.out⟩
                    rw [HWE.out, HINS.out]
                    have h := HO8.out
                    rw [HDL.out] at h
                    have e1 : (W.take kn ++ s :: W.drop kn).length = kn + 1 + (W.length - kn) := by
                      rw [List.length_append, List.length_cons, List.length_take, List.length_drop]
                      omega
                    have e2 : (W.take kn ++ s :: W.drop kn).map tv = (W.map tv).take kn ++ [tv s] ++ (W.map tv).drop kn := by
                      rw [List.map_append, List.map_cons, List.map_take, List.map_drop, List.append_assoc]
                      rfl
                    rw [e1, e2]
                    exact h
                  case measure => simp [intOf]; omega
      · have HALL := Lib.hid (show l.take j = l from List.take_of_length_le (by have := HN.out; omega))
        have HOK := Lib.hid (show okTexts l from ⟨by have := HN.out; omega, by have h := HLEN.out; rwa [HALL.out] at h, by have h := h200; rwa [HALL.out] at h⟩)
        have HYES := Lib.hid (ofS10_ok HOK.out)
        rw [HALL.out] at HO h200
        generalize wordsOf l = W at HO h200 HYES
        have HRW := Lib.hid (RdV.of_owns HO.out)
        obtain ⟨vo, vc, rfl, hv1, hv2⟩ := own_shapeP HO.out
        go_wp2_with fail
        have HX0 := Lib.hid HX.out
        have HPL := Lib.hid (fun s W2 (h : Ext wr W2) => refPlace_any (.slice vo W.length vc) W s W2 (HRW.out.mono h))
        obtain ⟨wq, hwq⟩ : ∃ wq, wq = wr := ⟨_, rfl⟩
        rw [← hwq] at HPL HX0 HRW
        go_loopw [9, 10] (fun r i wk => ∃ k : Nat, k ≤ N ∧ i = .int .i64 k ∧ wk.ownsRow wq.heap.size 3 1 r ((l.take k).map (placeS W)).length (((l.take k).map (placeS W)).map (Value.int .i64)) ∧ Ext wq wk) (fun _ i _ => N - (intOf i).toNat)
        case atStart => exact ⟨0, Nat.zero_le _, rfl, owns_nil _ _ _ _, by rw [hwq]; exact Ext.keeps.refl _⟩
        case round =>
          obtain ⟨k, hk, rfl, hown, hx⟩ := hrel
          have HO3 := Lib.hid hown
          have HX3 := Lib.hid hx
          clear hown hx hwq
          by_cases hlt2 : k < N
          · have hkl : k < l.length := by have := HN.out; omega
            obtain ⟨g, off, rfl, hcx⟩ := HAT.out k hkl
            have hc := ((Ext.trans HX0.out HX3.out).cell (lt_of_cell hcx)).trans hcx
            have HS := Lib.hid (List.take_succ_eq_append_getElem hkl)
            have HLE2 := Lib.hid (show ((l.take k).map (placeS W)).length ≤ 4096 by rw [List.length_map, List.length_take]; omega)
            have HSZ := Lib.hid HX3.out.size
            generalize l[k] = s at hc HS
            have HP := Lib.hid (HPL.out s wr HX3.out)
            generalize hp : placeS W s = pl at HP
            have HPC := Lib.hid hp
            clear hcx hkl hp
            go_wp2_with fail
            refine HP.out.mono ?_
            rintro e w3 ⟨rfl, rfl⟩
            go_wp2_with (at_builtin; go_must (refine wpList_append_own _ rfl (.tmp 76) (.tmp 83) 23 rfl wq.heap.size 3 i2 (.int .i64 0) 1 8 Try.underlying23 hi2 hx0 hx1 hx2 rfl (by decide) _ _ _ rfl (HO3.out.alloc _) ⟨wr.heap.size, 0, none⟩ 1 1 [_] rfl rfl (row_new _ _ _) (by simp [Value.oneCell']) (by have := HLE2.out; unfold maxLen; omega) (by have := HLE2.out; omega) (by have := HSZ.out; simp; omega) ?_); intro v4 w4 hown4 hgrow4 _; have HO4 := Lib.hid hown4; have HB4 := Lib.hid (((Below.refl wq.heap.size wr).alloc HSZ.out _).grown hgrow4 (by simp; have := HSZ.out; omega) (fun b hb => (HO3.out.lt b hb).1)); clear hown4 hgrow4)
            go_roundw
            case rel =>
              refine ⟨k + 1, by omega, by go_num, ?_, (show Below wq.heap.size wq wr from HX3.out).trans HB4.out⟩
              rw [HS.out, List.map_append, List.map_append, List.length_append]
              have h := HO4.out
              rw [← HPC.out] at h
              exact h
            case measure => simp [intOf]; omega
          · have HALL2 := Lib.hid (show l.take k = l from List.take_of_length_le (by have := HN.out; omega))
            have HRP := Lib.hid (RdV.of_owns HO3.out)
            rw [HALL2.out] at HRP
            go_wp2_with fail
            refine bodyPost_ret (v := .tuple #[.slice vo W.length vc, u9, .int .i64 0]) (by simp [results, Try.results11, go_sem]) rfl ⟨⟨_, _, by rw [HYES.out], by rw [HYES.out]; exact HRW.out.mono HX3.out, by rw [HYES.out]; exact HRP.out⟩, Ext.trans HX0.out HX3.out⟩

end Go.Proofs.Ytcaidgdnneomaaa
