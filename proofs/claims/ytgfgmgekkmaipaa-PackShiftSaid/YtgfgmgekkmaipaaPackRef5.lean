/-
  The contract of the document's own Unframe.
-/
import Derived.Test.YtgfgmgekkmaipaaPackRef4
import Derived.Test.YtgfgmgekkmaipaaPackFrame
import Derived.Test.YtgfgmgekkmaipaaRefRead
namespace Go.Proofs.Ytgfgmgekkmaipaa
open Go.RowKit Go.BigFrame

theorem only_below {g N : Nat} {w w' : World} (h : Only g w w') (hN : N ≤ w.heap.size) (hg : N ≤ g) : Below N w w' :=
  ⟨h.os, h.tape, h.output, h.size, fun k hk => h.block k (by omega) (fun e => by have : k = g := (by simpa using e); omega)⟩
/-- The numbers by how much they are more than z. -/
def backL (z : Int) (ms : List Nat) : List Int := ms.map fun n : Nat => wrap64 (z + (n : Int))
theorem backL_take {z : Int} {ms : List Nat} {k : Nat} (hk : k < ms.length) : (backL z ms).take (k + 1) = (backL z ms).take k ++ [wrap64 (z + ((ms[k] : Nat) : Int))] := by
  have h : k < (backL z ms).length := by unfold backL; rw [List.length_map]; exact hk
  rw [List.take_succ_eq_append_getElem h]
  have e : (backL z ms)[k] = wrap64 (z + ((ms[k] : Nat) : Int)) := by simp only [backL, List.getElem_map]
  rw [e]
theorem backL_fits (z : Int) (ms : List Nat) : ∀ x ∈ backL z ms, -9223372036854775808 ≤ x ∧ x ≤ 9223372036854775807 := by
  intro x hx
  obtain ⟨n, _, rfl⟩ := List.mem_map.1 hx
  unfold wrap64
  omega
theorem backL_more {l : List Int} (h : ∀ x ∈ l, -9223372036854775808 ≤ x ∧ x ≤ 9223372036854775807) : backL (leastS l) (moreS l) = l := by
  have e : backL (leastS l) (moreS l) = (moreS l).map fun n : Nat => leastS l + (n : Int) := by
    unfold backL
    refine List.map_congr_left fun n hn => ?_
    obtain ⟨x, hx, rfl⟩ := List.mem_map.1 hn
    have h1 := leastS_le hx
    have h2 := h x hx
    unfold wrap64
    omega
  rw [e, more_back]
theorem wrap_sum (z : Int) (n : Nat) : wrap64 (IntKind.u64.wrap (IntKind.u64.wrap z + (n : Int))) = wrap64 (z + n) := by
  have e : IntKind.u64.wrap (IntKind.u64.wrap z + (n : Int)) = (z % 18446744073709551616 + (n : Int)) % 18446744073709551616 := rfl
  rw [e]
  unfold wrap64
  omega

set_option maxRecDepth 100000 in
set_option maxHeartbeats 4000000 in
theorem refUnframe_any (u : Value) (b : List UInt8) (w : World) (hu : Rd w u b) (hb : b.length ≤ 100000) :
    Calls Try.prog 23 #[u] w fun e w' => AnsI w (unframeS b) e w' := by
  obtain ⟨i0, hi, hz0, hz1, hz2⟩ := info_parts Try.info_int8
  obtain ⟨i1, hi1, hy0, hy1, hy2⟩ := info_parts Try.info5
  have HU := Lib.hid hu
  have HB := Lib.hid hb
  have HOC := Lib.hid (bv_oneCell b)
  have HLM := Lib.hid (show (b.map bv).length = b.length from List.length_map _)
  have HO0 := Lib.hid (empty_owned w)
  have HR0 := Lib.hid (hu.mono (ext_new w (.cells #[] 5)))
  obtain ⟨ao, cap, rfl, h1, h2⟩ := hu.shape
  obtain ⟨N, hN⟩ : ∃ N, b.length = N := ⟨_, rfl⟩
  have HN := Lib.hid hN
  rw [hN] at h1 HU HR0 HLM hb ⊢
  unfold maxLen at h2
  clear hu hN
  go_enter Try.func23, Try.ntmps23
  go_wp2_with (at_builtin; go_must (refine wpList_append_rd rfl (.tmp 14) (.tmp 15) 24 rfl w.heap.size 5 i1 (.int .u8 0) 1 Try.underlying24 hi1 hy0 hy1 hy2 rfl _ _ _ rfl HO0.out _ _ rfl HR0.out HOC.out (by rw [HLM.out]; unfold maxLen; omega) (by rw [HLM.out]; omega) (by simp) ?_); intro v1 w1 hown1 hgrow1; rw [List.nil_append, Nat.zero_add, HLM.out] at hown1; obtain ⟨so, sc, rfl, hsc1, hsc2⟩ := own_shapeP hown1; have HO1 := Lib.hid hown1; have HX1 := Lib.hid (show Ext w w1 from (ext_new w _).grown hgrow1 (by simp) (fun k hk => by cases hk; exact Nat.le_refl _)); clear hown1 hgrow1)
  have HRR := Lib.hid (show RRef w.heap.size (w1.alloc (.cells #[.slice so N sc, .bool false] 59)) w1.heap.size b false from ⟨_, heap_alloc_new _ _, (show Rd w1 _ b from RdV.of_owns HO1.out).mono (ext_new w1 _), fun k hk => (HO1.out.lt k hk).1⟩)
  have HG := Lib.hid (show w.heap.size ≤ w1.heap.size from HX1.out.size)
  have HX1' := Lib.hid (Ext.trans HX1.out (ext_new w1 (.cells #[.slice so N sc, .bool false] 59)))
  obtain ⟨W1, hW1⟩ : ∃ W1, W1 = w1.alloc (.cells #[.slice so N sc, .bool false] 59) := ⟨_, rfl⟩
  rw [← hW1]
  rw [← hW1] at HRR
  rw [← hW1] at HX1'
  obtain ⟨g, hg⟩ : ∃ g, w1.heap.size = g := ⟨_, rfl⟩
  rw [hg] at HRR HG ⊢
  clear hW1 hg hsc1 hsc2
  have HBE := Lib.hid (fun (W W' : World) (h : Ext w W) (ho : Only g W W') => (show Ext w W' from Below.trans h (only_below ho h.size HG.out)))
  have HFF := Lib.hid (fun l (h : IsFrame b l) => frame_front h)
  have HFT := Lib.hid (fun l (h : IsFrame b l) (hn : l ≠ []) => frame_tells h hn)
  by_cases hs : (front b).2 = 0
  · have HNO := Lib.hid (show unframeS b = ([], 6) from frame_none (fun h => h.1 hs) (fun h => by rw [h] at hs; exact absurd hs (by decide)))
    refine (refRNum_no _ g b false W1 HRR.out hs).mono ?_
    rintro e w2 ⟨rfl, hr2, ho2⟩
    have HR2 := Lib.hid hr2
    have HX2 := Lib.hid (HBE.out _ _ HX1'.out ho2)
    clear hr2 ho2
    go_wp2_with fail
    refine (refEnd_any _ g [] true w2 HR2.out).mono ?_
    rintro e w3 ⟨rfl, rfl⟩
    rw [if_neg (by simp)]
    go_wp2_with fail
    go_ret2
    exact ⟨_, by rw [HNO.out]; rfl, by rw [HNO.out]; exact owns_nil _ _ _ _, HX2.out⟩
  · obtain ⟨n, s, hfr⟩ : ∃ n s, front b = (n, s) := ⟨_, _, rfl⟩
    have HFR := Lib.hid hfr
    rw [hfr] at hs
    simp only at hs
    obtain ⟨hn64, hsl, hbd⟩ := front_sound b n s hfr hs
    refine (refRNum_yes _ g b false n s W1 HRR.out hfr hs).mono ?_
    rintro e w2 ⟨rfl, hr2, ho2⟩
    have HR2 := Lib.hid hr2
    have HX2 := Lib.hid (HBE.out _ _ HX1'.out ho2)
    have HBD := Lib.hid hbd
    have HS := Lib.hid hs
    have hn64' : n < 18446744073709551616 := hn64
    clear hr2 ho2 hfr hbd hs hsl hn64
    by_cases hn0 : n = 0
    · subst hn0
      by_cases hrest : b.drop s = []
      · have HYES := Lib.hid (show unframeS b = ([], 0) from unframe_yes (by
          have hbe := HBD.out
          rw [hrest, List.append_nil] at hbe
          rw [hbe]
          exact frame_nil))
        rw [hrest] at HR2
        clear hrest
        go_wp2_with fail
        refine (refEnd_any _ g [] false w2 HR2.out).mono ?_
        rintro e w3 ⟨rfl, rfl⟩
        rw [if_pos ⟨rfl, rfl⟩]
        go_wp2_with fail
        go_ret2
        exact ⟨_, by rw [HYES.out]; rfl, by rw [HYES.out]; exact owns_nil _ _ _ _, HX2.out⟩
      · have HNO := Lib.hid (show unframeS b = ([], 6) from frame_none (fun h => by rw [HFR.out] at h; exact h.2.1 rfl) (fun h => by
          have hbe := HBD.out
          rw [h] at hbe
          have hl := congrArg List.length hbe
          rw [List.length_append] at hl
          rw [h] at hrest
          exact hrest (List.length_eq_zero_iff.1 (by omega))))
        have HEND := Lib.hid (show Calls Try.prog 39 #[.pointer (some ⟨g, 0, none⟩)] w2 fun e w' => e = .returned (.int .i64 6) ∧ w2 = w' from by
          have h := refEnd_any _ g (b.drop s) false w2 HR2.out
          rw [if_neg (fun h => hrest (List.length_eq_zero_iff.1 h.2))] at h
          exact h)
        clear hrest
        go_wp2_with fail
        refine HEND.out.mono ?_
        rintro e w3 ⟨rfl, rfl⟩
        go_wp2_with fail
        go_ret2
        exact ⟨_, by rw [HNO.out]; rfl, by rw [HNO.out]; exact owns_nil _ _ _ _, HX2.out⟩
    · by_cases hbig : 4096 < n
      · have HNO := Lib.hid (show unframeS b = ([], 6) from frame_none (fun h => by rw [HFR.out] at h; have := h.2.2; simp only at this; omega) (fun h => by
          have h1 := HFR.out
          rw [h] at h1
          have h2 := congrArg Prod.fst h1
          have h3 : (front (enc 0)).1 = 0 := by decide
          rw [h3] at h2
          exact hn0 h2.symm))
        have hq : ((n : Int) == 0) = false := by rw [beq_eq_false_iff_ne]; omega
        go_wp2_with fail
        go_ret2
        exact ⟨_, by rw [HNO.out]; rfl, by rw [HNO.out]; exact owns_nil _ _ _ _, HX2.out⟩
      · have hq : ((n : Int) == 0) = false := by rw [beq_eq_false_iff_ne]; omega
        have HLN := Lib.hid (fun l (h : IsFrame b l) => (show l.length = n ∧ l ≠ [] from by
          have h1 := (HFF.out l h).1
          rw [HFR.out] at h1
          simp only at h1
          exact ⟨h1.symm, fun hnil => by rw [hnil] at h1; exact hn0 h1⟩))
        obtain ⟨r1, hr1⟩ : ∃ r1, b.drop s = r1 := ⟨_, rfl⟩
        have HRE1 := Lib.hid (show b.drop (front b).2 = r1 by rw [HFR.out]; exact hr1)
        have HL1 := Lib.hid (show r1.length ≤ 100000 by rw [← hr1, List.length_drop]; have := HB.out; omega)
        rw [hr1] at HR2
        clear hr1 hn0
        by_cases hs1 : (front r1).2 = 0
        · have HNO := Lib.hid (show unframeS b = ([], 6) from unframe_no (fun ⟨l, hl⟩ => by
            obtain ⟨_, _, _, a1, a2, _⟩ := HFT.out l hl (HLN.out l hl).2
            rw [HRE1.out] at a1
            subst a1
            exact a2 hs1))
          go_wp2_with fail
          refine (refRInt_no _ g r1 false w2 HR2.out hs1).mono ?_
          rintro e w3 ⟨rfl, hr3, ho3⟩
          have HR3 := Lib.hid hr3
          have HX3 := Lib.hid (HBE.out _ _ HX2.out ho3)
          clear hr3 ho3
          go_wp2_with fail
          refine (refRNum_no _ g [] true w3 HR3.out rfl).mono ?_
          rintro e w4 ⟨rfl, hr4, ho4⟩
          have HX4 := Lib.hid (HBE.out _ _ HX3.out ho4)
          obtain ⟨v4, hb4, -, -⟩ := hr4
          have hc4 := Rdr.cell1 hb4
          clear hb4 ho4
          go_wp2_with fail
          go_ret2
          exact ⟨_, by rw [HNO.out]; rfl, by rw [HNO.out]; exact owns_nil _ _ _ _, HX4.out⟩
        · obtain ⟨n1, s1, hfr1⟩ : ∃ n s, front r1 = (n, s) := ⟨_, _, rfl⟩
          have HFR1 := Lib.hid hfr1
          rw [hfr1] at hs1
          simp only at hs1
          have HS1 := Lib.hid hs1
          go_wp2_with fail
          refine (refRInt_yes _ g r1 false n1 s1 w2 HR2.out hfr1 hs1).mono ?_
          rintro e w3 ⟨rfl, hr3, ho3⟩
          have HR3 := Lib.hid hr3
          have HX3 := Lib.hid (HBE.out _ _ HX2.out ho3)
          obtain ⟨r2, hr2⟩ : ∃ r2, r1.drop s1 = r2 := ⟨_, rfl⟩
          have HRE2 := Lib.hid (show r1.drop (front r1).2 = r2 by rw [HFR1.out]; exact hr2)
          have HL2 := Lib.hid (show r2.length ≤ 100000 by rw [← hr2, List.length_drop]; have := HL1.out; omega)
          rw [hr2] at HR3
          obtain ⟨z, hz⟩ : ∃ z, zag n1 = z := ⟨_, rfl⟩
          have HZ := Lib.hid (show zag (front r1).1 = z by rw [HFR1.out]; exact hz)
          rw [hz]
          clear hr3 ho3 hfr1 hs1 hr2 hz
          by_cases hs2 : (front r2).2 = 0
          · have HNO := Lib.hid (show unframeS b = ([], 6) from unframe_no (fun ⟨l, hl⟩ => by
              obtain ⟨_, _, _, a1, a2, a3, a4, a5, _⟩ := HFT.out l hl (HLN.out l hl).2
              rw [HRE1.out] at a1
              subst a1
              rw [HRE2.out] at a4
              subst a4
              exact a5 hs2))
            go_wp2_with fail
            refine (refRNum_no _ g r2 false w3 HR3.out hs2).mono ?_
            rintro e w4 ⟨rfl, hr4, ho4⟩
            have HX4 := Lib.hid (HBE.out _ _ HX3.out ho4)
            obtain ⟨v4, hb4, -, -⟩ := hr4
            have hc4 := Rdr.cell1 hb4
            clear hb4 ho4 hs2
            go_wp2_with fail
            go_ret2
            exact ⟨_, by rw [HNO.out]; rfl, by rw [HNO.out]; exact owns_nil _ _ _ _, HX4.out⟩
          · obtain ⟨wd, s2, hfr2⟩ : ∃ n s, front r2 = (n, s) := ⟨_, _, rfl⟩
            have HFR2 := Lib.hid hfr2
            rw [hfr2] at hs2
            simp only at hs2
            have hwd64 : wd < 18446744073709551616 := (front_sound r2 wd s2 hfr2 hs2).1
            go_wp2_with fail
            refine (refRNum_yes _ g r2 false wd s2 w3 HR3.out hfr2 hs2).mono ?_
            rintro e w4 ⟨rfl, hr4, ho4⟩
            have HX4 := Lib.hid (HBE.out _ _ HX3.out ho4)
            obtain ⟨r3, hr3⟩ : ∃ r3, r2.drop s2 = r3 := ⟨_, rfl⟩
            have HRE3 := Lib.hid (show r2.drop (front r2).2 = r3 by rw [HFR2.out]; exact hr3)
            have HL3 := Lib.hid (show r3.length ≤ 100000 by rw [← hr3, List.length_drop]; have := HL2.out; omega)
            rw [hr3] at hr4
            obtain ⟨v4, hb4, hrd4, -⟩ := hr4
            have HRD4 := Lib.hid hrd4
            have hc0 := Rdr.cell0 hb4
            have hc1 := Rdr.cell1 hb4
            have HPT := Lib.hid (fun l (h : IsFrame b l) => (show zag (front r1).1 = leastS l ∧ wd = widthS (moreS l) ∧ unpackS r3 (n : Int) (wd : Int) = (moreS l, 0) from by
              obtain ⟨_, _, _, a1, a2, a3, a4, a5, a6, a7, a8⟩ := HFT.out l h (HLN.out l h).2
              rw [HRE1.out] at a1
              subst a1
              rw [HRE2.out] at a4
              subst a4
              rw [HRE3.out] at a7
              subst a7
              rw [HFR2.out] at a6
              simp only at a6
              rw [(HLN.out l h).1, ← a6] at a8
              exact ⟨a3, a6, a8⟩))
            clear ho4 hb4 hrd4 hr3 hfr2 hs2
            by_cases hwbig : 64 < wd
            · have HNO := Lib.hid (show unframeS b = ([], 6) from unframe_no (fun ⟨l, hl⟩ => by
                have h1 := (HPT.out l hl).2.1
                have := widthS_le (moreS l)
                omega))
              clear hc0
              go_wp2_with fail
              go_ret2
              exact ⟨_, by rw [HNO.out]; rfl, by rw [HNO.out]; exact owns_nil _ _ _ _, HX4.out⟩
            · go_wp2_with fail
              clear hc0 hc1
              refine (refUnpack_any v4 r3 (n : Int) (wd : Int) w4 HRD4.out (by have := HL3.out; omega) (by omega) (by omega)).mono ?_
              rintro e w5 ⟨v5, rfl, ho5, hx5⟩
              have HX5 := Lib.hid (Ext.trans HX4.out hx5)
              cases hpu : (unpackS r3 (n : Int) (wd : Int)) with | mk ms er => ?_
              rw [hpu] at ho5
              simp only at ho5 ⊢
              by_cases her : er = 0
              · subst her
                obtain ⟨hlm, hms⟩ : ms.length = n ∧ ∀ l, IsFrame b l → backL z ms = l := by
                  obtain ⟨l', e1, e2, _⟩ := pack_unpack (b := r3) (many := (n : Int)) (width := (wd : Int)) (by rw [hpu])
                  rw [hpu] at e1
                  have e3 : ms = l' := congrArg Prod.fst e1
                  refine ⟨by rw [e3]; omega, fun l hl => ?_⟩
                  obtain ⟨p1, p2, p3⟩ := HPT.out l hl
                  rw [hpu] at p3
                  have p4 : ms = moreS l := congrArg Prod.fst p3
                  rw [HZ.out] at p1
                  rw [p4, p1]
                  exact backL_more hl.1
                have HMS := Lib.hid hms
                have HLM := Lib.hid hlm
                have HRM := Lib.hid (show RdV w5 v5 (ms.map uv) from RdV.of_owns ho5)
                obtain ⟨mo, mc, rfl, hm1, hm2, hmat⟩ := RdV.cellsAt (RdV.of_owns ho5)
                have HAT := Lib.hid hmat
                rw [List.length_map] at hm1 ⊢
                rw [hlm] at hm1 ⊢
                unfold maxLen at hm2
                have HBL := Lib.hid (show (backL z ms).length = n by unfold backL; rw [List.length_map]; exact hlm)
                clear hpu ho5 hx5 hmat hms hlm
                go_wp2_with fail
                go_loopw [10, 11] (fun v i wr => ∃ k : Nat, k ≤ n ∧ i = .int .i64 k ∧ wr.ownsRow w5.heap.size 3 1 v ((backL z ms).take k).length (((backL z ms).take k).map (Value.int .i64)) ∧ Below w5.heap.size w5 wr) (fun _ i _ => n - (intOf i).toNat)
                case atStart => exact ⟨0, Nat.zero_le _, rfl, owns_nil _ _ _ _, Below.refl _ _⟩
                case round =>
                  obtain ⟨k, hk, rfl, hown, hx⟩ := hrel
                  have HO := Lib.hid hown
                  have HX := Lib.hid hx
                  clear hown hx
                  by_cases hlt : k < n
                  · have hkl : k < ms.length := by have := HLM.out; omega
                    obtain ⟨y, rfl, hcv⟩ := HAT.out k (uv ms[k]) (by rw [List.getElem?_map, List.getElem?_eq_getElem hkl]; rfl)
                    have hcx := (HX.out.cell (lt_of_cell hcv)).trans hcv
                    unfold uv at hcx
                    have HTK := Lib.hid (backL_take (z := z) hkl)
                    have HLEN := Lib.hid (show ((backL z ms).take k).length ≤ 4096 by rw [List.length_take]; omega)
                    have HSZ := Lib.hid HX.out.size
                    generalize ms[k] = x at hcx HTK
                    have HWS := Lib.hid (wrap_sum z x)
                    clear hcv hkl
                    go_wp2_with (at_builtin; go_must (refine wpList_append_own _ rfl (.tmp 66) (.tmp 75) 37 rfl w5.heap.size 3 i0 (.int .i64 0) 1 8 Try.underlying37 hi hz0 hz1 hz2 rfl (by decide) _ _ _ rfl (HO.out.alloc _) ⟨wr.heap.size, 0, none⟩ 1 1 [_] rfl rfl (row_new _ _ _) (by simp [Value.oneCell']) (by have := HLEN.out; unfold maxLen; omega) (by have := HLEN.out; omega) (by have := HSZ.out; simp; omega) ?_); intro v6 w6 hown6 hgrow6 _; have HO6 := Lib.hid hown6; have HG6 := Lib.hid hgrow6; clear hown6 hgrow6)
                    go_roundw
                    case rel =>
                      refine ⟨k + 1, by omega, by go_num, ?_, HX.out.trans (((Below.refl w5.heap.size wr).alloc HSZ.out _).grown HG6.out (by simp; have := HSZ.out; omega) (fun b hb => (HO.out.lt b hb).1))⟩
                      have h := HO6.out
                      rw [HWS.out] at h
                      rw [HTK.out, List.map_append, List.length_append]
                      exact h
                    case measure => simp [intOf]; omega
                  · have HK := Lib.hid (show (backL z ms).take k = backL z ms from List.take_of_length_le (by have := HBL.out; omega))
                    have hrow := HO.out
                    rw [HK.out] at hrow
                    have HROW := Lib.hid hrow
                    have HFR' := Lib.hid (show frameS (backL z ms) = (frameB (backL z ms), 0) by unfold frameS; rw [if_pos (by have := HBL.out; omega)])
                    have HXR := Lib.hid (Ext.trans HX5.out HX.out)
                    obtain ⟨lo, lc, rfl, hlc1, hlc2⟩ := own_shapeP hrow
                    have HRL := Lib.hid (show RdV wr _ ((backL z ms).map (Value.int .i64)) from RdV.of_owns hrow)
                    clear hrow
                    go_wp2_with fail
                    refine (refFrame_any _ (backL z ms) wr HRL.out (backL_fits z ms)).mono ?_
                    rintro e w7 ⟨cv, rfl, hoc, hx7⟩
                    rw [HFR'.out] at hoc ⊢
                    have HX7 := Lib.hid (Ext.trans HXR.out hx7)
                    have HR7 := Lib.hid (owns_later HROW.out hx7)
                    have hs1 := (show Rd w7 cv (frameB (backL z ms)) from RdV.of_owns hoc).string (P := Try.prog) 24 9 5 Try.underlying24 Try.underlying5 Try.underlying9
                    have hs2 := (HU.out.mono HX7.out).string (P := Try.prog) 24 9 5 Try.underlying24 Try.underlying5 Try.underlying9
                    clear hoc hx7
                    by_cases hcb : frameB (backL z ms) = b
                    · have HYES := Lib.hid (show unframeS b = (backL z ms, 0) from unframe_yes ⟨backL_fits z ms, by have := HBL.out; omega, hcb⟩)
                      rw [hcb] at hs1
                      clear hcb
                      go_wp2_with fail
                      go_ret2
                      exact ⟨_, by rw [HYES.out]; rfl, by rw [HYES.out]; exact owns_base HR7.out HX5.out.size, HX7.out⟩
                    · have HNO := Lib.hid (show unframeS b = ([], 6) from unframe_no (fun ⟨l, hl⟩ => hcb (by rw [HMS.out l hl]; exact hl.2.2)))
                      have hqq : (frameB (backL z ms) == b) = false := beq_eq_false_iff_ne.2 hcb
                      generalize frameB (backL z ms) = C at hs1 hqq
                      clear hcb
                      go_wp2_with fail
                      go_ret2
                      exact ⟨_, by rw [HNO.out]; rfl, by rw [HNO.out]; exact owns_nil _ _ _ _, HX7.out⟩
              · have HNO := Lib.hid (show unframeS b = ([], 6) from unframe_no (fun ⟨l, hl⟩ => by
                  have h1 := (HPT.out l hl).2.2
                  rw [hpu] at h1
                  exact her (congrArg Prod.snd h1)))
                have hq2 : (er == (0 : Int)) = false := beq_eq_false_iff_ne.2 her
                clear her hpu ho5 hx5
                go_wp2_with fail
                go_ret2
                exact ⟨_, by rw [HNO.out]; rfl, by rw [HNO.out]; exact owns_nil _ _ _ _, HX5.out⟩

end Go.Proofs.Ytgfgmgekkmaipaa
