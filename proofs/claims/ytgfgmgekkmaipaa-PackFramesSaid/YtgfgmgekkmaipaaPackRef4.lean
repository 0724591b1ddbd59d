/-
  The contract of the document's own Frame.
-/
import Derived.Test.YtgfgmgekkmaipaaPackRef3
import Derived.Test.YtgfgmgekkmaipaaRef
namespace Go.Proofs.Ytgfgmgekkmaipaa
open Go.RowKit Go.BigFrame


theorem least_unique {l : List Int} {m : Int} (hm : m ∈ l) (h : ∀ x ∈ l, m ≤ x) : m = leastS l := by
  have h1 := leastS_le hm
  have h2 := h _ (leastS_mem (List.ne_nil_of_mem hm))
  omega
theorem u64_diff {x m : Int} (h0 : m ≤ x) (h1 : x - m < 18446744073709551616) : IntKind.u64.wrap (IntKind.u64.wrap x - IntKind.u64.wrap m) = (((x - m).toNat : Nat) : Int) := by
  rw [Int.toNat_of_nonneg (by omega)]
  show (x % 18446744073709551616 - m % 18446744073709551616) % 18446744073709551616 = x - m
  omega
theorem moreS_take {l : List Int} {j : Nat} (hj : j < l.length) : (moreS l).take (j + 1) = (moreS l).take j ++ [(l[j] - leastS l).toNat] := by
  have h : j < (moreS l).length := by rw [moreS_length]; exact hj
  rw [List.take_succ_eq_append_getElem h]
  have e : (moreS l)[j] = (l[j] - leastS l).toNat := List.getElem_map _
  rw [e]

set_option maxRecDepth 100000 in
set_option maxHeartbeats 2000000 in
theorem refFrame_any (u : Value) (l : List Int) (w : World) (hu : RdV w u (l.map (Value.int .i64))) (hl : ∀ x ∈ l, -9223372036854775808 ≤ x ∧ x ≤ 9223372036854775807) :
    Calls Try.prog 21 #[u] w fun e w' => AnsB w (frameS l) e w' := by
  obtain ⟨i0, hi, hz0, hz1, hz2⟩ := info_parts Try.info_u64
  obtain ⟨i1, hi1, hy0, hy1, hy2⟩ := info_parts Try.info5
  obtain ⟨ao, cap, rfl, h1, h2, hat⟩ := RdV.cellsAt hu
  rw [List.length_map] at h1 ⊢
  have HAT := Lib.hid hat
  have HL := Lib.hid hl
  obtain ⟨N, hN⟩ : ∃ N, l.length = N := ⟨_, rfl⟩
  have HN := Lib.hid hN
  unfold maxLen at h2
  rw [hN] at h1 ⊢
  by_cases hbig : 4096 < N
  · have HANS := Lib.hid (show frameS l = ([], 3) by unfold frameS; rw [hN, if_neg (by omega)])
    clear hat hu hl hN
    go_enter Try.func21, Try.ntmps21
    go_wp2_with fail
    go_ret2
    exact ⟨_, by rw [HANS.out]; rfl, by rw [HANS.out]; exact owns_nil _ _ _ _, Ext.keeps.refl _⟩
  · have HANS := Lib.hid (show frameS l = (frameB l, 0) by unfold frameS; rw [hN, if_pos (by omega)])
    by_cases h0 : N = 0
    · have HFB := Lib.hid (show frameB l = enc N by
        have hnil : l = [] := List.length_eq_zero_iff.1 (by omega)
        unfold frameB
        rw [if_pos hnil, List.append_nil, hN])
      have HNUM := Lib.hid (fun W => refNum_any (.slice none 0 0) [] N W (Rd.nil W) (by decide) (by omega))
      subst h0
      clear hat hu hl hN
      go_enter Try.func21, Try.ntmps21
      go_wp2_with fail
      refine (HNUM.out w).mono ?_
      rintro e w1 ⟨v, rfl, hown, hx⟩
      have HO := Lib.hid hown
      have HX := Lib.hid hx
      clear hown hx
      go_wp2_with fail
      go_ret2
      refine ⟨_, by rw [HANS.out]; rfl, ?_, HX.out⟩
      rw [HANS.out, HFB.out]
      have h := HO.out
      rw [List.length_map] at h
      exact h
    · have HNIL := Lib.hid (show l ≠ [] from fun h => h0 (by rw [← hN, h]; rfl))
      have HNUM := Lib.hid (fun W => refNum_any (.slice none 0 0) [] N W (Rd.nil W) (by decide) (by omega))
      obtain ⟨y, rfl, hc0⟩ := hat 0 (.int .i64 (l[0]'(by omega))) (by rw [List.getElem?_map, List.getElem?_eq_getElem (by omega)]; rfl)
      have HM0 := Lib.hid (show l[0]'(by omega) ∈ l from List.getElem_mem _)
      generalize l[0]'(by omega) = x0 at hc0 HM0
      rw [add_zero] at hc0
      have hcN : 0 < N := by omega
      have hn0 : ((N : Int) == 0) = false := by rw [beq_eq_false_iff_ne]; omega
      clear hat hu hl hN h0
      go_enter Try.func21, Try.ntmps21
      go_wp2_with fail
      refine (HNUM.out w).mono ?_
      rintro e w1 ⟨v1, rfl, hown, hx⟩
      have HO1 := Lib.hid hown
      have HX1 := Lib.hid (show Ext w w1 from hx)
      have hc1 := (HX1.out.cell (lt_of_cell hc0)).trans hc0
      clear hown hx hc0
      go_wp2_with fail
      clear hc1
      go_loopw [5, 6] (fun mv i wr => ∃ (j : Nat) (m : Int), j ≤ N ∧ i = .int .i64 j ∧ mv = .int .i64 m ∧ m ∈ l ∧ (∀ x ∈ l.take j, m ≤ x) ∧ w1 = wr) (fun _ i _ => N - (intOf i).toNat)
      case atStart => exact ⟨0, x0, Nat.zero_le _, rfl, rfl, HM0.out, fun x hx => (by cases hx), rfl⟩
      case round =>
        obtain ⟨j, m, hj, rfl, rfl, hm, hle, rfl⟩ := hrel
        have HM := Lib.hid hm
        have HLE := Lib.hid hle
        clear hm hle
        by_cases hlt : j < N
        · have hjl : j < l.length := by have := HN.out; omega
          obtain ⟨y', he, hcv⟩ := HAT.out j (.int .i64 l[j]) (by rw [List.getElem?_map, List.getElem?_eq_getElem hjl]; rfl)
          simp only [Option.some.injEq] at he
          subst he
          have hcx := (HX1.out.cell (lt_of_cell hcv)).trans hcv
          have HST := Lib.hid (List.take_succ_eq_append_getElem hjl)
          have HXM := Lib.hid (List.getElem_mem hjl)
          generalize l[j] = x at hcx HST HXM
          clear hcv hjl
          by_cases hxm : x < m
          · go_wp2_with fail
            go_roundw
            case rel => exact ⟨j + 1, x, by omega, by go_num, by first | rfl | (rw [Int.min_eq_right (by omega)]), HXM.out, fun z hz => by
              rw [HST.out] at hz
              rcases List.mem_append.1 hz with hz | hz
              · have := HLE.out z hz; omega
              · have : z = x := by simpa using hz
                omega, trivial⟩
            case measure => simp [intOf]; omega
          · go_wp2_with fail
            go_roundw
            case rel => exact ⟨j + 1, m, by omega, by go_num, by first | rfl | (rw [Int.min_eq_left (by omega)]), HM.out, fun z hz => by
              rw [HST.out] at hz
              rcases List.mem_append.1 hz with hz | hz
              · exact HLE.out z hz
              · have : z = x := by simpa using hz
                omega, trivial⟩
            case measure => simp [intOf]; omega
        · have HLEAST := Lib.hid (show m = leastS l from least_unique HM.out (by have h := HLE.out; rwa [List.take_of_length_le (by have := HN.out; omega)] at h))
          have hmb := HL.out m HM.out
          go_wp2_with fail
          go_loopw [7, 8] (fun v i wr => ∃ k : Nat, k ≤ N ∧ i = .int .i64 k ∧ wr.ownsRow w1.heap.size 47 1 v ((moreS l).take k).length (((moreS l).take k).map uv) ∧ Below w1.heap.size w1 wr) (fun _ i _ => N - (intOf i).toNat)
          case atStart => exact ⟨0, Nat.zero_le _, rfl, owns_nil _ _ _ _, Below.refl _ _⟩
          case round =>
            obtain ⟨k, hk, rfl, hown, hx⟩ := hrel
            have HO := Lib.hid hown
            have HX := Lib.hid hx
            clear hown hx
            by_cases hlt2 : k < N
            · have hkl : k < l.length := by have := HN.out; omega
              obtain ⟨y', he, hcv⟩ := HAT.out k (.int .i64 l[k]) (by rw [List.getElem?_map, List.getElem?_eq_getElem hkl]; rfl)
              simp only [Option.some.injEq] at he
              subst he
              have hcx := (HX.out.cell (Nat.lt_of_lt_of_le (lt_of_cell hcv) HX1.out.size)).trans ((HX1.out.cell (lt_of_cell hcv)).trans hcv)
              have HMT := Lib.hid (moreS_take hkl)
              have hxb := HL.out l[k] (List.getElem_mem hkl)
              have hxm := leastS_le (List.getElem_mem hkl)
              generalize l[k] = x at hcx HMT hxb hxm
              have HUD := Lib.hid (u64_diff (x := x) (m := leastS l) hxm (by have := HLEAST.out; omega))
              rw [← HLEAST.out] at HUD HMT
              have HLEN := Lib.hid (show ((moreS l).take k).length ≤ 4096 by rw [List.length_take, moreS_length]; have := HN.out; omega)
              have HSZ := Lib.hid HX.out.size
              clear hcv hkl hxm
              go_wp2_with (at_builtin; go_must (refine wpList_append_own _ rfl (.tmp 44) (.tmp 53) 22 rfl w1.heap.size 47 i0 (.int .u64 0) 1 8 Try.underlying22 hi hz0 hz1 hz2 rfl (by decide) _ _ _ rfl (HO.out.alloc _) ⟨wr.heap.size, 0, none⟩ 1 1 [_] rfl rfl (row_new _ _ _) (by simp [Value.oneCell']) (by have := HLEN.out; unfold maxLen; omega) (by have := HLEN.out; omega) (by have := HSZ.out; simp; omega) ?_); intro v3 w3 hown3 hgrow3 _; have HO3 := Lib.hid hown3; have HG3 := Lib.hid hgrow3; clear hown3 hgrow3)
              go_roundw
              case rel =>
                refine ⟨k + 1, by omega, by go_num, ?_, HX.out.trans (((Below.refl w1.heap.size wr).alloc HSZ.out _).grown HG3.out (by simp; have := HSZ.out; omega) (fun b hb => (HO.out.lt b hb).1))⟩
                have h := HO3.out
                rw [HUD.out] at h
                rw [HMT.out, List.map_append, List.length_append]
                exact h
              case measure => simp [intOf]; omega
            · have HK := Lib.hid (show (moreS l).take k = moreS l from List.take_of_length_le (by rw [moreS_length]; have := HN.out; omega))
              have hrow := HO.out
              rw [HK.out] at hrow
              have HROW := Lib.hid hrow
              have HML := Lib.hid (moreS_lt HL.out)
              have HMLEN := Lib.hid (show (moreS l).length = N by rw [moreS_length]; exact HN.out)
              have HWB := Lib.hid (widthS_le (moreS l))
              have HFB := Lib.hid (show frameB l = enc N ++ (enc (zig m) ++ (enc (widthS (moreS l)) ++ packB (moreS l) (widthS (moreS l)))) by
                unfold frameB
                rw [if_neg HNIL.out, HLEAST.out, HN.out])
              have HPK := Lib.hid (show packS (moreS l) ((widthS (moreS l) : Nat) : Int) = (packB (moreS l) (widthS (moreS l)), 0) by
                unfold packS
                have hb : (bytesS (((moreS l).length : Nat) : Int) ((widthS (moreS l) : Nat) : Int)).2 = 0 := by
                  unfold bytesS
                  rw [if_neg, if_neg]
                  · have := HMLEN.out; omega
                  · have := HWB.out; omega
                rw [if_pos hb, Int.toNat_natCast, if_pos (Nat.le_refl _)])
              have HPL := Lib.hid (show (packB (moreS l) (widthS (moreS l))).length ≤ 40000 by
                rw [packB_length, HMLEN.out]
                have : N * widthS (moreS l) ≤ 4096 * 64 := Nat.mul_le_mul (by omega) HWB.out
                omega)
              have HX0 := Lib.hid (Ext.trans HX1.out HX.out)
              have hrd := RdV.of_owns hrow
              clear hrow
              generalize moreS l = ms at HROW HML HMLEN HWB HFB HPK HPL hrd
              have HRD := Lib.hid hrd
              clear hrd
              obtain ⟨Wd, hWd⟩ : ∃ Wd, widthS ms = Wd := ⟨_, rfl⟩
              have HWE := Lib.hid hWd
              rw [hWd] at HWB HFB HPK HPL
              clear hWd
              go_wp2_with fail
              refine (refWidth_any _ ms _ HRD.out HML.out).mono ?_
              rintro e wq ⟨rfl, rfl⟩
              rw [HWE.out]
              go_wp2_with fail
              refine (refInt_any v1 (enc N) m _ ((RdV.of_owns HO1.out).mono HX.out) (by have := enc_length N; omega) hmb.1 hmb.2).mono ?_
              rintro e w2 ⟨v2, rfl, hown2, hx2⟩
              have HO2 := Lib.hid hown2
              have HX2 := Lib.hid (show Ext wr w2 from hx2)
              have HR2 := Lib.hid (HRD.out.mono hx2)
              clear hown2 hx2
              have hwb := HWB.out
              go_wp2_with fail
              refine (refNum_any v2 (enc N ++ enc (zig m)) Wd w2 (RdV.of_owns HO2.out) (by rw [List.length_append]; have := enc_length N; have := enc_length (zig m); omega) (by omega)).mono ?_
              rintro e w3 ⟨v3, rfl, hown3, hx3⟩
              have HO3 := Lib.hid hown3
              have HX3 := Lib.hid (show Ext w2 w3 from hx3)
              have HR3 := Lib.hid (HR2.out.mono hx3)
              clear hown3 hx3
              go_wp2_with fail
              refine (refPack_any _ ms (Wd : Int) w3 HR3.out HML.out (by have := HMLEN.out; omega) (by omega)).mono ?_
              rintro e w4 ⟨v4, rfl, hown4, hx4⟩
              rw [HPK.out] at hown4 ⊢
              have HR4 := Lib.hid (show RdV w4 v4 ((packB ms Wd).map bv) from RdV.of_owns hown4)
              have HX4 := Lib.hid hx4
              have HO4 := Lib.hid (owns_later HO3.out hx4)
              have HOC := Lib.hid (bv_oneCell (packB ms Wd))
              have HEL := Lib.hid (show (((enc N ++ enc (zig m)) ++ enc Wd).map bv).length ≤ 27 by
                rw [List.length_map, List.length_append, List.length_append]
                have := enc_length N; have := enc_length (zig m); have := enc_length Wd; omega)
              have HLM := Lib.hid (show ((packB ms Wd).map bv).length ≤ 40000 by rw [List.length_map]; exact HPL.out)
              have HSZ := Lib.hid (show w2.heap.size ≤ w4.heap.size from (Ext.trans HX3.out HX4.out).size)
              clear hown4 hx4
              go_wp2_with (at_builtin; go_must (refine wpList_append_rd rfl (.tmp 70) (.tmp 71) 24 rfl w2.heap.size 5 i1 (.int .u8 0) 1 Try.underlying24 hi1 hy0 hy1 hy2 rfl _ _ _ rfl HO4.out _ _ rfl HR4.out HOC.out (by have := HEL.out; have := HLM.out; unfold maxLen; omega) (by have := HEL.out; have := HLM.out; omega) HSZ.out ?_); intro v5 w5 hown5 hgrow5; have HO5 := Lib.hid hown5; have HG5 := Lib.hid hgrow5; clear hown5 hgrow5)
              go_ret2
              refine ⟨_, by rw [HANS.out]; rfl, ?_, ?_⟩
              · rw [HANS.out, HFB.out]
                have h := owns_base HO5.out (show w.heap.size ≤ w2.heap.size from (Ext.trans HX0.out HX2.out).size)
                rw [← List.map_append, List.length_map, List.length_map, ← List.length_append] at h
                rw [← List.append_assoc, ← List.append_assoc]
                exact h
              · exact Ext.trans HX0.out (Ext.trans HX2.out (Below.trans (Ext.trans HX3.out HX4.out) ((Below.refl w2.heap.size w4).grown HG5.out HSZ.out (fun b hb => (HO4.out.lt b hb).1))))

end Go.Proofs.Ytgfgmgekkmaipaa
