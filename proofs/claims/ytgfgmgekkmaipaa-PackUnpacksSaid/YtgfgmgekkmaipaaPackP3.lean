/-
  The program's own Frame.
-/
import Derived.Test.YtgfgmgekkmaipaaPackRef4
import Derived.Test.YtgfgmgekkmaipaaPackP2
namespace Go.Proofs.Ytgfgmgekkmaipaa
open Go.RowKit Go.BigFrame

set_option maxRecDepth 100000 in
/-- slices.Min of numbers of which there is one. -/
theorem sliceMin_any (u : Value) (l : List Int) (w : World) (hu : RdV w u (l.map (Value.int .i64))) (hl : ∀ x ∈ l, -9223372036854775808 ≤ x ∧ x ≤ 9223372036854775807) (hne : l ≠ []) :
    Calls Try.prog 31 #[u] w fun e w' => e = .returned (.int .i64 (leastS l)) ∧ w = w' := by
  obtain ⟨ao, cap, rfl, h1, h2, hat⟩ := RdV.cellsAt hu
  rw [List.length_map] at h1 ⊢
  have HAT := Lib.hid hat
  have HL := Lib.hid hl
  unfold maxLen at h2
  have hpos : 0 < l.length := by rcases l with _ | ⟨a, t⟩; exact absurd rfl hne; simp
  obtain ⟨y, rfl, hc0⟩ := hat 0 (.int .i64 (l[0]'hpos)) (by rw [List.getElem?_map, List.getElem?_eq_getElem hpos]; rfl)
  have HM0 := Lib.hid (show l[0]'hpos ∈ l from List.getElem_mem _)
  have HT0 := Lib.hid (show l.take 1 = [l[0]'hpos] by rw [List.take_succ_eq_append_getElem hpos]; rfl)
  generalize l[0]'hpos = x0 at hc0 HM0 HT0
  rw [add_zero] at hc0
  obtain ⟨N, hN⟩ : ∃ N, l.length = N := ⟨_, rfl⟩
  have HN := Lib.hid hN
  rw [hN] at h1 hpos ⊢
  clear hat hu hl hN hne
  go_enter Try.func31, Try.ntmps31
  go_wp2_with fail
  clear hc0
  go_loopw [3, 4] (fun mv i wr => ∃ (j : Nat) (m : Int), j ≤ N ∧ i = .int .i64 j ∧ mv = .int .i64 m ∧ m ∈ l ∧ (∀ x ∈ l.take j, m ≤ x) ∧ w = wr) (fun _ i _ => N - (intOf i).toNat)
  case atStart => exact ⟨1, x0, hpos, rfl, rfl, HM0.out, fun x hx => by rw [HT0.out] at hx; have : x = x0 := by simpa using hx
                                                                        omega, rfl⟩
  case round =>
    obtain ⟨j, m, hj, rfl, rfl, hm, hle, rfl⟩ := hrel
    have HM := Lib.hid hm
    have HLE := Lib.hid hle
    clear hm hle
    by_cases hlt : j < N
    · have hjl : j < l.length := by have := HN.out; omega
      obtain ⟨y', he, hcv⟩ := HAT.out j (.int .i64 l[j]) (by rw [List.getElem?_map, List.getElem?_eq_getElem hjl]; rfl)
      simp only [Option.some.injEq] at he
      subst he
      have HST := Lib.hid (List.take_succ_eq_append_getElem hjl)
      have HXM := Lib.hid (List.getElem_mem hjl)
      generalize l[j] = x at hcv HST HXM
      clear hjl
      by_cases hxm : x < m
      · go_wp2_with fail
        go_roundw
        case rel => exact ⟨j + 1, x, by omega, by go_num, by first | rfl | (rw [Int.min_eq_right (by omega)]), HXM.out, fun z hz => by
          rw [HST.out] at hz
          rcases List.mem_append.1 hz with hz | hz
          · have := HLE.out z hz; omega
          · have : z = x := by simpa using hz
            omega, trivial⟩
        case measure => simp [intOf]; omega
      · go_wp2_with fail
        go_roundw
        case rel => exact ⟨j + 1, m, by omega, by go_num, by first | rfl | (rw [Int.min_eq_left (by omega)]), HM.out, fun z hz => by
          rw [HST.out] at hz
          rcases List.mem_append.1 hz with hz | hz
          · exact HLE.out z hz
          · have : z = x := by simpa using hz
            omega, trivial⟩
        case measure => simp [intOf]; omega
    · have HLEAST := Lib.hid (show m = leastS l from least_unique HM.out (by have h := HLE.out; rwa [List.take_of_length_le (by have := HN.out; omega)] at h))
      go_wp2_with fail
      go_ret
      exact ⟨by rw [← HLEAST.out]; rfl, rfl⟩

set_option maxRecDepth 100000 in
theorem differences_any (u : Value) (l : List Int) (w : World) (hu : RdV w u (l.map (Value.int .i64))) (hl : ∀ x ∈ l, -9223372036854775808 ≤ x ∧ x ≤ 9223372036854775807) (hne : l ≠ []) (hl2 : l.length ≤ 4096) :
    Calls Try.prog 32 #[u, .int .i64 (leastS l)] w fun e w' => ∃ v, e = .returned v ∧ w'.ownsRow w.heap.size 47 1 v (moreS l).length ((moreS l).map uv) ∧ Ext w w' := by
  obtain ⟨ao, cap, rfl, h1, h2, hat⟩ := RdV.cellsAt hu
  rw [List.length_map] at h1 ⊢
  have HAT := Lib.hid hat
  have HL := Lib.hid hl
  unfold maxLen at h2
  obtain ⟨N, hN⟩ : ∃ N, l.length = N := ⟨_, rfl⟩
  have HN := Lib.hid hN
  have hmb := hl _ (leastS_mem hne)
  obtain ⟨m, hm⟩ : ∃ m, leastS l = m := ⟨_, rfl⟩
  have HM := Lib.hid hm
  obtain ⟨w0, hmk, hown, hext⟩ := make_nums w N (by omega)
  have HX0 := Lib.hid hext
  have HOWN := Lib.hid hown
  obtain ⟨G, hG⟩ : ∃ G, w.heap.size = G := ⟨_, rfl⟩
  have HG := Lib.hid hG
  rw [hG] at hmk HOWN
  rw [hN] at h1 ⊢
  rw [hm] at hmb ⊢
  have HML := Lib.hid (show (moreS l).length = N by rw [moreS_length, hN])
  clear hat hu hl hN hm hown hext hG hne
  go_enter Try.func32, Try.ntmps32
  go_wp2_with fail
  clear hmk
  go_loopw [13] (fun i wr => ∃ j : Nat, j ≤ N ∧ i = .int .i64 j ∧ wr.ownsRow G 47 1 (.slice (some ⟨G, 0, none⟩) N N) N (((moreS l).take j ++ List.replicate (N - j) 0).map uv) ∧ Below w.heap.size w wr) (fun i _ => N - (intOf i).toNat)
  case atStart => exact ⟨0, Nat.zero_le _, rfl, HOWN.out, HX0.out⟩
  case round =>
    obtain ⟨j, hj, rfl, hown, hx⟩ := hrel
    have HO := Lib.hid hown
    have HX := Lib.hid hx
    clear hown hx
    by_cases hlt : j < N
    · have hjl : j < l.length := by have := HN.out; omega
      obtain ⟨y, rfl, hcv⟩ := HAT.out j (.int .i64 l[j]) (by rw [List.getElem?_map, List.getElem?_eq_getElem hjl]; rfl)
      have hcx := (HX.out.cell (lt_of_cell hcv)).trans hcv
      have hjD : j < (moreS l).length := by have := HML.out; omega
      have HSN := Lib.hid (set_next (moreS l) 0 j N hlt HML.out.symm)
      have hxb := HL.out l[j] (List.getElem_mem hjl)
      have hxm := leastS_le (List.getElem_mem hjl)
      have HXE := Lib.hid (show (moreS l)[j]'hjD = (l[j] - m).toNat by rw [← HM.out]; exact List.getElem_map _)
      rw [HXE.out] at HSN
      rw [HM.out] at hxm
      generalize l[j] = x at hcx HSN hxb hxm
      have HUD := Lib.hid (u64_diff (x := x) (m := m) hxm (by omega))
      have hcell := HO.out.cellAt j (by omega)
      have hfree := HO.out.frozenAt j
      rw [List.getElem?_map] at hcell
      obtain ⟨z, hz⟩ : ∃ z, ((moreS l).take j ++ List.replicate (N - j) 0)[j]? = some z := ⟨_, List.getElem?_eq_getElem (by rw [List.length_append, List.length_take, List.length_replicate]; have := HML.out; omega)⟩
      rw [hz] at hcell
      simp only [Option.map_some] at hcell
      unfold uv at hcell
      clear hz hcv HXE hjl hjD
      go_wp2_with fail
      go_roundw
      case rel =>
        refine ⟨j + 1, by omega, by go_num, ?_, HX.out.trans ((OnlyS.of_onlyP (X := fun b => b = G) (OnlyP.set G j wr _) rfl).below HX.out.size (fun b hb => by rw [hb, HG.out]; exact Nat.le_refl _))⟩
        have h := (HO.out.stored j (uv (x - m).toNat)).1
        rw [← List.map_set, HSN.out] at h
        rw [HUD.out]
        exact h
      case measure => simp [intOf]; omega
    · have HFULL := Lib.hid (show (moreS l).take j ++ List.replicate (N - j) 0 = moreS l by rw [List.take_of_length_le (by have := HML.out; omega), show N - j = 0 by omega, List.replicate_zero, List.append_nil])
      go_wp2_with fail
      go_ret
      refine ⟨_, rfl, ?_, HX.out⟩
      have h := HO.out
      rw [HFULL.out] at h
      rw [HML.out, HG.out]
      exact h

set_option maxRecDepth 100000 in
set_option maxHeartbeats 2000000 in
theorem pFrame8_any (u : Value) (l : List Int) (w : World) (hu : RdV w u (l.map (Value.int .i64))) (hl : ∀ x ∈ l, -9223372036854775808 ≤ x ∧ x ≤ 9223372036854775807) (_hl2 : l.length ≤ 100000) :
    Calls Try.prog 20 #[u] w fun e w' => AnsB w (frameS l) e w' := by
  obtain ⟨i1, hi1, hy0, hy1, hy2⟩ := info_parts Try.info5
  have HU := Lib.hid hu
  obtain ⟨ao, cap, rfl, h1, h2, hat⟩ := RdV.cellsAt hu
  rw [List.length_map] at h1 HU ⊢
  have HL := Lib.hid hl
  obtain ⟨N, hN⟩ : ∃ N, l.length = N := ⟨_, rfl⟩
  have HN := Lib.hid hN
  unfold maxLen at h2
  rw [hN] at h1 HU ⊢
  clear hat hu
  by_cases hbig : 4096 < N
  · have HANS := Lib.hid (show frameS l = ([], 3) by unfold frameS; rw [hN, if_neg (by omega)])
    clear hl hN
    go_enter Try.func20, Try.ntmps20
    go_wp2_with fail
    go_ret2
    exact ⟨_, by rw [HANS.out]; rfl, by rw [HANS.out]; exact owns_nil _ _ _ _, Ext.keeps.refl _⟩
  · have HANS := Lib.hid (show frameS l = (frameB l, 0) by unfold frameS; rw [hN, if_pos (by omega)])
    have HNUM := Lib.hid (fun W => Num_any (.slice none 0 0) [] N W (Rd.nil W) (by decide) (by omega))
    by_cases h0 : N = 0
    · have HFB := Lib.hid (show frameB l = enc N by
        have hnil : l = [] := List.length_eq_zero_iff.1 (by omega)
        unfold frameB
        rw [if_pos hnil, List.append_nil, hN])
      subst h0
      clear hl hN
      go_enter Try.func20, Try.ntmps20
      go_wp2_with fail
      refine (HNUM.out w).mono ?_
      rintro e w1 ⟨v, rfl, hown, hx⟩
      have HO := Lib.hid hown
      have HX := Lib.hid hx
      clear hown hx
      go_wp2_with fail
      go_ret2
      refine ⟨_, by rw [HANS.out]; rfl, ?_, HX.out⟩
      rw [HANS.out, HFB.out]
      have h := HO.out
      rw [List.length_map] at h
      exact h
    · have HNIL := Lib.hid (show l ≠ [] from fun h => h0 (by rw [← hN, h]; rfl))
      have hn0 : ((N : Int) == 0) = false := by rw [beq_eq_false_iff_ne]; omega
      have hcN : 0 < N := by omega
      have HL2 := Lib.hid (show l.length ≤ 4096 by omega)
      clear hl hN h0
      go_enter Try.func20, Try.ntmps20
      go_wp2_with fail
      refine (HNUM.out w).mono ?_
      rintro e w1 ⟨v1, rfl, hown, hx⟩
      have HO1 := Lib.hid hown
      have HX1 := Lib.hid (show Ext w w1 from hx)
      have HU1 := Lib.hid (HU.out.mono hx)
      clear hown hx
      go_wp2_with fail
      refine (sliceMin_any _ l w1 HU1.out HL.out HNIL.out).mono ?_
      rintro e wm ⟨rfl, rfl⟩
      go_wp2_with fail
      refine (differences_any _ l w1 HU1.out HL.out HNIL.out HL2.out).mono ?_
      rintro e w2 ⟨v2, rfl, hown, hx⟩
      have hmb := HL.out _ (leastS_mem HNIL.out)
      have HML := Lib.hid (moreS_lt HL.out)
      have HMLEN := Lib.hid (show (moreS l).length = N by rw [moreS_length]; exact HN.out)
      have HWB := Lib.hid (widthS_le (moreS l))
      have HFB := Lib.hid (show frameB l = enc N ++ (enc (zig (leastS l)) ++ (enc (widthS (moreS l)) ++ packB (moreS l) (widthS (moreS l)))) by
        unfold frameB
        rw [if_neg HNIL.out, HN.out])
      have HPK := Lib.hid (show packS (moreS l) ((widthS (moreS l) : Nat) : Int) = (packB (moreS l) (widthS (moreS l)), 0) by
        unfold packS
        have hb : (bytesS (((moreS l).length : Nat) : Int) ((widthS (moreS l) : Nat) : Int)).2 = 0 := by
          unfold bytesS
          rw [if_neg, if_neg]
          · have := HMLEN.out; omega
          · have := HWB.out; omega
        rw [if_pos hb, Int.toNat_natCast, if_pos (Nat.le_refl _)])
      have HPL := Lib.hid (show (packB (moreS l) (widthS (moreS l))).length ≤ 40000 by
        rw [packB_length, HMLEN.out]
        have : N * widthS (moreS l) ≤ 4096 * 64 := Nat.mul_le_mul (by omega) HWB.out
        omega)
      have HX2 := Lib.hid (Ext.trans HX1.out hx)
      have HO12 := Lib.hid (owns_later HO1.out hx)
      have HRD := Lib.hid (show RdV w2 v2 ((moreS l).map uv) from RdV.of_owns hown)
      clear hown hx
      generalize moreS l = ms at HML HMLEN HWB HFB HPK HPL HRD
      generalize leastS l = m at HFB hmb ⊢
      obtain ⟨Wd, hWd⟩ : ∃ Wd, widthS ms = Wd := ⟨_, rfl⟩
      have HWE := Lib.hid hWd
      rw [hWd] at HWB HFB HPK HPL
      clear hWd
      go_wp2_with fail
      refine (pWidth8_any _ ms _ HRD.out HML.out (by have := HMLEN.out; omega)).mono ?_
      rintro e w3 ⟨rfl, hx3⟩
      have HX3 := Lib.hid (Ext.trans HX2.out hx3)
      have HR3 := Lib.hid (HRD.out.mono hx3)
      have HO13 := Lib.hid (owns_later HO12.out hx3)
      clear hx3
      rw [HWE.out]
      have hwb := HWB.out
      go_wp2_with fail
      refine (pPack8_any _ ms (Wd : Int) w3 HR3.out HML.out (by have := HMLEN.out; omega) (by omega)).mono ?_
      rintro e w4 ⟨v4, rfl, hown4, hx4⟩
      rw [HPK.out] at hown4 ⊢
      have HR4 := Lib.hid (show RdV w4 v4 ((packB ms Wd).map bv) from RdV.of_owns hown4)
      have HX4 := Lib.hid (Ext.trans HX3.out hx4)
      have HO14 := Lib.hid (owns_later HO13.out hx4)
      clear hown4 hx4
      go_wp2_with fail
      refine (Int_any v1 (enc N) m _ (RdV.of_owns HO14.out) (by have := enc_length N; omega) hmb.1 hmb.2).mono ?_
      rintro e w5 ⟨v5, rfl, hown5, hx5⟩
      have HO5 := Lib.hid hown5
      have HX5 := Lib.hid (show Ext w w5 from Ext.trans HX4.out hx5)
      have HR5 := Lib.hid (HR4.out.mono hx5)
      clear hown5 hx5
      go_wp2_with fail
      refine (Num_any v5 (enc N ++ enc (zig m)) Wd w5 (RdV.of_owns HO5.out) (by rw [List.length_append]; have := enc_length N; have := enc_length (zig m); omega) (by omega)).mono ?_
      rintro e w6 ⟨v6, rfl, hown6, hx6⟩
      have HO6 := Lib.hid hown6
      have HX6 := Lib.hid (show Ext w w6 from Ext.trans HX5.out hx6)
      have HR6 := Lib.hid (HR5.out.mono hx6)
      have HOC := Lib.hid (bv_oneCell (packB ms Wd))
      have HEL := Lib.hid (show (((enc N ++ enc (zig m)) ++ enc Wd).map bv).length ≤ 27 by
        rw [List.length_map, List.length_append, List.length_append]
        have := enc_length N; have := enc_length (zig m); have := enc_length Wd; omega)
      have HLM := Lib.hid (show ((packB ms Wd).map bv).length ≤ 40000 by rw [List.length_map]; exact HPL.out)
      have HSZ := Lib.hid (show w5.heap.size ≤ w6.heap.size from hx6.size)
      have HX56 := Lib.hid hx6
      clear hown6 hx6
      go_wp2_with (at_builtin; go_must (refine wpList_append_rd rfl (.tmp 43) (.tmp 44) 24 rfl w5.heap.size 5 i1 (.int .u8 0) 1 Try.underlying24 hi1 hy0 hy1 hy2 rfl _ _ _ rfl HO6.out _ _ rfl HR6.out HOC.out (by have := HEL.out; have := HLM.out; unfold maxLen; omega) (by have := HEL.out; have := HLM.out; omega) HSZ.out ?_); intro v7 w7 hown7 hgrow7; have HO7 := Lib.hid hown7; have HG7 := Lib.hid hgrow7; clear hown7 hgrow7)
      go_ret2
      refine ⟨_, by rw [HANS.out]; rfl, ?_, ?_⟩
      · rw [HANS.out, HFB.out]
        have h := owns_base HO7.out (show w.heap.size ≤ w5.heap.size from HX5.out.size)
        rw [← List.map_append, List.length_map, List.length_map, ← List.length_append] at h
        rw [← List.append_assoc, ← List.append_assoc]
        exact h
      · exact Ext.trans HX5.out (Below.trans (show Below w5.heap.size w5 w6 from HX56.out) ((Below.refl w5.heap.size w6).grown HG7.out HSZ.out (fun b hb => (HO6.out.lt b hb).1)))

end Go.Proofs.Ytgfgmgekkmaipaa
