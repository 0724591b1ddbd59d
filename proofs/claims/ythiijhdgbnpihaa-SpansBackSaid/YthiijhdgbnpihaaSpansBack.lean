/-
  The walk of the law SpansBack.
-/
import Derived.Test.YthiijhdgbnpihaaSpansTurn
namespace Go.Proofs.Ythiijhdgbnpihaa
open Go.ChangeAt Go.RowKit Go.BigFrame

set_option maxRecDepth 100000 in
set_option maxHeartbeats 4000000 in
theorem spansBack_walk (u : Value) (l : List Sp) (u2 : Value) (zs : List Int) (w : World) (hu : RdSp w u l) (hf : ∀ s ∈ l, s.fits) (hu2 : RdV w u2 (zs.map (Value.int .i64))) (hf2 : ∀ n ∈ zs, (Lit.int .i64 n).wf = true) :
    Calls Try.prog 7 #[u, u2] w fun e w' => e = .returned (.bool true) ∧ Below w.heap.size w w' := by
  have HFW := Lib.hid (fun W (h : Ext w W) => few_any u l W (hu.mono h))
  have HF := Lib.hid (show ∀ s ∈ l.take 200, s.fits from fun s hs => hf s (List.mem_of_mem_take hs))
  have HL := Lib.hid (show (l.take 200).length ≤ 200 by rw [List.length_take]; omega)
  generalize l.take 200 = x at HFW HF HL
  obtain ⟨ao, cap, rfl, h1, h2⟩ := hu.shape
  generalize l.length = N at HFW h1 ⊢
  have HU2 := Lib.hid hu2
  obtain ⟨bo, bcap, rfl, h3, h4, -⟩ := RdV.cellsAt hu2
  rw [List.length_map] at h3 HU2 ⊢
  unfold maxLen at h2 h4
  obtain ⟨K, hK, hKa, hKb⟩ : ∃ K : Nat, (if (1000 : Int) < (zs.length : Int) then 1000 else (zs.length : Int)) = (K : Int) ∧ K ≤ zs.length ∧ K ≤ 1000 := ⟨min zs.length 1000, by split <;> omega, by omega, by omega⟩
  have HZ := Lib.hid (show RdV w (.slice bo K bcap) ((zs.take K).map (Value.int .i64)) by rw [List.map_take]; exact rdV_head HU2.out K hKa)
  have HB := Lib.hid (show ∀ x ∈ zs.take K, -9223372036854775808 ≤ x ∧ x ≤ 9223372036854775807 from fun x hx => bounds_i64 (hf2 x (List.mem_of_mem_take hx)))
  have HLZ := Lib.hid (show (zs.take K).length = K by rw [List.length_take]; omega)
  generalize zs.take K = xs at HZ HB HLZ
  have hKc : K ≤ bcap := by omega
  generalize zs.length = N2 at h3 hK hKa ⊢
  clear hu hf hu2 HU2 hf2
  go_enter Try.func7, Try.ntmps7
  go_wp2_with fail
  refine (shown7_any _).mono ?_
  rintro e w1 ⟨rfl, hx1⟩
  have HX1 := Lib.hid hx1
  clear hx1
  go_wp2_with fail
  refine (HFW.out w1 HX1.out).mono ?_
  rintro e wz ⟨⟨v, rfl, hv⟩, rfl⟩
  have HIN := Lib.hid (show InSp w1 v x from ⟨hv, by have := HL.out; omega, HF.out⟩)
  clear hv
  go_wp2_with fail
  refine (pRightSp_any _ x w1 HIN.out).mono ?_
  rintro e w2 ⟨rfl, hx2⟩
  have HI2 := Lib.hid (HIN.out.mono hx2)
  have HX2 := Lib.hid (Ext.trans HX1.out hx2)
  clear hx2
  cases hr : rightSp x with
  | false =>
    clear hr
    go_wp2_with fail
    refine (pOfSp_any _ xs w2 (HZ.out.mono HX2.out) (by rw [HLZ.out]; omega) HB.out).mono ?_
    rintro e wa ⟨va, rfl, hoa, hxa⟩
    have HXA := Lib.hid (Ext.trans HX2.out hxa)
    clear hxa
    rcases laws_of xs with hans | ⟨s, hans, hs1, hs2, hs3, hs4, hs5⟩
    · rw [hans] at hoa ⊢
      obtain ⟨so, sc, rfl, hsc1, hsc2⟩ := hoa.rd.shape
      clear hoa hans
      go_wp2_with fail
      go_ret
      exact ⟨by simp, HXA.out⟩
    · rw [hans] at hoa ⊢
      have HS := Lib.hid (InSp.of_own hoa (.inr hs5))
      have HS1 := Lib.hid hs1
      have HS2 := Lib.hid hs2
      have HS3 := Lib.hid hs3
      have HS4 := Lib.hid hs4
      have HSL := Lib.hid (listS_len s)
      clear hoa hs1 hs2 hs3 hs4 hs5 hans
      go_wp2_with fail
      refine (pListSp_any _ s wa HS.out).mono ?_
      rintro e wb ⟨⟨vb, rfl, hvb⟩, hxb⟩
      have HXB := Lib.hid (Ext.trans HXA.out hxb)
      have HSB := Lib.hid (HS.out.mono hxb)
      obtain ⟨lo, lc, rfl, hl1, hl2, hlat⟩ := RdV.cellsAt hvb
      have HAT := Lib.hid hlat
      rw [List.length_map] at hl1 ⊢
      unfold maxLen at hl2
      obtain ⟨ls, hls⟩ : ∃ ls, listS s = ls := ⟨_, rfl⟩
      have HLS := Lib.hid hls
      rw [hls] at HAT hl1 HS4 HS3 HSL ⊢
      obtain ⟨M, hM⟩ : ∃ M, ls.length = M := ⟨_, rfl⟩
      have HM := Lib.hid hM
      rw [hM] at hl1 ⊢
      clear hvb hxb hlat hls hM
      go_wp2_with fail
      go_loopw [57] (fun i wr => ∃ j : Nat, j ≤ M ∧ i = .int .i64 j ∧ Ext wb wr) (fun i _ => M - (intOf i).toNat)
      case atStart => exact ⟨0, Nat.zero_le _, rfl, Ext.keeps.refl _⟩
      case round =>
        obtain ⟨j, hj, rfl, hx⟩ := hrel
        have HX := Lib.hid hx
        clear hx
        by_cases hlt : j < M
        · have hjl : j < ls.length := by have := HM.out; omega
          by_cases hj0 : j = 0
          · subst hj0
            go_wp2_with fail
            refine wp_region_segs Ext Ext.keeps [([0, 1, 2, 3, 4, 5, 6, 7, 8, 9, 10, 11, 12, 13], none)] (by kernel_rfl) (by kernel_rfl) (fun c a a' w e h => (by exact ⟨e ▸ h.1, h.2⟩)) ?_
            simp only [pickSegs, pickOps, List.map_cons, List.map_nil, Option.map_none, Option.getD_some, List.getElem?_toArray, List.getElem?_cons_zero, List.getElem?_cons_succ]
            refine wpSegs_none ?_
            repeat go_big_quiet_step (fail)
            refine wpQuiet_nil (wpSegs_nil ?_)
            go_wp2_with fail
            go_roundw
            case rel => exact ⟨0 + 1, by omega, by go_num, Ext.trans HX.out (Ext.drew wr)⟩
            case measure => simp [intOf]; omega
          · obtain ⟨J, rfl⟩ : ∃ J, j = J + 1 := ⟨j - 1, by omega⟩
            have hJl : J < ls.length := by omega
            obtain ⟨p, rfl, hc1⟩ := HAT.out (J + 1) (.int .i64 ls[J + 1]) (by rw [List.getElem?_map, List.getElem?_eq_getElem hjl]; rfl)
            obtain ⟨p', he, hc0⟩ := HAT.out J (.int .i64 ls[J]) (by rw [List.getElem?_map, List.getElem?_eq_getElem hJl]; rfl)
            simp only [Option.some.injEq] at he
            subst he
            obtain ⟨q, heq, hcq⟩ := HAT.out 0 (.int .i64 (ls[0]'(by omega))) (by rw [List.getElem?_map, List.getElem?_eq_getElem (by omega)]; rfl)
            simp only [Option.some.injEq] at heq
            subst heq
            rw [add_zero] at hcq
            obtain ⟨g, off, rfl, -⟩ := plain_of hcq
            clear hcq
            rw [add_at] at hc0 hc1
            have hrise := List.pairwise_iff_getElem.1 HS4.out J (J + 1) hJl hjl (Nat.lt_succ_self _)
            have mv : ∀ {b : Addr} {u : Value}, wb.cell? b = some u → ∀ z : Later Ext wr.drew, z.val.cell? b = some u := fun hc z => ((Ext.trans HX.out (Ext.trans (Ext.drew wr) z.ext)).cell (lt_of_cell hc)).trans hc
            have hz1 := mv hc1
            have hz0 := mv hc0
            generalize ls[J + 1] = b at hz1 hrise
            generalize ls[J] = a at hz0 hrise
            clear mv hc0 hc1 hj0
            have d1 : decide ((0 : Int) < ((J + 1 : Nat) : Int)) = true := decide_eq_true (by omega)
            have d2 : decide (b ≤ a) = false := decide_eq_false (by omega)
            go_wp2_with fail
            refine wp_region_segs Ext Ext.keeps [([0, 1, 2, 3, 4, 5, 6, 7, 8, 9, 10, 11, 12, 13], none)] (by kernel_rfl) (by kernel_rfl) (fun c a a' w e h => (by exact ⟨e ▸ h.1, h.2⟩)) ?_
            simp only [pickSegs, pickOps, List.map_cons, List.map_nil, Option.map_none, Option.getD_some, List.getElem?_toArray, List.getElem?_cons_zero, List.getElem?_cons_succ]
            refine wpSegs_none ?_
            repeat go_big_quiet_step (fail)
            refine wpQuiet_nil (wpSegs_nil ?_)
            clear hz0 hz1 d1 d2
            go_wp2_with fail
            go_roundw
            case rel => exact ⟨J + 1 + 1, by omega, by go_num, Ext.trans HX.out (Ext.drew wr)⟩
            case measure => simp [intOf]; omega
        · have HSR := Lib.hid (HSB.out.mono HX.out)
          have HXR := Lib.hid (Ext.trans HXB.out HX.out)
          go_wp2_with fail
          go_loopw [77] (fun i wq => ∃ j : Nat, j ≤ K ∧ i = .int .i64 j ∧ Ext wr wq) (fun i _ => K - (intOf i).toNat)
          case atStart => exact ⟨0, Nat.zero_le _, rfl, Ext.keeps.refl _⟩
          case round =>
            rename_i wq0
            obtain ⟨i, hi, rfl, hx⟩ := hrel
            have HXQ := Lib.hid hx
            clear hx
            by_cases hlt2 : i < K
            · have hil : i < xs.length := by have := HLZ.out; omega
              have HZZ := Lib.hid (HZ.out.mono (Ext.trans HXR.out HXQ.out))
              obtain ⟨zo, zc, hze, _, _, hzat⟩ := RdV.cellsAt HZZ.out
              simp only [Value.slice.injEq] at hze
              obtain ⟨rfl, -, rfl⟩ := hze
              obtain ⟨p, rfl, hcz⟩ := hzat i (.int .i64 xs[i]) (by rw [List.getElem?_map, List.getElem?_eq_getElem hil]; rfl)
              have HBI := Lib.hid (HB.out xs[i] (List.getElem_mem hil))
              have HHI := Lib.hid (HS2.out xs[i] (List.getElem_mem hil))
              generalize xs[i] = k at hcz HBI HHI
              clear hzat hil
              go_wp2_with fail
              refine (pHasSp_any _ s k _ (HSR.out.mono HXQ.out) HBI.out).mono ?_
              rintro e wc ⟨rfl, hxc⟩
              rw [HHI.out]
              have HXC := Lib.hid (Ext.trans HXQ.out hxc)
              clear hxc
              go_wp2_with fail
              go_roundw
              case rel => exact ⟨i + 1, by omega, by go_num, HXC.out⟩
              case measure => simp [intOf]; omega
            · go_wp2_with fail
              refine (pRightSp_any _ s _ (HSR.out.mono HXQ.out)).mono ?_
              rintro e wc ⟨rfl, hxc⟩
              rw [HS1.out]
              have HXC := Lib.hid (Ext.trans HXQ.out hxc)
              clear hxc
              go_wp2_with fail
              refine (pCountSp_any _ s _ (HSR.out.mono HXC.out)).mono ?_
              rintro e wd ⟨rfl, hxd⟩
              rw [HLS.out, HM.out]
              have HXD := Lib.hid (Ext.trans HXR.out (Ext.trans HXC.out hxd))
              clear hxd
              have hmm : ((M : Int) == (M : Int)) = true := beq_self_eq_true _
              have hmk : M ≤ K := by have := HS3.out; have := HM.out; have := HLZ.out; omega
              go_wp2_with fail
              go_ret
              exact ⟨by simp, HXD.out⟩
  | true =>
    have HBK := Lib.hid (laws_back hr)
    have HLL := Lib.hid (show (listS x).length ≤ 4096 from listS_len x)
    have HLB := Lib.hid (listS_bounds x)
    clear hr
    go_wp2_with fail
    refine (pListSp_any _ x w2 HI2.out).mono ?_
    rintro e w3 ⟨⟨v3, rfl, hv3⟩, hx3⟩
    have HV3 := Lib.hid hv3
    have HX3 := Lib.hid hx3
    clear hv3 hx3
    go_wp2_with fail
    refine (pOfSp_any _ (listS x) w3 HV3.out (by have := HLL.out; omega) (fun k hk => by have := HLB.out k hk; omega)).mono ?_
    rintro e w4 ⟨v4, rfl, ho4, hx4⟩
    rw [HBK.out] at ho4 ⊢
    have HV4 := Lib.hid ho4.rd
    have HX4 := Lib.hid (Ext.trans HX3.out hx4)
    clear ho4 hx4
    go_wp2_with fail
    refine (refSame_any _ _ x x w4 HV4.out (HI2.out.mono HX4.out).rd).mono ?_
    rintro e w5 ⟨rfl, hx5⟩
    rw [decide_eq_true rfl]
    have HX5 := Lib.hid (Ext.trans HX2.out (Ext.trans HX4.out hx5))
    clear hx5
    go_wp2_with fail
    refine (pOfSp_any _ xs w5 (HZ.out.mono HX5.out) (by rw [HLZ.out]; omega) HB.out).mono ?_
    rintro e wa ⟨va, rfl, hoa, hxa⟩
    have HXA := Lib.hid (Ext.trans HX5.out hxa)
    clear hxa
    rcases laws_of xs with hans | ⟨s, hans, hs1, hs2, hs3, hs4, hs5⟩
    · rw [hans] at hoa ⊢
      obtain ⟨so, sc, rfl, hsc1, hsc2⟩ := hoa.rd.shape
      clear hoa hans
      go_wp2_with fail
      go_ret
      exact ⟨by simp, HXA.out⟩
    · rw [hans] at hoa ⊢
      have HS := Lib.hid (InSp.of_own hoa (.inr hs5))
      have HS1 := Lib.hid hs1
      have HS2 := Lib.hid hs2
      have HS3 := Lib.hid hs3
      have HS4 := Lib.hid hs4
      have HSL := Lib.hid (listS_len s)
      clear hoa hs1 hs2 hs3 hs4 hs5 hans
      go_wp2_with fail
      refine (pListSp_any _ s wa HS.out).mono ?_
      rintro e wb ⟨⟨vb, rfl, hvb⟩, hxb⟩
      have HXB := Lib.hid (Ext.trans HXA.out hxb)
      have HSB := Lib.hid (HS.out.mono hxb)
      obtain ⟨lo, lc, rfl, hl1, hl2, hlat⟩ := RdV.cellsAt hvb
      have HAT := Lib.hid hlat
      rw [List.length_map] at hl1 ⊢
      unfold maxLen at hl2
      obtain ⟨ls, hls⟩ : ∃ ls, listS s = ls := ⟨_, rfl⟩
      have HLS := Lib.hid hls
      rw [hls] at HAT hl1 HS4 HS3 HSL ⊢
      obtain ⟨M, hM⟩ : ∃ M, ls.length = M := ⟨_, rfl⟩
      have HM := Lib.hid hM
      rw [hM] at hl1 ⊢
      clear hvb hxb hlat hls hM
      go_wp2_with fail
      go_loopw [57] (fun i wr => ∃ j : Nat, j ≤ M ∧ i = .int .i64 j ∧ Ext wb wr) (fun i _ => M - (intOf i).toNat)
      case atStart => exact ⟨0, Nat.zero_le _, rfl, Ext.keeps.refl _⟩
      case round =>
        obtain ⟨j, hj, rfl, hx⟩ := hrel
        have HX := Lib.hid hx
        clear hx
        by_cases hlt : j < M
        · have hjl : j < ls.length := by have := HM.out; omega
          by_cases hj0 : j = 0
          · subst hj0
            go_wp2_with fail
            refine wp_region_segs Ext Ext.keeps [([0, 1, 2, 3, 4, 5, 6, 7, 8, 9, 10, 11, 12, 13], none)] (by kernel_rfl) (by kernel_rfl) (fun c a a' w e h => (by exact ⟨e ▸ h.1, h.2⟩)) ?_
            simp only [pickSegs, pickOps, List.map_cons, List.map_nil, Option.map_none, Option.getD_some, List.getElem?_toArray, List.getElem?_cons_zero, List.getElem?_cons_succ]
            refine wpSegs_none ?_
            repeat go_big_quiet_step (fail)
            refine wpQuiet_nil (wpSegs_nil ?_)
            go_wp2_with fail
            go_roundw
            case rel => exact ⟨0 + 1, by omega, by go_num, Ext.trans HX.out (Ext.drew wr)⟩
            case measure => simp [intOf]; omega
          · obtain ⟨J, rfl⟩ : ∃ J, j = J + 1 := ⟨j - 1, by omega⟩
            have hJl : J < ls.length := by omega
            obtain ⟨p, rfl, hc1⟩ := HAT.out (J + 1) (.int .i64 ls[J + 1]) (by rw [List.getElem?_map, List.getElem?_eq_getElem hjl]; rfl)
            obtain ⟨p', he, hc0⟩ := HAT.out J (.int .i64 ls[J]) (by rw [List.getElem?_map, List.getElem?_eq_getElem hJl]; rfl)
            simp only [Option.some.injEq] at he
            subst he
            obtain ⟨q, heq, hcq⟩ := HAT.out 0 (.int .i64 (ls[0]'(by omega))) (by rw [List.getElem?_map, List.getElem?_eq_getElem (by omega)]; rfl)
            simp only [Option.some.injEq] at heq
            subst heq
            rw [add_zero] at hcq
            obtain ⟨g, off, rfl, -⟩ := plain_of hcq
            clear hcq
            rw [add_at] at hc0 hc1
            have hrise := List.pairwise_iff_getElem.1 HS4.out J (J + 1) hJl hjl (Nat.lt_succ_self _)
            have mv : ∀ {b : Addr} {u : Value}, wb.cell? b = some u → ∀ z : Later Ext wr.drew, z.val.cell? b = some u := fun hc z => ((Ext.trans HX.out (Ext.trans (Ext.drew wr) z.ext)).cell (lt_of_cell hc)).trans hc
            have hz1 := mv hc1
            have hz0 := mv hc0
            generalize ls[J + 1] = b at hz1 hrise
            generalize ls[J] = a at hz0 hrise
            clear mv hc0 hc1 hj0
            have d1 : decide ((0 : Int) < ((J + 1 : Nat) : Int)) = true := decide_eq_true (by omega)
            have d2 : decide (b ≤ a) = false := decide_eq_false (by omega)
            go_wp2_with fail
            refine wp_region_segs Ext Ext.keeps [([0, 1, 2, 3, 4, 5, 6, 7, 8, 9, 10, 11, 12, 13], none)] (by kernel_rfl) (by kernel_rfl) (fun c a a' w e h => (by exact ⟨e ▸ h.1, h.2⟩)) ?_
            simp only [pickSegs, pickOps, List.map_cons, List.map_nil, Option.map_none, Option.getD_some, List.getElem?_toArray, List.getElem?_cons_zero, List.getElem?_cons_succ]
            refine wpSegs_none ?_
            repeat go_big_quiet_step (fail)
            refine wpQuiet_nil (wpSegs_nil ?_)
            clear hz0 hz1 d1 d2
            go_wp2_with fail
            go_roundw
            case rel => exact ⟨J + 1 + 1, by omega, by go_num, Ext.trans HX.out (Ext.drew wr)⟩
            case measure => simp [intOf]; omega
        · have HSR := Lib.hid (HSB.out.mono HX.out)
          have HXR := Lib.hid (Ext.trans HXB.out HX.out)
          go_wp2_with fail
          go_loopw [77] (fun i wq => ∃ j : Nat, j ≤ K ∧ i = .int .i64 j ∧ Ext wr wq) (fun i _ => K - (intOf i).toNat)
          case atStart => exact ⟨0, Nat.zero_le _, rfl, Ext.keeps.refl _⟩
          case round =>
            rename_i wq0
            obtain ⟨i, hi, rfl, hx⟩ := hrel
            have HXQ := Lib.hid hx
            clear hx
            by_cases hlt2 : i < K
            · have hil : i < xs.length := by have := HLZ.out; omega
              have HZZ := Lib.hid (HZ.out.mono (Ext.trans HXR.out HXQ.out))
              obtain ⟨zo, zc, hze, _, _, hzat⟩ := RdV.cellsAt HZZ.out
              simp only [Value.slice.injEq] at hze
              obtain ⟨rfl, -, rfl⟩ := hze
              obtain ⟨p, rfl, hcz⟩ := hzat i (.int .i64 xs[i]) (by rw [List.getElem?_map, List.getElem?_eq_getElem hil]; rfl)
              have HBI := Lib.hid (HB.out xs[i] (List.getElem_mem hil))
              have HHI := Lib.hid (HS2.out xs[i] (List.getElem_mem hil))
              generalize xs[i] = k at hcz HBI HHI
              clear hzat hil
              go_wp2_with fail
              refine (pHasSp_any _ s k _ (HSR.out.mono HXQ.out) HBI.out).mono ?_
              rintro e wc ⟨rfl, hxc⟩
              rw [HHI.out]
              have HXC := Lib.hid (Ext.trans HXQ.out hxc)
              clear hxc
              go_wp2_with fail
              go_roundw
              case rel => exact ⟨i + 1, by omega, by go_num, HXC.out⟩
              case measure => simp [intOf]; omega
            · go_wp2_with fail
              refine (pRightSp_any _ s _ (HSR.out.mono HXQ.out)).mono ?_
              rintro e wc ⟨rfl, hxc⟩
              rw [HS1.out]
              have HXC := Lib.hid (Ext.trans HXQ.out hxc)
              clear hxc
              go_wp2_with fail
              refine (pCountSp_any _ s _ (HSR.out.mono HXC.out)).mono ?_
              rintro e wd ⟨rfl, hxd⟩
              rw [HLS.out, HM.out]
              have HXD := Lib.hid (Ext.trans HXR.out (Ext.trans HXC.out hxd))
              clear hxd
              have hmm : ((M : Int) == (M : Int)) = true := beq_self_eq_true _
              have hmk : M ≤ K := by have := HS3.out; have := HM.out; have := HLZ.out; omega
              go_wp2_with fail
              go_ret
              exact ⟨by simp, HXD.out⟩

end Go.Proofs.Ythiijhdgbnpihaa
