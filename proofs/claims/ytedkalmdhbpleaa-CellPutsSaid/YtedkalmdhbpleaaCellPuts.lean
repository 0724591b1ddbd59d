/-
  The walk of the law CellPuts.
-/
import Derived.Test.YtedkalmdhbpleaaCellSaysB
import Derived.Test.YtedkalmdhbpleaaCellBoxes
namespace Go.Proofs.Ytedkalmdhbpleaa
open Go.RowKit Go.BigFrame

theorem conv_rd {w : World} {v : Value} {l : List UInt8} (h : Rd w v l) : (convert 40 9 v).run Try.prog w = .ok (.string ⟨l.toArray⟩) w := h.string _ _ _ Try.underlying40 Try.underlying5 Try.underlying9

set_option maxRecDepth 100000 in
set_option maxHeartbeats 2000000 in
theorem cellPuts_walk (b : Value) (l : List UInt8) (v : V) (w : World) (hb : Rd w b l) (hv : v.fits) (lv : v.s.length ≤ maxLen) :
    Calls Try.prog 8 #[b, v.val] w fun e w' => e = .returned (.bool true) ∧ Below w.heap.size w w' := by
  unfold maxLen at lv
  have hb0 := hb
  obtain ⟨ao, cap, rfl, hc1, hc2⟩ := hb.shape
  obtain ⟨m, hm, hm1, hm2⟩ : ∃ m : Nat, min (l.length : Int) 3000 = (m : Int) ∧ m ≤ 3000 ∧ m ≤ l.length := ⟨min l.length 3000, by omega, by omega, by omega⟩
  have HX := Lib.hid (show Rd w (.slice ao m cap) (l.take m) from by
    rcases hb0 with ⟨h1, h2⟩ | ⟨x, cap', h1, h2, h3, h4⟩
    · have hl : l = [] := by simpa using h2
      subst hl
      simp only [Value.slice.injEq] at h1
      obtain ⟨rfl, _, rfl⟩ := h1
      have : m = 0 := by simpa using hm2
      subst this
      exact Rd.nil w
    · simp only [Value.slice.injEq] at h1
      obtain ⟨rfl, _, rfl⟩ := h1
      have := RdV.takes h2 h3 h4 m m (by rw [List.length_map]; omega)
      rw [← List.map_take] at this
      exact this)
  have HXL := Lib.hid (show (l.take m).length ≤ 3000 by rw [List.length_take]; omega)
  have hmc : m ≤ cap := by omega
  unfold maxLen at hc2
  generalize l.length = L at hm hm2 hc1 ⊢
  generalize l.take m = xl at HX HXL
  clear hb hb0
  by_cases hlong : 3000 < v.s.length
  · obtain ⟨k, n, s⟩ := v
    unfold V.val
    simp only at hlong lv ⊢
    clear hv
    go_enter Try.func8, Try.ntmps8
    go_wp2_with fail
    refine (shown_any _).mono ?_
    rintro e w1 ⟨rfl, hb⟩
    have hz2 := cells_old hb 2 _ rfl
    have HE1 := Lib.hid (show Ext w w1 from Ext.trans (ext_one _ _) hb)
    clear hb
    go_wp2_with fail
    go_ret
    exact ⟨rfl, HE1.out⟩
  · have HPUT := Lib.hid (fun b w hr => Put_any b xl v w hr (by have := HXL.out; omega) hv (by omega))
    have HREF := Lib.hid (fun b w hr => refPut_any b xl v w hr (by have := HXL.out; omega) hv (by omega))
    have HPL := Lib.hid (show (xl ++ encV v).length ≤ 10000 by rw [List.length_append]; have := encV_le v; have := HXL.out; omega)
    generalize xl ++ encV v = pl at HPUT HREF HPL
    obtain ⟨k, n, s⟩ := v
    unfold V.val at HPUT HREF ⊢
    simp only at HPUT HREF hlong lv ⊢
    clear hv
    go_enter Try.func8, Try.ntmps8
    go_wp2_with fail
    refine (shown_any _).mono ?_
    rintro e w1 ⟨rfl, hb⟩
    have HV1 := Lib.hid (cells_old hb)
    have HE1 := Lib.hid (show Ext w w1 from Ext.trans (ext_one _ _) hb)
    have HX1 := Lib.hid (HX.out.mono HE1.out)
    have hz0 := HV1.out 0 _ rfl
    have hz1 := HV1.out 1 _ rfl
    have hz2 := HV1.out 2 _ rfl
    have hcv := conv_rd HX1.out
    clear hb
    go_wp2_with fail
    refine (HPUT.out _ _ HX1.out).mono ?_
    rintro e w2 ⟨p, rfl, ho, hb⟩
    rw [List.length_map] at ho
    have HP := Lib.hid (OwnL.of_owns ho)
    obtain ⟨pa, pc, rfl, hp1, hp2⟩ := (OwnL.of_owns ho).rd.shape
    have HE2 := Lib.hid hb
    have HV2 := Lib.hid (kept_cell (kept_cell HV1.out hb) (Ext.drew w2))
    clear ho hb hz0 hz1 hz2 hcv
    have hz0 := now_cell HV2.out 0 _ rfl
    have hz1 := now_cell HV2.out 1 _ rfl
    have hz2 := now_cell HV2.out 2 _ rfl
    have hcp : ∀ z : Later Ext w2.drew, (convert 40 9 (.slice pa pl.length pc)).run Try.prog z.val = .ok (.string ⟨pl.toArray⟩) z.val := fun z => conv_rd (HP.out.rd.mono (Ext.trans (Ext.drew w2) z.ext))
    unfold maxLen at hp2
    go_wp2_with fail
    refine wp_region_segs Ext Ext.keeps [([0, 1, 2, 3], some 4), ([5, 6, 7], none)] (by kernel_rfl) (by kernel_rfl) (fun c a a' w e h => (by exact ⟨e ▸ h.1, h.2⟩)) ?_
    simp only [pickSegs, pickOps, List.map_cons, List.map_nil, Option.map_some, Option.map_none, Option.getD_some, List.getElem?_toArray, List.getElem?_cons_zero, List.getElem?_cons_succ]
    refine wpSegs_some fun K hK => ?_
    repeat go_big_quiet_step (fail)
    refine wpQuiet_nil ?_
    clear hcp hz0 hz1 hz2
    have HE2' := Lib.hid (Ext.trans HE2.out (Ext.drew w2))
    go_wp2_with fail
    refine (HREF.out _ _ (HX1.out.mono HE2'.out)).mono ?_
    rintro e w3 ⟨q, rfl, ho, hb⟩
    rw [List.length_map] at ho
    have HQ := Lib.hid (OwnL.of_owns ho)
    obtain ⟨qa, qc, rfl, hq1, hq2⟩ := (OwnL.of_owns ho).rd.shape
    have E3 := Lib.hid hb
    have HE3 := Lib.hid (Ext.trans HE2'.out hb)
    have HP3 := Lib.hid (show Ext w2 w3 from Ext.trans (Ext.drew w2) hb)
    clear ho hb
    go_wp2_with fail
    refine ⟨E3.out, hK _ _ ?_⟩
    clear hK K
    have hcq : ∀ z : Later Ext w3, (convert 40 9 (.slice qa pl.length qc)).run Try.prog z.val = .ok (.string ⟨pl.toArray⟩) z.val := fun z => conv_rd (HQ.out.rd.mono z.ext)
    refine wpSegs_none ?_
    repeat go_big_quiet_step (fail)
    refine wpQuiet_nil (wpSegs_nil ?_)
    clear hcq
    go_wp2_with fail
    refine (Take_any _ xl w3 (HX1.out.mono HE3.out) (by have := HXL.out; omega)).mono ?_
    rintro e w4 ⟨hres, hb⟩
    have HRES := Lib.hid hres
    have E4 := Lib.hid hb
    have HX4 := Lib.hid (HX1.out.mono (Ext.trans HE3.out hb))
    clear hres hb
    rcases HRES.out with ⟨tv, tm, r, htk, rfl, hown⟩ | ⟨hno, rfl⟩
    · have HTK := Lib.hid htk
      have HR := Lib.hid hown
      obtain ⟨ra, rc, rfl, hr1, hr2⟩ := hown.rd.shape
      have HT := Lib.hid (show ∀ w, (binOp .eql 23 tv.val tv.val).run Try.prog w = .ok (.bool true) w from fun w => by rw [eq_val, decide_eq_true rfl])
      clear htk hown
      obtain ⟨k', n', s'⟩ := tv
      unfold V.val at HT ⊢
      simp only at HT ⊢
      go_wp2_with fail
      refine (refTake_any _ xl _ (HX4.out.mono (ext_one w4 _)) (by have := HXL.out; omega)).mono ?_
      rintro e w5 ⟨hres, hb⟩
      have HRS := Lib.hid hres
      have HW5 := Lib.hid (cells_old hb)
      have E5 := Lib.hid (show Ext w4 w5 from Ext.trans (ext_one _ _) hb)
      clear hres hb
      rcases HRS.out with ⟨tv2, tm2, r2, htk2, rfl, hrd2⟩ | ⟨hno, rfl⟩
      · have he := HTK.out.symm.trans htk2
        simp only [Option.some.injEq, Prod.mk.injEq] at he
        obtain ⟨e1, e2⟩ := he
        subst e1 e2
        have HR2 := Lib.hid hrd2
        obtain ⟨ra2, rc2, rfl, hs1, hs2⟩ := hrd2.shape
        clear htk2 hrd2
        unfold V.val
        simp only
        have HN5 := Lib.hid (fun o => ext_one w5 o)
        have h0 := fun o => kept_cell HW5.out (HN5.out o) 0 _ rfl
        have h1 := fun o => kept_cell HW5.out (HN5.out o) 1 _ rfl
        have h2 := fun o => kept_cell HW5.out (HN5.out o) 2 _ rfl
        have hcr := fun o => conv_rd (HR.out.rd.mono (Ext.trans E5.out (HN5.out o)))
        have hcr2 := fun o => conv_rd (HR2.out.mono (HN5.out o))
        have hEQ := HT.out
        go_wp2_with fail
        have HWA := Lib.hid (show Ext w4 (w5.alloc (.cells #[.int .u8 k', .int .i64 n', .string ⟨s'.toArray⟩] 23)) from Ext.trans E5.out (HN5.out _))
        have HS3 := Lib.hid (show w1.heap.size ≤ w2.heap.size ∧ w2.heap.size ≤ w3.heap.size from ⟨HE2.out.size, HP3.out.size⟩)
        clear h0 h1 h2 hcr hcr2 hEQ
        generalize w5.alloc _ = W0 at HWA ⊢
        have HWP := Lib.hid (Ext.trans HP3.out (Ext.trans E4.out HWA.out))
        have HWB := Lib.hid (Ext.trans HE3.out (Ext.trans E4.out HWA.out))
        have HOR0 := Lib.hid ((OwnA.of_own HR.out).mono HWA.out)
        have html := hr1
        unfold maxLen at hr2
        have HOP0 := Lib.hid ((OwnA.of_own HP.out).mono HWP.out)
        have HBE0 := Lib.hid (show Below w1.heap.size w1 W0 from HWB.out)
        generalize hnp : pl.length = np at HOP0 HPL hp1 ⊢
        clear hnp
        go_loopw [16, 73] (fun _ i wr => ∃ j : Nat, j ≤ tm.length ∧ i = .int .i64 j ∧ OwnA w3.heap.size w4.heap.size wr (.slice ra tm.length rc) tm.length ∧ OwnA w1.heap.size w2.heap.size wr (.slice pa np pc) np ∧ Below w1.heap.size w1 wr) (fun _ i _ => tm.length - (intOf i).toNat)
        case atStart => exact ⟨0, Nat.zero_le _, rfl, HOR0.out, HOP0.out, HBE0.out⟩
        case round =>
          obtain ⟨j, hj, rfl, hr, hp, hbe⟩ := hrel
          have HOR := Lib.hid hr
          have HOP := Lib.hid hp
          have HBE := Lib.hid hbe
          clear hp hbe
          by_cases hlt : j < tm.length
          · obtain ⟨g, off, z, rfl, hc, hf⟩ := hr.at hlt
            clear hr
            go_wp2_with fail
            go_roundw
            case rel =>
              have hg := (HOR.out.put hlt 0).2.1
              exact ⟨j + 1, by omega, by go_num, (HOR.out.put hlt _).1, HOP.out.mono ((Below.refl _ _).setCell (by show _ ≤ g; have := HS3.out; omega) _), HBE.out.setCell (by show _ ≤ g; have := HS3.out; omega) _⟩
            case measure => simp [intOf]; omega
          · have HOPE := Lib.hid HOP.out
            have HBEE := Lib.hid HBE.out
            have hjn : j = tm.length := by omega
            clear hr
            go_wp2_with fail
            go_loopw [17, 85] (fun _ i wr => ∃ j : Nat, j ≤ np ∧ i = .int .i64 j ∧ OwnA w1.heap.size w2.heap.size wr (.slice pa np pc) np ∧ Below w1.heap.size w1 wr) (fun _ i _ => np - (intOf i).toNat)
            case atStart => exact ⟨0, Nat.zero_le _, rfl, HOPE.out, HBEE.out⟩
            case round =>
              obtain ⟨j, hj, rfl, hp, hbe⟩ := hrel
              have HOP := Lib.hid hp
              have HBE := Lib.hid hbe
              clear hbe
              by_cases hlt : j < np
              · obtain ⟨g, off, z, rfl, hc, hf⟩ := hp.at hlt
                clear hp
                go_wp2_with fail
                go_roundw
                case rel => exact ⟨j + 1, by omega, by go_num, (HOP.out.put hlt _).1, HBE.out.setCell (HOP.out.put hlt 0).2.1 _⟩
                case measure => simp [intOf]; omega
              · have hcv := conv_rd (HX1.out.mono HBE.out)
                have hjn : j = np := by omega
                subst hjn
                clear hp
                go_wp2_with fail
                go_ret
                exact ⟨rfl, Ext.trans HE1.out HBE.out⟩
      · have h := HTK.out.symm.trans hno
        cases h
    · have HNO := Lib.hid hno
      clear hno
      go_wp2_with fail
      refine (refTake_any _ xl _ (HX4.out.mono (ext_one w4 _)) (by have := HXL.out; omega)).mono ?_
      rintro e w5 ⟨hres, hb⟩
      have HRS := Lib.hid hres
      have HW5 := Lib.hid (cells_old hb)
      have E5 := Lib.hid (show Ext w4 w5 from Ext.trans (ext_one _ _) hb)
      clear hres hb
      rcases HRS.out with ⟨tv2, tm2, r2, htk2, rfl, hrd2⟩ | ⟨_, rfl⟩
      · have h := HNO.out.symm.trans htk2
        cases h
      · have HN5 := Lib.hid (fun o => ext_one w5 o)
        have h0 := fun o => kept_cell HW5.out (HN5.out o) 0 _ rfl
        have h1 := fun o => kept_cell HW5.out (HN5.out o) 1 _ rfl
        have h2 := fun o => kept_cell HW5.out (HN5.out o) 2 _ rfl
        have hcr := fun W => conv_rd (Rd.nil W)
        go_wp2_with fail
        have HWA := Lib.hid (show Ext w4 (w5.alloc (.cells #[.int .u8 0, .int .i64 0, .string ⟨#[]⟩] 23)) from Ext.trans E5.out (HN5.out _))
        clear h0 h1 h2 hcr
        generalize w5.alloc _ = W0 at HWA ⊢
        have HWP := Lib.hid (Ext.trans HP3.out (Ext.trans E4.out HWA.out))
        have HWB := Lib.hid (Ext.trans HE3.out (Ext.trans E4.out HWA.out))
        have HOP0 := Lib.hid ((OwnA.of_own HP.out).mono HWP.out)
        have HBE0 := Lib.hid (show Below w1.heap.size w1 W0 from HWB.out)
        generalize hnp : pl.length = np at HOP0 HPL hp1 ⊢
        clear hnp
        go_loopw [16, 73] (fun _ i wr => i = .int .i64 0 ∧ wr = W0) (fun _ _ _ => 0)
        case atStart => exact ⟨rfl, rfl⟩
        case round =>
          obtain ⟨rfl, rfl⟩ := hrel
          have HOPE := Lib.hid HOP0.out
          have HBEE := Lib.hid HBE0.out
          go_wp2_with fail
          go_loopw [17, 85] (fun _ i wr => ∃ j : Nat, j ≤ np ∧ i = .int .i64 j ∧ OwnA w1.heap.size w2.heap.size wr (.slice pa np pc) np ∧ Below w1.heap.size w1 wr) (fun _ i _ => np - (intOf i).toNat)
          case atStart => exact ⟨0, Nat.zero_le _, rfl, HOPE.out, HBEE.out⟩
          case round =>
            obtain ⟨j, hj, rfl, hp, hbe⟩ := hrel
            have HOP := Lib.hid hp
            have HBE := Lib.hid hbe
            clear hbe
            by_cases hlt : j < np
            · obtain ⟨g, off, z, rfl, hc, hf⟩ := hp.at hlt
              clear hp
              go_wp2_with fail
              go_roundw
              case rel => exact ⟨j + 1, by omega, by go_num, (HOP.out.put hlt _).1, HBE.out.setCell (HOP.out.put hlt 0).2.1 _⟩
              case measure => simp [intOf]; omega
            · have hcv := conv_rd (HX1.out.mono HBE.out)
              have hjn : j = np := by omega
              subst hjn
              clear hp
              go_wp2_with fail
              go_ret
              exact ⟨rfl, Ext.trans HE1.out HBE.out⟩

end Go.Proofs.Ytedkalmdhbpleaa
