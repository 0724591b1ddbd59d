/-
  The walk of the law DictBack.
-/
import Derived.Test.YtcaidgdnneomaaaDictOf
namespace Go.Proofs.Ytcaidgdnneomaaa
open Go.ChangeAt Go.RowKit Go.BigFrame

theorem rising_get {W : List T8} (h : Rising W) {i j : Nat} (hi : i < W.length) (hj : j < W.length) (hij : i < j) : W[i] < W[j] := (List.pairwise_iff_getElem.1 h) i j hi hj hij
theorem place_less {W : List T8} (h : Rising W) {s t : T8} (hs : s ∈ W) (ht : t ∈ W) : placeN W s < placeN W t ↔ s < t := by
  have e1 := List.getElem?_eq_some_iff.1 (placeN_get hs)
  have e2 := List.getElem?_eq_some_iff.1 (placeN_get ht)
  obtain ⟨h1, e1⟩ := e1
  obtain ⟨h2, e2⟩ := e2
  constructor
  · intro hlt
    have := rising_get h h1 h2 hlt
    rwa [e1, e2] at this
  · intro hst
    rcases Nat.lt_trichotomy (placeN W s) (placeN W t) with hl | he | hg
    · exact hl
    · exfalso
      have : s = t := by rw [← e1, ← e2]; congr 1
      rw [this] at hst
      exact tless_irrefl t hst
    · exfalso
      have := rising_get h h2 h1 hg
      rw [e1, e2] at this
      exact tless_asymm hst this
theorem less_place {W : List T8} (h : Rising W) {s : T8} (hs : s ∈ W) : lessN W s = placeN W s := by
  induction W with
  | nil => cases hs
  | cons t W ih =>
    obtain ⟨h1, h2⟩ := List.pairwise_cons.1 h
    unfold placeN
    by_cases e : t = s
    · subst e
      rw [if_pos rfl]
      unfold lessN
      rw [List.filter_eq_nil_iff.2]
      · rfl
      · intro x hx
        rw [decide_eq_true_iff]
        rcases List.mem_cons.1 hx with rfl | hx
        · exact tless_irrefl _
        · exact tless_asymm (h1 x hx)
    · rw [if_neg e]
      have hsW : s ∈ W := by
        rcases List.mem_cons.1 hs with h | h
        · exact absurd h.symm e
        · exact h
      have hts := h1 s hsW
      rw [← ih h2 hsW]
      unfold lessN
      rw [List.filter_cons_of_pos (by simpa using hts), List.length_cons]
      omega
theorem words_good {l : List T8} (h : okTexts l) : rightW (wordsOf l) = true :=
  rightW_iff.2 ⟨h.2.2, fun t ht => h.2.1 t ((words_ok l).2 t |>.1 ht), (words_ok l).1⟩
theorem places_get {x : List T8} {j : Nat} (hj : j < x.length) : (x.map (placeS (wordsOf x)))[j]? = some ((placeN (wordsOf x) x[j] : Nat) : Int) := by
  rw [List.getElem?_map, List.getElem?_eq_getElem hj]
  show some (placeS (wordsOf x) x[j]) = _
  unfold placeS
  rw [if_pos ((words_ok x).2 _ |>.2 (List.getElem_mem hj))]

set_option maxRecDepth 100000 in
set_option maxHeartbeats 4000000 in
theorem dictBack_walk (u : Value) (ss : List ByteArray) (w : World) (hu : RdV w u (ss.map Value.string)) (_hf : ∀ s ∈ ss, s.size ≤ maxLen) :
    Calls Try.prog 6 #[u] w fun e w' => e = .returned (.bool true) ∧ Below w.heap.size w w' := by
  obtain ⟨l, hl, -⟩ := texts_in hu
  have HFEW := Lib.hid (fun W (h : Ext w W) => few10_any u l W (hl.mono h))
  have HOK := Lib.hid (few_in (w := w) (l := l))
  generalize fewW l = x at HFEW HOK
  obtain ⟨ao, cap, rfl, -, -, -⟩ := rd_words hl
  generalize l.length = N0 at HFEW ⊢
  clear hu hl
  go_enter Try.func6, Try.ntmps6
  go_wp2_with fail
  refine (shown10_any w).mono ?_
  rintro e w1 ⟨rfl, hx1⟩
  have HX1 := Lib.hid hx1
  clear hx1
  go_wp2_with fail
  refine (HFEW.out w1 HX1.out).mono ?_
  rintro e w2 ⟨⟨v, rfl, hv⟩, rfl⟩
  have HV := Lib.hid hv
  obtain ⟨xo, xc, rfl, hxc1, hxc2, -⟩ := rd_words hv
  clear hv
  go_wp2_with fail
  refine (pOf10_any _ x w1 HV.out HOK.out.1 HOK.out.2.1).mono ?_
  rintro e w2 ⟨⟨v1, p1, rfl, hv1, hp1⟩, hx2⟩
  have HX2 := Lib.hid (Ext.trans HX1.out hx2)
  have HV2 := Lib.hid (HV.out.mono hx2)
  clear hx2
  unfold maxLen at hxc2
  by_cases hok : okTexts x
  · rw [ofS10_ok hok] at hv1 hp1 ⊢
    simp only at hv1 hp1 ⊢
    have HRW := Lib.hid (words_good hok)
    have HGW := Lib.hid (words_ok x)
    have HPG := Lib.hid (fun j (hj : j < x.length) => places_get hj)
    obtain ⟨wo, wc, rfl, hwc1, hwc2, -⟩ := rd_words hv1
    have HW := Lib.hid hv1
    have HP := Lib.hid hp1
    obtain ⟨po, pc, rfl, hpc1, hpc2, -⟩ := RdV.cellsAt hp1
    rw [List.length_map, List.length_map] at hpc1 HP ⊢
    generalize wordsOf x = W at HRW HGW HPG HW HP hwc1 ⊢
    obtain ⟨N, hN⟩ : ∃ N, x.length = N := ⟨_, rfl⟩
    have HN := Lib.hid hN
    rw [hN] at hxc1 hpc1 HV2 HP ⊢
    have HWL := Lib.hid (show W.length ≤ 200 from (rightW_iff.1 HRW.out).1)
    have HWT := Lib.hid (show ∀ t ∈ W, t.length ≤ 1000000 from fun t ht => by have := (rightW_iff.1 HRW.out).2.1 t ht; omega)
    obtain ⟨M, hM⟩ : ∃ M, W.length = M := ⟨_, rfl⟩
    have HM := Lib.hid hM
    rw [hM] at hwc1 HW ⊢
    have HRR := Lib.hid (pRight10_any _ W w2 HW.out (by have := HWL.out; omega) HWT.out)
    rw [HRW.out] at HRR
    have HAX := Lib.hid (RdV.plainV HV2.out).2.2.2
    have HAP := Lib.hid (RdV.plainV HP.out).2.2.2
    have HAW := Lib.hid (RdV.plainV HW.out).2.2.2
    unfold maxLen at hwc2 hpc2
    clear hv1 hp1 hok hN hM
    go_wp2_with fail
    refine HRR.out.mono ?_
    rintro e w3 ⟨rfl, hx3⟩
    have HX3 := Lib.hid hx3
    clear hx3
    go_wp2_with fail
    go_loopw [8, 49] (fun _ i wr => ∃ j : Nat, j ≤ N ∧ i = .int .i64 j ∧ Ext w2 wr) (fun _ i _ => N - (intOf i).toNat)
    case atStart => exact ⟨0, Nat.zero_le _, rfl, HX3.out⟩
    case round =>
      obtain ⟨j, hj, rfl, hx⟩ := hrel
      have HX := Lib.hid hx
      clear hx
      by_cases hlt : j < N
      · have hjl : j < x.length := by have := HN.out; omega
        have htm : x[j] ∈ W := HGW.out.2 _ |>.2 (List.getElem_mem hjl)
        obtain ⟨hqM, hWq⟩ := List.getElem?_eq_some_iff.1 (placeN_get htm)
        obtain ⟨gx, ox, rfl, hcx⟩ := HAX.out j (tv x[j]) (by rw [List.getElem?_map, List.getElem?_eq_getElem hjl]; rfl)
        obtain ⟨gp, op, rfl, hcp⟩ := HAP.out j (.int .i64 (placeN W x[j] : Nat)) (by rw [List.getElem?_map, HPG.out j hjl]; rfl)
        obtain ⟨gw, ow, rfl, hcw⟩ := HAW.out (placeN W x[j]) (tv x[j]) (by rw [List.getElem?_map, placeN_get htm]; rfl)
        have HCX := Lib.hid (fun Z (h : Ext w2 Z) => (show Z.cell? ⟨gx, ox + j, none⟩ = some (.string ⟨x[j].toArray⟩) from (h.cell (lt_of_cell hcx)).trans hcx))
        have HCP := Lib.hid (fun Z (h : Ext w2 Z) => (show Z.cell? ⟨gp, op + j, none⟩ = some (.int .i64 ((placeN W x[j] : Nat) : Int)) from (h.cell (lt_of_cell hcp)).trans hcp))
        have HCW := Lib.hid (fun Z (h : Ext w2 Z) => (show Z.cell? ⟨gw, ow + placeN W x[j], none⟩ = some (.string ⟨x[j].toArray⟩) from (h.cell (lt_of_cell hcw)).trans hcw))
        have HFI := Lib.hid (show findS W x[j] = (((placeN W x[j] : Nat) : Int), true) from by
          unfold findS placeS
          rw [if_pos ⟨HRW.out, htm⟩, if_pos htm])
        have HFR := Lib.hid (show fromS W x[j] = ((placeN W x[j] : Nat) : Int) from by
          unfold fromS
          rw [if_pos HRW.out, less_place HGW.out.1 htm])
        have HTL := Lib.hid (show x[j].length ≤ 1000000 from HWT.out _ htm)
        have HPL := Lib.hid (fun (J : Nat) (hJ : J < x.length) => place_less HGW.out.1 (HGW.out.2 _ |>.2 (List.getElem_mem hJ)) htm)
        have hqM2 : placeN W x[j] < M := by have := HM.out; omega
        clear hcx hcp hcw hWq hqM
        generalize placeN W x[j] = q at HCP HCW HFI HFR HPL hqM2
        generalize x[j] = t at HCX HCW HFI HFR HTL HPL htm
        have d1 : decide ((q : Int) < 0) = false := decide_eq_false (by omega)
        have d2 : decide (M ≤ q) = false := decide_eq_false (by omega)
        have htt : (t == t) = true := beq_self_eq_true _
        have hz1 : ∀ z : Later Ext wr.drew, z.val.cell? ⟨gp, op + j, none⟩ = some (.int .i64 (q : Int)) := fun z => HCP.out z.val (Ext.trans HX.out (Ext.trans (Ext.drew wr) z.ext))
        have hz2 : ∀ z : Later Ext wr.drew, z.val.cell? ⟨gw, ow + q, none⟩ = some (.string ⟨t.toArray⟩) := fun z => HCW.out z.val (Ext.trans HX.out (Ext.trans (Ext.drew wr) z.ext))
        have hz3 : ∀ z : Later Ext wr.drew, z.val.cell? ⟨gx, ox + j, none⟩ = some (.string ⟨t.toArray⟩) := fun z => HCX.out z.val (Ext.trans HX.out (Ext.trans (Ext.drew wr) z.ext))
        have HXD := Lib.hid (Ext.trans HX.out (Ext.drew wr))
        by_cases hj0 : j = 0
        · subst hj0
          rw [Nat.add_zero] at hz1
          rw [Nat.add_zero] at hz3
          go_wp2_with fail
          refine wp_region_segs Ext Ext.keeps [(List.range 55, none)] (by kernel_rfl) (by kernel_rfl) (fun c a a' w e h => (by exact ⟨e ▸ h.1, h.2⟩)) ?_
          simp only [List.range, List.range.loop, pickSegs, pickOps, List.map_cons, List.map_nil, Option.map_none, Option.getD_some, List.getElem?_toArray, List.getElem?_cons_zero, List.getElem?_cons_succ]
          refine wpSegs_none ?_
          repeat go_big_quiet_step (fail)
          refine wpQuiet_nil (wpSegs_nil ?_)
          clear hz1 hz2 hz3
          have hc3 := HCX.out _ HXD.out
          rw [Nat.add_zero] at hc3
          go_wp2_with fail
          refine (pFind10_any _ W t wr.drew (HW.out.mono HXD.out) (by have := HWL.out; omega) HWT.out HTL.out).mono ?_
          rintro e w5 ⟨rfl, hx5⟩
          rw [HFI.out]
          have HX5 := Lib.hid (Ext.trans HXD.out hx5)
          have hc1 := HCP.out _ HX5.out
          have hc4 := HCX.out _ HX5.out
          rw [Nat.add_zero] at hc1
          rw [Nat.add_zero] at hc4
          clear hx5 hc3
          have hqq : ((q : Int) == (q : Int)) = true := beq_self_eq_true _
          go_wp2_with fail
          refine (pFrom10_any _ W t w5 (HW.out.mono HX5.out) (by have := HWL.out; omega) HWT.out HTL.out).mono ?_
          rintro e w6 ⟨rfl, hx6⟩
          rw [HFR.out]
          have HX6 := Lib.hid (Ext.trans HX5.out hx6)
          clear hx6 hc1 hc4
          go_wp2_with fail
          go_roundw
          case rel => exact ⟨0 + 1, by omega, by go_num, HX6.out⟩
          case measure => simp [intOf]; omega
        · obtain ⟨J, rfl⟩ : ∃ J, j = J + 1 := ⟨j - 1, by omega⟩
          have hJl : J < x.length := by omega
          have hJm : x[J] ∈ W := HGW.out.2 _ |>.2 (List.getElem_mem hJl)
          obtain ⟨gx', ox', he, hcx⟩ := HAX.out J (tv x[J]) (by rw [List.getElem?_map, List.getElem?_eq_getElem hJl]; rfl)
          simp only [Option.some.injEq, Addr.mk.injEq, and_true] at he
          obtain ⟨rfl, rfl⟩ := he
          obtain ⟨gp', op', he, hcp⟩ := HAP.out J (.int .i64 (placeN W x[J] : Nat)) (by rw [List.getElem?_map, HPG.out J hJl]; rfl)
          simp only [Option.some.injEq, Addr.mk.injEq, and_true] at he
          obtain ⟨rfl, rfl⟩ := he
          have hz5 : ∀ z : Later Ext wr.drew, z.val.cell? ⟨gx, ox + J, none⟩ = some (.string ⟨x[J].toArray⟩) := fun z => ((Ext.trans HX.out (Ext.trans (Ext.drew wr) z.ext)).cell (lt_of_cell hcx)).trans hcx
          have hz4 : ∀ z : Later Ext wr.drew, z.val.cell? ⟨gp, op + J, none⟩ = some (.int .i64 ((placeN W x[J] : Nat) : Int)) := fun z => ((Ext.trans HX.out (Ext.trans (Ext.drew wr) z.ext)).cell (lt_of_cell hcp)).trans hcp
          have hlt2 := HPL.out J hJl
          clear hcx hcp hj0 hJm
          generalize placeN W x[J] = q' at hz4 hlt2
          generalize x[J] = t' at hz5 hlt2
          by_cases hqq' : q' < q
          · have d4 : decide (q' < q) = true := decide_eq_true hqq'
            have d5 : Op.bytesLess t' t = true := (tless_iff t' t).2 (hlt2.1 hqq')
            clear hlt2 hqq'
            go_wp2_with fail
            refine wp_region_segs Ext Ext.keeps [(List.range 55, none)] (by kernel_rfl) (by kernel_rfl) (fun c a a' w e h => (by exact ⟨e ▸ h.1, h.2⟩)) ?_
            simp only [List.range, List.range.loop, pickSegs, pickOps, List.map_cons, List.map_nil, Option.map_none, Option.getD_some, List.getElem?_toArray, List.getElem?_cons_zero, List.getElem?_cons_succ]
            refine wpSegs_none ?_
            repeat go_big_quiet_step (fail)
            refine wpQuiet_nil (wpSegs_nil ?_)
            clear hz1 hz2 hz3 hz4 hz5
            have hc3 := HCX.out _ HXD.out
            go_wp2_with fail
            refine (pFind10_any _ W t wr.drew (HW.out.mono HXD.out) (by have := HWL.out; omega) HWT.out HTL.out).mono ?_
            rintro e w5 ⟨rfl, hx5⟩
            rw [HFI.out]
            have HX5 := Lib.hid (Ext.trans HXD.out hx5)
            have hc1 := HCP.out _ HX5.out
            have hc4 := HCX.out _ HX5.out
            clear hx5 hc3
            have hqq : ((q : Int) == (q : Int)) = true := beq_self_eq_true _
            go_wp2_with fail
            refine (pFrom10_any _ W t w5 (HW.out.mono HX5.out) (by have := HWL.out; omega) HWT.out HTL.out).mono ?_
            rintro e w6 ⟨rfl, hx6⟩
            rw [HFR.out]
            have HX6 := Lib.hid (Ext.trans HX5.out hx6)
            clear hx6 hc1 hc4
            go_wp2_with fail
            go_roundw
            case rel => exact ⟨J + 1 + 1, by omega, by go_num, HX6.out⟩
            case measure => simp [intOf]; omega
          · have d4 : decide (q' < q) = false := decide_eq_false hqq'
            have d5 : Op.bytesLess t' t = false := by rw [tless_dec]; exact decide_eq_false (fun h => hqq' (hlt2.2 h))
            clear hlt2 hqq'
            go_wp2_with fail
            refine wp_region_segs Ext Ext.keeps [(List.range 55, none)] (by kernel_rfl) (by kernel_rfl) (fun c a a' w e h => (by exact ⟨e ▸ h.1, h.2⟩)) ?_
            simp only [List.range, List.range.loop, pickSegs, pickOps, List.map_cons, List.map_nil, Option.map_none, Option.getD_some, List.getElem?_toArray, List.getElem?_cons_zero, List.getElem?_cons_succ]
            refine wpSegs_none ?_
            repeat go_big_quiet_step (fail)
            refine wpQuiet_nil (wpSegs_nil ?_)
            clear hz1 hz2 hz3 hz4 hz5
            have hc3 := HCX.out _ HXD.out
            go_wp2_with fail
            refine (pFind10_any _ W t wr.drew (HW.out.mono HXD.out) (by have := HWL.out; omega) HWT.out HTL.out).mono ?_
            rintro e w5 ⟨rfl, hx5⟩
            rw [HFI.out]
            have HX5 := Lib.hid (Ext.trans HXD.out hx5)
            have hc1 := HCP.out _ HX5.out
            have hc4 := HCX.out _ HX5.out
            clear hx5 hc3
            have hqq : ((q : Int) == (q : Int)) = true := beq_self_eq_true _
            go_wp2_with fail
            refine (pFrom10_any _ W t w5 (HW.out.mono HX5.out) (by have := HWL.out; omega) HWT.out HTL.out).mono ?_
            rintro e w6 ⟨rfl, hx6⟩
            rw [HFR.out]
            have HX6 := Lib.hid (Ext.trans HX5.out hx6)
            clear hx6 hc1 hc4
            go_wp2_with fail
            go_roundw
            case rel => exact ⟨J + 1 + 1, by omega, by go_num, HX6.out⟩
            case measure => simp [intOf]; omega
      · go_wp2_with fail
        go_ret
        exact ⟨rfl, Ext.trans HX2.out HX.out⟩
  · rw [ofS10_no hok] at hv1 hp1 ⊢
    simp only at hv1 hp1 ⊢
    obtain ⟨wo, wc, rfl, -, -, -⟩ := rd_words hv1
    obtain ⟨po, pc, rfl, -, -, -⟩ := RdV.cellsAt hp1
    simp only [List.length_nil, List.map_nil] at *
    clear hok hv1 hp1
    go_wp2_with fail
    go_ret
    exact ⟨by simp, HX2.out⟩

end Go.Proofs.Ytcaidgdnneomaaa
