/-
  The program's own words: slices.Clone, Sort and Compact of texts; Of.
-/
import Derived.Sort.OwnSorted
import Derived.Test.YtcaidgdnneomaaaAnswers
import Derived.Test.YtcaidgdnneomaaaBelowK
import Derived.Test.YtcaidgdnneomaaaSortStr
import Derived.Test.YtcaidgdnneomaaaDictP3
namespace Go.Proofs.Ytcaidgdnneomaaa
open Go.RowKit Go.BigFrame Go.Shelf

set_option maxRecDepth 100000 in
theorem cloneT10_any (v : Value) (l : List T8) (w : World) (hr : RdV w v (l.map tv)) (hl : l.length ≤ 100000) :
    Calls Try.prog 32 #[v] w fun e w' => ∃ v', e = .returned v' ∧ w'.ownsRow w.heap.size 9 1 v' l.length (l.map tv) ∧ Ext w w' := by
  obtain ⟨i1, hi1, hy0, hy1, hy2⟩ := info_parts Try.info_text
  have hq := fun W : World => Lib.run_eql_slice_nil (P := Try.prog) W
  have HB := Lib.hid (tv_oneCell l)
  have HLM := Lib.hid (show (l.map tv).length = l.length from List.length_map _)
  rcases hr with ⟨rfl, h1⟩ | ⟨x, cap, rfl, h2, h3, h4⟩
  · have HN := Lib.hid h1
    clear h1
    go_enter Try.func32, Try.ntmps32
    go_wp2_with fail
    go_ret
    refine ⟨_, rfl, ?_, Ext.keeps.refl _⟩
    have h0 := HLM.out
    rw [HN.out] at h0 ⊢
    rw [← h0]
    exact owns_nil _ _ _ _
  · have HR := Lib.hid (RdV.mono (show RdV w (.slice (some x) (l.map tv).length cap) (l.map tv) from .inr ⟨x, cap, rfl, h2, h3, h4⟩) (ext_new w (.cells #[] 9)))
    have HO := Lib.hid (empty_text w)
    clear h2 h3 h4
    generalize (l.map tv).length = L at HR HLM ⊢
    go_enter Try.func32, Try.ntmps32
    go_wp2_with (at_builtin; go_loud (refine wpList_append_rd rfl (.tmp 5) (.tmp 6) 22 rfl w.heap.size 9 i1 (.string ByteArray.empty) 16 Try.underlying22 hi1 hy0 hy1 hy2 rfl _ _ _ rfl HO.out _ _ rfl HR.out HB.out (by rw [List.length_map]; unfold maxLen; omega) (by rw [List.length_map]; omega) (by simp) ?_); intro v2 w2 hown2 hgrow2)
    go_ret
    refine ⟨_, rfl, by simpa using hown2, (((Below.refl _ w).alloc (Nat.le_refl _) _).grown hgrow2 (by simp) (fun k hk => by cases hk; exact Nat.le_refl _))⟩

/-- A row of texts of the call's own, sorted. -/
theorem sortT10_any (base : Nat) (v : Value) (l : List T8) (w : World) (ho : w.ownsRow base 9 1 v l.length (l.map tv)) (hb : base ≤ w.heap.size) (hl : l.length ≤ 100000) :
    Calls Try.prog 33 #[v] w fun e w' => e = .returned (.tuple #[]) ∧ w'.ownsRow base 9 1 v (l.mergeSort fun x y => decide (x ≤ y)).length ((l.mergeSort fun x y => decide (x ≤ y)).map tv) ∧ Below base w w' := by
  have hlen : (l.mergeSort fun x y => decide (x ≤ y)).length = l.length := List.length_mergeSort l
  rcases ho.2 with ⟨rfl, h0⟩ | ⟨g, cap, cur, rfl, hbase, hblk, h1, h2, h3, h4⟩
  · have hl0 : l = [] := List.length_eq_zero_iff.1 h0
    subst hl0
    refine (sortStrings_none none 0 w).mono ?_
    rintro e w' ⟨rfl, rfl⟩
    exact ⟨rfl, by rw [List.mergeSort_nil]; exact owns_nil _ _ _ _, Below.refl _ _⟩
  · refine (sortStrings_any g 0 cap l w (holds_of_block hblk (by rw [Nat.mul_one] at h4; exact h4)) (Array.getElem?_eq_some_iff.1 hblk).1 (by omega)).mono ?_
    rintro e w' ⟨rfl, n, os, rfl⟩
    refine ⟨rfl, ?_, (Below.refl base w).grown (grownBy_sorted _) hb (fun j hj => by cases hj; exact hbase)⟩
    have h := ownsRow_sorted (n := n) (os := os) hlen hbase hblk h1 h2 h3
    rw [hlen]
    exact h

theorem compactT_len (l : List T8) : (Lib.compact l).length ≤ l.length := by
  unfold Lib.compact Lib.compactUpTo
  rw [List.length_map]
  refine Nat.le_trans (List.length_filter_le _ _) ?_
  rw [List.length_range]
  exact Nat.le_refl _

/-- A row of texts of the call's own, each but once where the same stood side by side. -/
theorem compactT10_any (base : Nat) (v : Value) (l : List T8) (w : World) (ho : w.ownsRow base 9 1 v l.length (l.map tv)) (hb : base ≤ w.heap.size) (hl : l.length ≤ 100000) :
    Calls Try.prog 34 #[v] w fun e w' => ∃ v', e = .returned v' ∧ w'.ownsRow base 9 1 v' (Lib.compact l).length ((Lib.compact l).map tv) ∧ Below base w w' := by
  have hcl := compactT_len l
  rcases ho.2 with ⟨rfl, h0⟩ | ⟨g, cap, cur, rfl, hbase, hblk, h1, h2, h3, h4⟩
  · have hl0 : l = [] := List.length_eq_zero_iff.1 h0
    subst hl0
    refine (compactStrings_none none 0 w).mono ?_
    rintro e w' ⟨rfl, rfl⟩
    exact ⟨_, rfl, owns_nil _ _ _ _, Below.refl _ _⟩
  · refine (compactStrings_any g 0 cap l w (holds_of_block hblk (by rw [Nat.mul_one] at h4; exact h4)) (by omega) h1).mono ?_
    rintro e w' ⟨rfl, q, rfl⟩
    have hlen : (Lib.compact l ++ List.replicate (l.length - (Lib.compact l).length) []).length = l.length := by
      rw [List.length_append, List.length_replicate]
      omega
    have h := ownsRow_sorted (n := q) (os := #[]) hlen hbase hblk h1 h2 h3
    have hg := grownBy_sorted (w := w) (g := g) (n := q) (os := #[]) (Lib.compact l ++ List.replicate (l.length - (Lib.compact l).length) []).toArray
    rw [Go.Sort.grow_empty] at h hg
    refine ⟨_, rfl, ?_, (Below.refl base w).grown hg hb (fun j hj => by cases hj; exact hbase)⟩
    have h5 := owns_take h (Lib.compact l).length hcl
    rw [List.map_append, List.take_left' (List.length_map _)] at h5
    exact h5

set_option maxRecDepth 100000 in
set_option maxHeartbeats 4000000 in
theorem pOf10_any (u : Value) (l : List T8) (w : World) (hu : RdV w u (l.map tv)) (hl : l.length ≤ 100000) (hf : ∀ t ∈ l, t.length ≤ 1000000) :
    Calls Try.prog 9 #[u] w fun e w' => (∃ v p, e = .returned (.tuple #[v, p, .int .i64 (ofS10 l).2.2]) ∧ RdV w' v ((ofS10 l).1.map tv) ∧ RdV w' p ((ofS10 l).2.1.map (Value.int .i64))) ∧ Ext w w' := by
  obtain ⟨i2, hi2, hx0, hx1, hx2⟩ := info_parts Try.info_int8
  have HC := Lib.hid (anyLong10_any u l w hu (fun t ht => by have := hf t ht; omega))
  have HCL := Lib.hid (cloneT10_any u l w hu hl)
  have HU := Lib.hid hu
  obtain ⟨ao, cap, rfl, h1, h2, hat⟩ := rd_words hu
  have HAT := Lib.hid hat
  obtain ⟨N, hN⟩ : ∃ N, l.length = N := ⟨_, rfl⟩
  have HN := Lib.hid hN
  unfold maxLen at h2
  rw [hN] at h1 hl HC HCL HU ⊢
  clear hat hN hu hf
  by_cases hbig : 4096 < N
  · have HNO := Lib.hid (show ofS10 l = ([], [], 3) from ofS10_no (fun h => by have := h.1; have := HN.out; omega))
    have d1 : decide (4096 < N) = true := decide_eq_true hbig
    have d1' : decide ((4096 : Int) < (N : Int)) = true := decide_eq_true (by omega)
    go_enter Try.func9, Try.ntmps9
    go_wp2_with fail
    refine bodyPost_ret (v := .tuple #[.slice none 0 0, .slice none 0 0, .int .i64 3]) (by simp [results, Try.results9, go_sem]) rfl ⟨⟨_, _, by rw [HNO.out], by rw [HNO.out]; exact RdV.nil _, by rw [HNO.out]; exact RdV.nil _⟩, Ext.keeps.refl _⟩
  · have d1 : decide (4096 < N) = false := decide_eq_false hbig
    have d1' : decide ((4096 : Int) < (N : Int)) = false := decide_eq_false (by omega)
    cases hlong : l.any longT with
    | true =>
      rw [hlong] at HC
      have HNO := Lib.hid (show ofS10 l = ([], [], 3) from ofS10_no (fun h => longT_some hlong h.2.1))
      clear hlong
      go_enter Try.func9, Try.ntmps9
      go_wp2_with fail
      refine HC.out.mono ?_
      rintro e w1 ⟨rfl, rfl⟩
      go_wp2_with fail
      refine bodyPost_ret (v := .tuple #[.slice none 0 0, .slice none 0 0, .int .i64 3]) (by simp [results, Try.results9, go_sem]) rfl ⟨⟨_, _, by rw [HNO.out], by rw [HNO.out]; exact RdV.nil _, by rw [HNO.out]; exact RdV.nil _⟩, Ext.keeps.refl _⟩
    | false =>
      rw [hlong] at HC
      have HLT := Lib.hid (longT_any hlong)
      have HSW := Lib.hid (sorted_words l)
      have HWO := Lib.hid (words_ok l).1
      clear hlong
      go_enter Try.func9, Try.ntmps9
      go_wp2_with fail
      refine HC.out.mono ?_
      rintro e w1 ⟨rfl, rfl⟩
      go_wp2_with fail
      refine HCL.out.mono ?_
      rintro e w2 ⟨v2, rfl, ho2, hx2⟩
      have HO2 := Lib.hid ho2
      have HX2 := Lib.hid hx2
      clear ho2 hx2
      go_wp2_with fail
      refine (sortT10_any w.heap.size v2 l w2 (by rw [HN.out]; exact HO2.out) HX2.out.size (by rw [HN.out]; exact hl)).mono ?_
      rintro e w3 ⟨rfl, ho3, hx3⟩
      have HO3 := Lib.hid ho3
      have HX3 := Lib.hid (show Ext w w3 from Below.trans HX2.out hx3)
      have HSL := Lib.hid (show (l.mergeSort fun x y => decide (x ≤ y)).length ≤ 100000 by rw [List.length_mergeSort, HN.out]; exact hl)
      clear ho3 hx3
      generalize (l.mergeSort fun x y => decide (x ≤ y)) = s at HO3 HSW HSL
      go_wp2_with fail
      refine (compactT10_any w.heap.size v2 s w3 HO3.out HX3.out.size HSL.out).mono ?_
      rintro e w4 ⟨v4, rfl, ho4, hx4⟩
      rw [HSW.out] at ho4
      have HO4 := Lib.hid ho4
      have HX4 := Lib.hid (show Ext w w4 from Below.trans HX3.out hx4)
      obtain ⟨vo, vc, rfl, hv1, hv2⟩ := own_shapeP ho4
      have HK := Lib.hid (show (wordsOf l).length ≤ 100000 by have h1 := compactT_len s; rw [HSW.out] at h1; have := HSL.out; omega)
      clear ho4 hx4
      unfold maxLen at hv2
      by_cases h200 : 200 < (wordsOf l).length
      · have HNO := Lib.hid (show ofS10 l = ([], [], 3) from ofS10_no (fun h => by have := h.2.2; omega))
        generalize wordsOf l = W at *
        have d2 : decide (200 < W.length) = true := decide_eq_true h200
        have d2' : decide ((200 : Int) < (W.length : Int)) = true := decide_eq_true (by omega)
        go_wp2_with fail
        refine bodyPost_ret (v := .tuple #[.slice none 0 0, .slice none 0 0, .int .i64 3]) (by simp [results, Try.results9, go_sem]) rfl ⟨⟨_, _, by rw [HNO.out], by rw [HNO.out]; exact RdV.nil _, by rw [HNO.out]; exact RdV.nil _⟩, HX4.out⟩
      · have HOK := Lib.hid (show okTexts l from ⟨by have := HN.out; omega, HLT.out, by omega⟩)
        have HYES := Lib.hid (ofS10_ok HOK.out)
        have HPL := Lib.hid (fun (s : T8) (hs : s ∈ l) => place_stands HWO.out (((words_ok l).2 s).2 hs))
        generalize wordsOf l = W at *
        have d2 : decide (200 < W.length) = false := decide_eq_false h200
        have d2' : decide ((200 : Int) < (W.length : Int)) = false := decide_eq_false (by omega)
        have HRW := Lib.hid (RdV.of_owns HO4.out)
        have HLE := Lib.hid (fun s W2 (h : Ext w4 W2) => lesser10_any (.slice vo W.length vc) W s W2 (HRW.out.mono h) (by omega) HWO.out)
        go_wp2_with fail
        obtain ⟨wq, hwq⟩ : ∃ wq, wq = w4 := ⟨_, rfl⟩
        have HX0 := Lib.hid HX4.out
        rw [← hwq] at HLE HX0 HRW
        go_loopw [6, 8, 27] (fun r _ i wk => ∃ k : Nat, k ≤ N ∧ i = .int .i64 k ∧ wk.ownsRow wq.heap.size 3 1 r ((l.take k).map (placeS W)).length (((l.take k).map (placeS W)).map (Value.int .i64)) ∧ Ext wq wk) (fun _ _ i _ => N - (intOf i).toNat)
        case atStart => exact ⟨0, Nat.zero_le _, rfl, owns_nil _ _ _ _, by rw [hwq]; exact Ext.keeps.refl _⟩
        case round =>
          obtain ⟨k, hk, rfl, hown, hx⟩ := hrel
          have HOI := Lib.hid hown
          have HX5 := Lib.hid hx
          clear hown hx hwq
          by_cases hlt2 : k < N
          · have hkl : k < l.length := by have := HN.out; omega
            obtain ⟨g, off, rfl, hcx⟩ := HAT.out k hkl
            have hc := ((Ext.trans HX0.out HX5.out).cell (lt_of_cell hcx)).trans hcx
            have HS := Lib.hid (List.take_succ_eq_append_getElem hkl)
            have HLE2 := Lib.hid (show ((l.take k).map (placeS W)).length ≤ 4096 by rw [List.length_map, List.length_take]; omega)
            have HSZ := Lib.hid HX5.out.size
            have HPC := Lib.hid (HPL.out _ (List.getElem_mem hkl))
            generalize l[k] = s at hc HS HPC
            have HP := Lib.hid (HLE.out s wr HX5.out)
            generalize lessN W s = pl at HP HPC
            clear hcx hkl
            go_wp2_with fail
            refine HP.out.mono ?_
            rintro e w5 ⟨rfl, hx6⟩
            have HX6 := Lib.hid (Ext.trans HX5.out hx6)
            have HO6 := Lib.hid (owns_ext HOI.out hx6)
            have HSZ6 := Lib.hid HX6.out.size
            clear hx6
            go_wp2_with (at_builtin; go_must (refine wpList_append_own _ rfl (.tmp 31) (.tmp 35) 23 rfl wq.heap.size 3 i2 (.int .i64 0) 1 8 Try.underlying23 hi2 hx0 hx1 hx2 rfl (by decide) _ _ _ rfl (HO6.out.alloc _) ⟨w5.heap.size, 0, none⟩ 1 1 [_] rfl rfl (row_new _ _ _) (by simp [Value.oneCell']) (by have := HLE2.out; unfold maxLen; omega) (by have := HLE2.out; omega) (by have := HSZ6.out; simp; omega) ?_); intro v7 w7 hown7 hgrow7 _; have HO7 := Lib.hid hown7; have HB7 := Lib.hid (((Below.refl wq.heap.size w5).alloc HSZ6.out _).grown hgrow7 (by simp; have := HSZ6.out; omega) (fun b hb => (HO6.out.lt b hb).1)); clear hown7 hgrow7)
            go_roundw
            case rel =>
              refine ⟨k + 1, by omega, by go_num, ?_, (show Below wq.heap.size wq w5 from HX6.out).trans HB7.out⟩
              rw [HS.out, List.map_append, List.map_append, List.length_append]
              have h := HO7.out
              rw [← HPC.out] at h
              exact h
            case measure => simp [intOf]; omega
          · have HALL2 := Lib.hid (show l.take k = l from List.take_of_length_le (by have := HN.out; omega))
            have HRP := Lib.hid (RdV.of_owns HOI.out)
            rw [HALL2.out] at HRP
            go_wp2_with fail
            refine bodyPost_ret (v := .tuple #[.slice vo W.length vc, _, .int .i64 0]) (by simp [results, Try.results9, go_sem]; rfl) rfl ⟨⟨_, _, by rw [HYES.out], by rw [HYES.out]; exact HRW.out.mono HX5.out, by rw [HYES.out]; exact HRP.out⟩, Ext.trans HX0.out HX5.out⟩

end Go.Proofs.Ytcaidgdnneomaaa
