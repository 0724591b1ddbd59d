/-
  The law's own 'shown': the document's examples; 'few', 'one'.
-/
import Derived.Test.YtcaidgdnneomaaaDictRef7
import Derived.Test.YtcaidgdnneomaaaDictSays
import Derived.Test.YtcaidgdnneomaaaInts
namespace Go.Proofs.Ytcaidgdnneomaaa
open Go.ChangeAt Go.RowKit Go.BigFrame

/-- How many texts 'few' leaves. -/
def fewN : Nat → Nat → List T8 → Nat
  | _, _, [] => 0
  | i, left, t :: l => if 300 ≤ i ∨ 1100 < t.length ∨ left < t.length then 0 else 1 + fewN (i + 1) (left - t.length) l
def fewW (l : List T8) : List T8 := l.take (fewN 0 30000 l)
theorem fewN_le (l : List T8) : ∀ i left, fewN i left l ≤ l.length ∧ (∀ t ∈ l.take (fewN i left l), t.length ≤ 1100) ∧ (i ≤ 300 → fewN i left l + i ≤ 300) := by
  induction l with
  | nil => exact fun i left => ⟨Nat.le_refl _, fun t ht => (by cases ht), fun h => by show 0 + i ≤ 300; omega⟩
  | cons t l ih =>
    intro i left
    unfold fewN
    split
    · exact ⟨Nat.zero_le _, fun t ht => (by cases ht), fun h => by omega⟩
    · rename_i h
      obtain ⟨h1, h2, h3⟩ := ih (i + 1) (left - t.length)
      refine ⟨by rw [List.length_cons]; omega, fun x hx => ?_, fun h' => by have := h3 (by omega); omega⟩
      rw [Nat.add_comm, List.take_succ_cons] at hx
      rcases List.mem_cons.1 hx with rfl | hx
      · omega
      · exact h2 x hx
theorem fewW_ok (l : List T8) : (fewW l).length ≤ 300 ∧ ∀ t ∈ fewW l, t.length ≤ 1100 := by
  obtain ⟨h1, h2, h3⟩ := fewN_le l 0 30000
  refine ⟨?_, h2⟩
  have := h3 (by omega)
  unfold fewW
  rw [List.length_take]
  omega

set_option maxRecDepth 100000 in
set_option maxHeartbeats 1000000 in
theorem few10_any (u : Value) (l : List T8) (w : World) (hu : RdV w u (l.map tv)) :
    Calls Try.prog 10 #[u] w fun e w' => (∃ v, e = .returned v ∧ RdV w v ((fewW l).map tv)) ∧ w = w' := by
  have HU := Lib.hid hu
  obtain ⟨ao, cap, rfl, h1, h2, hat⟩ := rd_words hu
  have HAT := Lib.hid hat
  have HCUT := Lib.hid (fun K (hK : K ≤ l.length) (e : fewN 0 30000 l = K) => (show RdV w (.slice ao K cap) ((fewW l).map tv) by
    unfold fewW
    rw [e, List.map_take]
    exact rdV_first HU.out K hK))
  obtain ⟨N, hN⟩ : ∃ N, l.length = N := ⟨_, rfl⟩
  have HN := Lib.hid hN
  unfold maxLen at h2
  rw [hN] at h1 HCUT ⊢
  clear hat hN hu HU
  go_enter Try.func10, Try.ntmps10
  go_wp2_with fail
  go_loopw [3, 4, 7] (fun left _ i wr => ∃ (j L : Nat), j ≤ N ∧ L ≤ 30000 ∧ i = .int .i64 j ∧ left = .int .i64 L ∧ fewN 0 30000 l = j + fewN j L (l.drop j) ∧ w = wr) (fun _ _ i _ => N - (intOf i).toNat)
  case atStart => exact ⟨0, 30000, Nat.zero_le _, Nat.le_refl _, rfl, rfl, by rw [Nat.zero_add]; rfl, rfl⟩
  case round =>
    obtain ⟨j, L, hj, hL, rfl, rfl, hf, rfl⟩ := hrel
    have HF := Lib.hid hf
    clear hf
    by_cases hlt : j < N
    · have hjl : j < l.length := by have := HN.out; omega
      obtain ⟨g, off, rfl, hcx⟩ := HAT.out j hjl
      have HD := Lib.hid (List.drop_eq_getElem_cons hjl)
      generalize l[j] = t at hcx HD
      have HSTEP := Lib.hid (show fewN j L (l.drop j) = if 300 ≤ j ∨ 1100 < t.length ∨ L < t.length then 0 else 1 + fewN (j + 1) (L - t.length) (l.drop (j + 1)) by rw [HD.out]; rfl)
      have hjc : j ≤ cap := by omega
      by_cases hstop : 300 ≤ j ∨ 1100 < t.length ∨ L < t.length
      · have HR := Lib.hid (HCUT.out j hj (by rw [HF.out, HSTEP.out, if_pos hstop]; rfl))
        by_cases q1 : 300 ≤ j
        · have d1 : decide ((300 : Int) ≤ (j : Int)) = true := decide_eq_true (by omega)
          clear hstop
          go_wp2_with fail
          go_ret
          exact ⟨⟨_, rfl, HR.out⟩, rfl⟩
        · have d1 : decide ((300 : Int) ≤ (j : Int)) = false := decide_eq_false (by omega)
          by_cases q2 : 1100 < t.length
          · have d2 : decide ((1100 : Int) < (t.length : Int)) = true := decide_eq_true (by omega)
            clear hstop
            go_wp2_with fail
            go_ret
            exact ⟨⟨_, rfl, HR.out⟩, rfl⟩
          · have d2 : decide ((1100 : Int) < (t.length : Int)) = false := decide_eq_false (by omega)
            have d3 : decide (L < t.length) = true := decide_eq_true (by omega)
            clear hstop
            go_wp2_with fail
            go_ret
            exact ⟨⟨_, rfl, HR.out⟩, rfl⟩
      · have HNX := Lib.hid (show fewN 0 30000 l = (j + 1) + fewN (j + 1) (L - t.length) (l.drop (j + 1)) by rw [HF.out, HSTEP.out, if_neg hstop]; omega)
        have d1 : decide ((300 : Int) ≤ (j : Int)) = false := decide_eq_false (by omega)
        have d2 : decide ((1100 : Int) < (t.length : Int)) = false := decide_eq_false (by omega)
        have d3 : decide (L < t.length) = false := decide_eq_false (by omega)
        have htl : t.length ≤ L := by omega
        clear hstop
        go_wp2_with fail
        go_roundw
        case rel => exact ⟨j + 1, L - t.length, by omega, by omega, by go_num, by go_num, HNX.out, trivial⟩
        case measure => simp [intOf]; omega
    · have hjN : j = N := by omega
      have HR := Lib.hid (HCUT.out N (Nat.le_refl _) (by rw [HF.out, List.drop_eq_nil_of_le (by have := HN.out; omega), hjN]; rfl))
      clear hjN
      go_wp2_with fail
      go_ret
      exact ⟨⟨_, rfl, HR.out⟩, rfl⟩

theorem one10_any (s : T8) (w : World) :
    Calls Try.prog 15 #[.string ⟨s.toArray⟩] w fun e w' => e = .returned (.string ⟨(s.take 1100).toArray⟩) ∧ w = w' := by
  obtain ⟨K, hk1, hk2, hk3, hk4, hk5⟩ := min_firstN s.length 1100
  have HK := Lib.hid (show s.take K = s.take 1100 by rw [hk5, take_minN])
  have hcut := tcut_take s K
  simp only [Int.cast_ofNat_Int] at hk1 hk2
  clear hk5
  rw [← HK.out]
  go_enter Try.func15, Try.ntmps15
  go_wp2_with fail
  go_ret
  exact ⟨rfl, rfl⟩

theorem ex_of10 : ofS10 [[98], [97], [98]] = ([[97], [98]], [1, 0, 1], 0) := by decide
theorem ex_put10 : putS10 [[97, 98], [97, 98, 99]] = ([2, 0, 2, 97, 98, 2, 1, 99], 0) := by decide
theorem ex_from10 : fromS [[97], [98], [99]] [98, 98] = 2 := by decide
theorem ex_behind10 : behindS [[97], [97, 98], [98]] [97] = 2 := by decide
/-- Words written out. -/
theorem lit_words (w : World) (l : List T8) (t : TypeId) (hl : l.length ≤ 10) : RdV (w.alloc (.cells (l.map tv).toArray t)) (.slice (some ⟨w.heap.size, 0, none⟩) l.length l.length) (l.map tv) :=
  .inr ⟨⟨w.heap.size, 0, none⟩, l.length, by rw [List.length_map], by rw [List.length_map]; exact Nat.le_refl _, by unfold maxLen; omega, row_new w _ _⟩

set_option maxRecDepth 100000 in
set_option maxHeartbeats 1000000 in
theorem shown10_any (w : World) : Calls Try.prog 12 #[] w fun e w' => e = .returned (.bool true) ∧ Ext w w' := by
  have HL := Lib.hid (fun (W : World) (l : List T8) (hl : l.length ≤ 10) => lit_words W l 9 hl)
  go_enter Try.func12, Try.ntmps12
  go_wp2_with fail
  refine (pOf10_any _ [[98], [97], [98]] _ (HL.out w _ (by decide)) (by decide) (by decide)).mono ?_
  rintro e w1 ⟨⟨v1, p1, rfl, hv1, hp1⟩, hx1⟩
  rw [ex_of10] at hv1 hp1 ⊢
  simp only at hv1 hp1 ⊢
  have HV1 := Lib.hid hv1
  have HP1 := Lib.hid hp1
  have HX1 := Lib.hid (Ext.trans (ext_new w _) hx1)
  clear hv1 hp1 hx1
  go_wp2_with fail
  refine (pPut10_any _ [[97, 98], [97, 98, 99]] _ (HL.out w1 _ (by decide)) (by decide) (by decide)).mono ?_
  rintro e w2 ⟨v2, rfl, ho2, hx2⟩
  rw [ex_put10] at ho2 ⊢
  have HR2 := Lib.hid (show Rd w2 v2 [2, 0, 2, 97, 98, 2, 1, 99] from RdV.of_owns ho2)
  have HX2 := Lib.hid (Ext.trans (ext_new w1 _) hx2)
  clear ho2 hx2
  go_wp2_with fail
  refine (refSameW_any v1 _ [[97], [98]] [[97], [98]] _ (HV1.out.mono (Ext.trans HX2.out (ext_new w2 _))) (HL.out w2 [[97], [98]] (by decide))).mono ?_
  rintro e w3 ⟨rfl, hx3⟩
  rw [decide_eq_true rfl]
  have HX3 := Lib.hid (Ext.trans (ext_new w2 _) hx3)
  clear hx3
  go_wp2_with fail
  refine (refInts_any p1 _ [1, 0, 1] [1, 0, 1] _ (HP1.out.mono (Ext.trans HX2.out (Ext.trans HX3.out (ext_new w3 _)))) (.inr ⟨⟨w3.heap.size, 0, none⟩, 3, rfl, by decide, by decide, row_new w3 [.int .i64 1, .int .i64 0, .int .i64 1] 3⟩) (by decide) (by decide)).mono ?_
  rintro e w4 ⟨rfl, hx4⟩
  rw [decide_eq_true rfl]
  have HX4 := Lib.hid (Ext.trans (ext_new w3 _) hx4)
  clear hx4
  go_wp2_with fail
  refine (pFrom10_any _ [[97], [98], [99]] [98, 98] _ (HL.out w4 _ (by decide)) (by decide) (by decide) (by decide)).mono ?_
  rintro e w5 ⟨rfl, hx5⟩
  rw [ex_from10]
  have HX5 := Lib.hid (Ext.trans (ext_new w4 _) hx5)
  clear hx5
  go_wp2_with fail
  refine (pBehind10_any _ [[97], [97, 98], [98]] [97] _ (HL.out w5 _ (by decide)) (by decide) (by decide) (by decide)).mono ?_
  rintro e w6 ⟨rfl, hx6⟩
  rw [ex_behind10]
  have HX6 := Lib.hid (Ext.trans (ext_new w5 _) hx6)
  have HXA := Lib.hid (Ext.trans HX3.out (Ext.trans HX4.out (Ext.trans HX5.out HX6.out)))
  have hs1 := str_of (HR2.out.mono HXA.out)
  clear hx6
  go_wp2_with fail
  go_ret
  exact ⟨by simp, Ext.trans HX1.out (Ext.trans HX2.out HXA.out)⟩

end Go.Proofs.Ytcaidgdnneomaaa
