/-
  The walk of the law SpansTell.
-/
import Derived.Test.YthiijhdgbnpihaaSpansOf
namespace Go.Proofs.Ythiijhdgbnpihaa
open Go.RowKit Go.BigFrame

theorem mem_listS {l : List Sp} {k : Int} : k ∈ listS l ↔ hasS l k = true := by
  unfold listS hasS
  cases h : rightSp l with
  | false => simp
  | true =>
    rw [if_pos rfl, mem_places, Bool.true_and]
    constructor
    · exact fun h => h.2.2
    · intro hk
      have := inB_lo (of_decide_eq_true h) hk
      exact ⟨this.1, this.2, hk⟩
theorem listS_len (l : List Sp) : (listS l).length ≤ 4096 := by
  rw [listS_eq]
  exact placesTo_len _ _
theorem listS_bounds (l : List Sp) : ∀ k ∈ listS l, 0 ≤ k ∧ k < 4096 := by
  intro k hk
  unfold listS at hk
  split at hk
  · have := mem_places.1 hk
    exact ⟨this.1, this.2.1⟩
  · cases hk

set_option maxRecDepth 100000 in
set_option maxHeartbeats 1000000 in
theorem spansTell_walk (u : Value) (l : List Sp) (place : Int) (w : World) (hu : RdSp w u l) (hf : ∀ s ∈ l, s.fits) (hp : -9223372036854775808 ≤ place ∧ place ≤ 9223372036854775807) :
    Calls Try.prog 4 #[u, .int .i64 place] w fun e w' => e = .returned (.bool true) ∧ Below w.heap.size w w' := by
  have HFW := Lib.hid (few_any u l w hu)
  have HF := Lib.hid (show ∀ s ∈ l.take 200, s.fits from fun s hs => hf s (List.mem_of_mem_take hs))
  have HL := Lib.hid (show (l.take 200).length ≤ 200 by rw [List.length_take]; omega)
  have HP := Lib.hid hp
  generalize l.take 200 = x at HFW HF HL
  obtain ⟨ao, cap, rfl, h1, h2⟩ := hu.shape
  generalize l.length = N at HFW h1 ⊢
  clear hu hf hp
  unfold maxLen at h2
  go_enter Try.func4, Try.ntmps4
  go_wp2_with fail
  refine HFW.out.mono ?_
  rintro e w1 ⟨⟨v, rfl, hv⟩, rfl⟩
  have HV := Lib.hid hv
  have HIN := Lib.hid (show InSp w v x from ⟨hv, by have := HL.out; omega, HF.out⟩)
  clear hv
  go_wp2_with fail
  refine (refRightSp_any v x w HV.out).mono ?_
  rintro e w2 ⟨rfl, hx2⟩
  have HX2 := Lib.hid hx2
  clear hx2
  go_wp2_with fail
  refine (refList_any v x w2 (HV.out.mono HX2.out)).mono ?_
  rintro e w3 ⟨⟨lv, rfl, hown⟩, hx3⟩
  have HX3 := Lib.hid (Ext.trans HX2.out hx3)
  have HRL := Lib.hid (RdV.of_owns hown)
  have HLL := Lib.hid (listS_len x)
  have HMEM := Lib.hid (fun k => mem_listS (l := x) (k := k))
  obtain ⟨bo, bcap, rfl, hb1, hb2, hbat⟩ := RdV.cellsAt (RdV.of_owns hown)
  have HAT := Lib.hid hbat
  rw [List.length_map] at hb1 HRL ⊢
  unfold maxLen at hb2
  obtain ⟨ls, hls⟩ : ∃ ls, listS x = ls := ⟨_, rfl⟩
  have HLS := Lib.hid hls
  rw [hls] at HRL HLL HMEM HAT hb1 ⊢
  obtain ⟨M, hM⟩ : ∃ M, ls.length = M := ⟨_, rfl⟩
  have HM := Lib.hid hM
  rw [hM] at HRL hb1 ⊢
  clear hown hx3 hbat hls hM
  go_wp2_with fail
  go_loopw [8, 19] (fun h i wr => ∃ j : Nat, j ≤ M ∧ i = .int .i64 j ∧ h = .bool ((ls.take j).contains place) ∧ w3 = wr) (fun _ i _ => M - (intOf i).toNat)
  case atStart => exact ⟨0, Nat.zero_le _, rfl, rfl, rfl⟩
  case round =>
    obtain ⟨j, hj, rfl, rfl, rfl⟩ := hrel
    by_cases hlt : j < M
    · have hjl : j < ls.length := by have := HM.out; omega
      obtain ⟨y, rfl, hcv⟩ := HAT.out j (.int .i64 ls[j]) (by rw [List.getElem?_map, List.getElem?_eq_getElem hjl]; rfl)
      have HST := Lib.hid (List.take_succ_eq_append_getElem hjl)
      generalize ls[j] = k at hcv HST
      clear hjl
      cases hb : (ls.take j).contains place with
      | true =>
        have HB := Lib.hid hb
        clear hb
        go_wp2_with fail
        go_roundw
        case rel => exact ⟨j + 1, by omega, by go_num, by rw [HST.out, List.contains_append, HB.out]; rfl, trivial⟩
        case measure => simp [intOf]; omega
      | false =>
        have HB := Lib.hid hb
        clear hb
        go_wp2_with fail
        go_roundw
        case rel =>
          refine ⟨j + 1, by omega, by go_num, ?_, trivial⟩
          rw [HST.out, List.contains_append, HB.out, Bool.false_or]
          by_cases e : k = place
          · subst e
            simp
          · have e' : place ≠ k := fun h => e h.symm
            simp [e, e']
        case measure => simp [intOf]; omega
    · have HFULL := Lib.hid (show ls.take j = ls from List.take_of_length_le (by have := HM.out; omega))
      have HHAS := Lib.hid (show hasS x place = (ls.take j).contains place by
        rw [HFULL.out]
        have := HMEM.out place
        cases h : hasS x place with
        | true => exact (List.contains_iff_mem.2 (this.2 h)).symm
        | false =>
          cases hc : ls.contains place with
          | false => rfl
          | true => rw [this.1 (List.contains_iff_mem.1 hc)] at h; cases h)
      generalize (ls.take j).contains place = hb at HHAS ⊢
      go_wp2_with fail
      refine (shown7_any _).mono ?_
      rintro e w4 ⟨rfl, hx4⟩
      have HX4 := Lib.hid (Ext.trans HX3.out hx4)
      have HR4 := Lib.hid (HRL.out.mono hx4)
      clear hx4
      go_wp2_with fail
      refine (pRightSp_any _ x w4 (HIN.out.mono HX4.out)).mono ?_
      rintro e w5 ⟨rfl, hx5⟩
      have HX5 := Lib.hid (Ext.trans HX4.out hx5)
      have HR5 := Lib.hid (HR4.out.mono hx5)
      clear hx5
      have hrr : (rightSp x == rightSp x) = true := by cases rightSp x <;> rfl
      go_wp2_with fail
      clear hrr
      refine (pListSp_any _ x w5 (HIN.out.mono HX5.out)).mono ?_
      rintro e w6 ⟨⟨v6, rfl, hr6⟩, hx6⟩
      rw [HLS.out] at hr6
      have HX6 := Lib.hid (Ext.trans HX5.out hx6)
      have HR6 := Lib.hid (HR5.out.mono hx6)
      have HV6 := Lib.hid hr6
      clear hx6 hr6
      go_wp2_with fail
      refine (refInts_any _ _ ls ls w6 HV6.out HR6.out (by have := HLL.out; omega) (by have := HLL.out; omega)).mono ?_
      rintro e w7 ⟨rfl, hx7⟩
      rw [decide_eq_true rfl]
      have HX7 := Lib.hid (Ext.trans HX6.out hx7)
      clear hx7
      go_wp2_with fail
      refine (pCountSp_any _ x w7 (HIN.out.mono HX7.out)).mono ?_
      rintro e w8 ⟨rfl, hx8⟩
      rw [HLS.out, HM.out]
      have HX8 := Lib.hid (Ext.trans HX7.out hx8)
      clear hx8
      have hmm : ((M : Int) == (M : Int)) = true := beq_self_eq_true _
      go_wp2_with fail
      clear hmm
      refine (pHasSp_any _ x place w8 (HIN.out.mono HX8.out) HP.out).mono ?_
      rintro e w9 ⟨rfl, hx9⟩
      rw [HHAS.out]
      have HX9 := Lib.hid (Ext.trans HX8.out hx9)
      clear hx9
      have hhh : (hb == hb) = true := by cases hb <;> rfl
      go_wp2_with fail
      go_ret
      exact ⟨by simp, HX9.out⟩

end Go.Proofs.Ythiijhdgbnpihaa
