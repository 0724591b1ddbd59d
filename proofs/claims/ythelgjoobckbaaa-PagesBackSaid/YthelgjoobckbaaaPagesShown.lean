/-
  'shown' (the document's examples) of layer 5.
-/
import Derived.Test.YthelgjoobckbaaaPagesFew
import Derived.Laws.OwnMore
namespace Go.Proofs.Ythelgjoobckbaaa
open Go.RowKit Go.BigFrame

theorem needS_57 : needS ((57 : Nat) : Int) = 2 := by decide
theorem shown_put (b : List UInt8) (hb : b.length = 57) : ∃ x y, putS [none, none] b = (([0, 1], 0), [some x, some y]) := by
  have ha : allocS [none, none] 2 = (([0, 1], 0), [some (layP 0 []), some (layP 1 [])]) := rfl
  refine ⟨layP 0 (b.take 56), layP 1 ((b.drop 56).take 56), ?_⟩
  unfold putS
  rw [hb, needS_57, ha, if_pos rfl]
  rfl
theorem shown_full (x y : List UInt8) : allocS [some x, some y] 1 = (([], 4), [some x, some y]) := rfl
theorem shown_drop (x y : List UInt8) : dropS [some x, some y] [0, 1] = [none, none] := rfl
theorem shown_again : ∃ z, allocS [none, none] 1 = (([0], 0), [some z, none]) := ⟨layP 0 [], rfl⟩

theorem zeros57 : (madeCells (Value.int .u8 0).cells (57 * 1)).toList = (List.replicate 57 (0 : UInt8)).map bv := by
  rw [Nat.mul_one, List.map_replicate]
  exact toList_madeCells_one _ _

set_option maxRecDepth 100000 in
set_option maxHeartbeats 1000000 in
theorem shown5_any (w : World) : Calls Try.prog 8 #[] w fun e w' => e = .returned (.bool true) ∧ Ext w w' := by
  obtain ⟨i0, hi, hz0, hz1, hz2⟩ := info_parts Try.info5
  have HMK := Lib.hid (fun W => run_makeSlice_full (P := Try.prog) W (base := W.heap.size) (t := 33) (e := 5) (i := i0) (z := .int .u8 0) (size := 1) (ht := Try.underlying33) (hi := hi) (hz := hz0) (hsize := hz1) (kl := .i64) (kc := .i64) (n := 57) (by decide) (by rw [hz2]; decide) (by unfold maxLen; decide) (Nat.le_refl _))
  obtain ⟨x, y, hput⟩ := shown_put (List.replicate 57 0) (by simp)
  obtain ⟨z, hag⟩ := shown_again
  have HPUT := Lib.hid hput
  have HAG := Lib.hid hag
  clear hput hag
  go_enter Try.func8, Try.ntmps8
  go_wp2_with fail
  refine (pNew_any 2 (by decide)).mono ?_
  rintro e w1 hN
  unfold PNewed at hN
  rcases hN with ⟨_, _, p, O1, rfl, hp1, ho1, hx1⟩ | ⟨h, _⟩
  · have HP1 := Lib.hid (show PSto O1 w1 p [none, none] from hp1)
    have HO1 := Lib.hid ho1
    have HX1 := Lib.hid hx1
    obtain ⟨w1', hmk, hrow, hgr⟩ := HMK.out w1
    have HROW := Lib.hid (show Rd w1' (.slice (some ⟨w1.heap.size, 0, none⟩) 57 57) (List.replicate 57 0) from by
      have h := RdV.of_owns hrow
      rw [zeros57] at h
      exact h)
    have HX1' := Lib.hid (show Ext w1 w1' from ⟨hgr.os, hgr.tape, hgr.output, hgr.size, fun k hk => hgr.block k hk (by simp)⟩)
    have hmk2 : (Instr.makeSlice 33 (.int .i64 57) (.int .i64 57)).run Try.prog w1 = .ok (.slice (some ⟨w1.heap.size, 0, none⟩) 57 57) w1' := hmk
    clear hp1 ho1 hx1 hmk hrow hgr
    go_wp2_with fail
    refine (pPut_any (O := O1) _ (List.replicate 57 0) (HP1.out.onlyS (OnlyS.of_ext (X := fun _ => False) HX1'.out) (fun _ _ h => h)) (s := [none, none]) ⟨by decide, fun p hp => by simp at hp⟩ HROW.out (fun _ k hk h => by cases hk; exact absurd (HP1.out.lt _ h) (Nat.lt_irrefl _)) (by simp)).mono ?_
    rintro e w2 ⟨v2, rfl, hown2, O2, hp2, ho2, hn2, hv2⟩
    rw [HPUT.out] at hown2 hp2 ⊢
    have HW2 := Lib.hid hown2
    have HP2 := Lib.hid hp2
    have HO2 := Lib.hid ho2
    have HN2 := Lib.hid hn2
    have HV2 := Lib.hid hv2
    clear hown2 hp2 ho2 hn2 hv2
    have OK1 : okS [some x, some y] := by
      have h := putS_ok (s := [none, none]) ⟨by decide, fun p hp => by simp at hp⟩ (List.replicate 57 0)
      rwa [HPUT.out] at h
    have HOK1 := Lib.hid OK1
    clear OK1
    go_wp2_with fail
    refine (pAlloc_any (O := O2) 1 HP2.out HOK1.out (by decide)).mono ?_
    rintro e w3 ⟨v3, rfl, hown3, O3, hp3, ho3, hn3, hv3⟩
    rw [shown_full] at hp3 ⊢
    have HP3 := Lib.hid hp3
    have HO3 := Lib.hid ho3
    have HN3 := Lib.hid hn3
    clear hown3 hp3 ho3 hn3 hv3
    have HV2a := Lib.hid (show ∀ k, v2.ownBlock = some k → ¬ O3 k from fun k hk h => by
      rcases HN3.out k h with h | h
      · exact HV2.out k hk h
      · have := (HW2.out.lt k hk).2; omega)
    have HR3 := Lib.hid (show RdV w3 v2 ([0, 1].map (Value.int .i64)) from RdV.onlyS (RdV.of_owns HW2.out) HO3.out (fun _ => HV2.out))
    go_wp2_with fail
    refine (pDrop_any (O := O3) v2 [0, 1] HP3.out HOK1.out HR3.out (fun _ => HV2a.out) (by decide) (fun i hi => by simp at hi; rcases hi with rfl | rfl <;> decide)).mono ?_
    rintro e w4 ⟨rfl, O4, hp4, ho4, hn4, hv4⟩
    rw [shown_drop] at hp4
    have HP4 := Lib.hid hp4
    have HO4 := Lib.hid ho4
    have HN4 := Lib.hid hn4
    clear hp4 ho4 hn4 hv4
    have HV2b := Lib.hid (show ∀ k, v2.ownBlock = some k → ¬ O4 k from fun k hk h => by
      rcases HN4.out k h with h | h
      · exact HV2a.out k hk h
      · have := (HW2.out.lt k hk).2; have := HO3.out.size; omega)
    have HR4 := Lib.hid (RdV.onlyS HR3.out HO4.out (fun _ => HV2a.out))
    go_wp2_with fail
    refine (pAlloc_any (O := O4) 1 HP4.out ⟨by decide, fun p hp => by simp at hp⟩ (by decide)).mono ?_
    rintro e w5 ⟨v5, rfl, hown5, O5, hp5, ho5, hn5, hv5⟩
    rw [HAG.out] at hown5 ⊢
    have HO5 := Lib.hid ho5
    have HR5 := Lib.hid (RdV.onlyS HR4.out HO5.out (fun _ => HV2b.out))
    have HW5 := Lib.hid (show RdV w5 v5 ([0].map (Value.int .i64)) from RdV.of_owns hown5)
    clear hown5 hp5 ho5 hn5 hv5
    have HX5 := Lib.hid (show Ext w w5 from by
      have h2 : ∀ b, O2 b → w.heap.size ≤ b := fun b hb => by
        rcases HN2.out b hb with h | h
        · exact HO1.out b h
        · have := HX1.out.size; have := HX1'.out.size; omega
      have h3 : ∀ b, O3 b → w.heap.size ≤ b := fun b hb => by
        rcases HN3.out b hb with h | h
        · exact h2 b h
        · have := HX1.out.size; have := HX1'.out.size; have := HO2.out.size; omega
      have h4 : ∀ b, O4 b → w.heap.size ≤ b := fun b hb => by
        rcases HN4.out b hb with h | h
        · exact h3 b h
        · have := HX1.out.size; have := HX1'.out.size; have := HO2.out.size; have := HO3.out.size; omega
      have s1 := HX1.out.size
      have s2 := HX1'.out.size
      have s3 := HO2.out.size
      have s4 := HO3.out.size
      have s5 := HO4.out.size
      exact Below.trans (Below.trans (Below.trans (Below.trans (Ext.trans HX1.out HX1'.out) (HO2.out.below (by omega) HO1.out)) (HO3.out.below (by omega) h2)) (HO4.out.below (by omega) h3)) (HO5.out.below (by omega) h4))
    clear HMK
    have hlit : ∀ (W : World) (xs : List Int), xs.length ≤ 4 → RdV (W.alloc (.cells (xs.map (Value.int .i64)).toArray 3)) (.slice (some ⟨W.heap.size, 0, none⟩) xs.length xs.length) (xs.map (Value.int .i64)) := fun W xs hl => .inr ⟨⟨W.heap.size, 0, none⟩, xs.length, by rw [List.length_map], by rw [List.length_map]; exact Nat.le_refl _, by unfold maxLen; omega, row_new W (xs.map (Value.int .i64)) 3⟩
    have HLIT := Lib.hid hlit
    clear hlit
    go_wp2_with fail
    refine (refInts_any v2 _ [0, 1] [0, 1] _ (HR5.out.mono (ext_new w5 _)) (HLIT.out w5 [0, 1] (by decide)) (by decide) (by decide)).mono ?_
    rintro e w6 ⟨rfl, hx6⟩
    have HX6 := Lib.hid (show Ext w5 w6 from Ext.trans (ext_new w5 _) hx6)
    clear hx6
    rw [decide_eq_true rfl]
    go_wp2_with fail
    refine (refInts_any v5 _ [0] [0] _ (HW5.out.mono (Ext.trans HX6.out (ext_new w6 _))) (HLIT.out w6 [0] (by decide)) (by decide) (by decide)).mono ?_
    rintro e w7 ⟨rfl, hx7⟩
    have HX7 := Lib.hid (show Ext w5 w7 from Ext.trans HX6.out (Ext.trans (ext_new w6 _) hx7))
    clear hx7
    rw [decide_eq_true rfl]
    go_wp2_with fail
    go_ret
    exact ⟨rfl, Ext.trans HX5.out HX7.out⟩
  · exact absurd (by decide) h

end Go.Proofs.Ythelgjoobckbaaa
