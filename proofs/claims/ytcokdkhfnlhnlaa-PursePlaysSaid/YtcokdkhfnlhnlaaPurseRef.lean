/-
  The contracts of the document's own purse.
-/
import Derived.Test.YtcokdkhfnlhnlaaPurseRow
namespace Go.Proofs.Ytcokdkhfnlhnlaa
open Go.RowKit Go.BigFrame

theorem refPNew_any (most : Int) (w : World) (hm : -9223372036854775808 ≤ most ∧ most ≤ 9223372036854775807) :
    Calls Try.prog 10 #[.int .i64 most] w fun e w' => PurNewed most w e w' := by
  obtain ⟨hm0, hm1⟩ := hm
  by_cases h0 : most < 0
  · have HN := Lib.hid (show ¬ (0 ≤ most ∧ most ≤ 1048576) by omega)
    go_enter Try.func10, Try.ntmps10
    go_wp2_with fail
    go_ret2
    exact Or.inr ⟨HN.out, rfl, Ext.keeps.refl _⟩
  · by_cases h1 : 1048576 < most
    · have HN := Lib.hid (show ¬ (0 ≤ most ∧ most ≤ 1048576) by omega)
      go_enter Try.func10, Try.ntmps10
      go_wp2_with fail
      go_ret2
      exact Or.inr ⟨HN.out, rfl, Ext.keeps.refl _⟩
    · have HP := Lib.hid (new_purse w 36 most (by omega) (by omega))
      go_enter Try.func10, Try.ntmps10
      go_wp2_with fail
      go_ret2
      exact Or.inl ⟨by omega, by omega, w.heap.size, rfl, HP.out, Nat.le_refl _, ext_new w _⟩

theorem refGive_any {w : World} {p : Nat} {s : Pu} (n : Int) (h : PurS w p s) (hn : -9223372036854775808 ≤ n ∧ n ≤ 9223372036854775807) :
    Calls Try.prog 12 #[.pointer (some ⟨p, 0, none⟩), .int .i64 n] w fun e w' => e = .returned (.int .i64 (giveP s n).1) ∧ PurS w' p (giveP s n).2 ∧ OnlyP p w w' := by
  have H := Lib.hid h
  obtain ⟨c0, c1, c2, fr, ⟨h0, h1, h2, h3, h4⟩⟩ := h
  obtain ⟨n0, n1⟩ := hn
  unfold giveP
  by_cases hneg : n < 0
  · rw [if_pos (.inl hneg)]
    clear fr
    go_enter Try.func12, Try.ntmps12
    go_wp2_with fail
    go_ret
    exact ⟨rfl, H.out, OnlyP.refl _ _⟩
  · by_cases hbig : s.now < n
    · rw [if_pos (.inr hbig)]
      clear fr
      go_enter Try.func12, Try.ntmps12
      go_wp2_with fail
      go_ret
      exact ⟨rfl, H.out, OnlyP.refl _ _⟩
    · rw [if_neg (by omega)]
      have f1 := fr 1
      have HS := Lib.hid (H.out.setNow (s.now - n) ⟨by simp only; omega, by simp only; omega, by simp only; omega, h3, h4⟩)
      clear fr
      go_enter Try.func12, Try.ntmps12
      go_wp2_with fail
      go_ret
      exact ⟨rfl, HS.out, OnlyP.set p 1 _ _⟩

set_option maxRecDepth 100000 in
theorem refTake_any {w : World} {p : Nat} {s : Pu} (n : Int) (h : PurS w p s) (hn : -9223372036854775808 ≤ n ∧ n ≤ 9223372036854775807) :
    Calls Try.prog 14 #[.pointer (some ⟨p, 0, none⟩), .int .i64 n] w fun e w' => e = .returned (.int .i64 (takeP s n).1) ∧ PurS w' p (takeP s n).2 ∧ OnlyP p w w' := by
  have H := Lib.hid h
  obtain ⟨n0, n1⟩ := hn
  obtain ⟨c0, c1, c2, fr, ⟨h0, h1, h2, h3, h4⟩⟩ := h
  have f1 := fr 1
  have f2 := fr 2
  clear fr
  unfold takeP
  by_cases hneg : n < 0
  · rw [if_pos hneg]
    clear c0 c1 c2 f1 f2
    go_enter Try.func14, Try.ntmps14
    go_wp2_with fail
    go_ret
    exact ⟨rfl, H.out, OnlyP.refl _ _⟩
  · rw [if_neg hneg]
    by_cases hbig : s.most - s.now < n
    · rw [if_pos hbig]
      go_enter Try.func14, Try.ntmps14
      go_wp2_with fail
      go_region
      go_wp2_with fail
      go_ret
      exact ⟨rfl, H.out.ext (Ext.drew _), OnlyP.of_ext (Ext.drew _)⟩
    · rw [if_neg hbig]
      have HD := Lib.hid (OnlyP.of_ext (g := p) (Ext.drew w))
      by_cases hmx : s.peak < s.now + n
      · have HS := Lib.hid ((((H.out.ext (Ext.drew w)).setBoth (s.now + n) (s.now + n) ⟨by simp only; omega, by simp only; omega, by simp only; omega, by simp only; omega, h4⟩)))
        have HM := Lib.hid (show max s.peak (s.now + n) = s.now + n by omega)
        go_enter Try.func14, Try.ntmps14
        go_wp2_with fail
        go_region
        go_wp2_with fail
        go_region
        go_wp2_with fail
        go_ret
        rw [HM.out]
        exact ⟨rfl, HS.out.ext (Ext.drew _), OnlyP.trans HD.out (OnlyP.trans (OnlyP.set p 1 _ _) (OnlyP.trans (OnlyP.set p 2 _ _) (OnlyP.of_ext (Ext.drew _))))⟩
      · have HS := Lib.hid ((((H.out.ext (Ext.drew w)).setBoth (s.now + n) s.peak ⟨by simp only; omega, by simp only; omega, by simp only; omega, by simp only; omega, h4⟩)))
        have HM := Lib.hid (show max s.peak (s.now + n) = s.peak by omega)
        go_enter Try.func14, Try.ntmps14
        go_wp2_with fail
        go_region
        go_wp2_with fail
        go_region
        go_wp2_with fail
        go_ret
        rw [HM.out]
        exact ⟨rfl, HS.out.ext (Ext.drew _), OnlyP.trans HD.out (OnlyP.trans (OnlyP.set p 1 _ _) (OnlyP.trans (OnlyP.set p 2 _ _) (OnlyP.of_ext (Ext.drew _))))⟩

set_option maxRecDepth 100000 in
theorem refRow_wrap (u : Value) (vs : List V) (w : World) (hu : RdVals w u vs) :
    Calls Try.prog 19 #[u] w fun e w' => e = .returned (.int .i64 (wrap64 (rowCost vs))) ∧ Ext w w' := by
  obtain ⟨ao, cap, rfl, h1, h2, hat⟩ := hu
  have HAT := Lib.hid hat
  obtain ⟨N, hN⟩ : ∃ N, vs.length = N := ⟨_, rfl⟩
  have HN := Lib.hid hN
  have HT := Lib.hid (show rowCost vs = rowCost (vs.take N) by rw [← hN, List.take_length])
  unfold maxLen at h2
  rw [hN] at h1 ⊢
  clear hat hN
  go_enter Try.func19, Try.ntmps19
  go_wp2_with fail
  go_loopw [3, 4] (fun s i wr => ∃ j : Nat, j ≤ N ∧ i = .int .i64 j ∧ s = .int .i64 (wrap64 (rowCost (vs.take j))) ∧ Ext w wr) (fun _ i _ => N - (intOf i).toNat)
  case atStart => exact ⟨0, Nat.zero_le _, rfl, row_start vs, Ext.keeps.refl _⟩
  case round =>
    obtain ⟨j, hj, rfl, rfl, hext⟩ := hrel
    have HE := Lib.hid hext
    clear hext
    by_cases hlt : j < N
    · have hjl : j < vs.length := by have := HN.out; omega
      obtain ⟨g, off, rfl, hcs⟩ := HAT.out j hjl
      have hk := fun i y hy => (HE.out.cell (lt_of_cell (hcs i y hy))).trans (hcs i y hy)
      have HS := Lib.hid (rowCost_take hjl)
      have c2 := hk 2 _ rfl
      generalize vs[j] = v at c2 HS
      obtain ⟨vk, vn, vs'⟩ := v
      simp only at c2
      clear hcs hk hjl
      generalize hR : rowCost (vs.take j) = R at HS ⊢
      have HW := Lib.hid (wrap_row R vs'.length)
      go_wp2_with fail
      go_roundw
      case rel =>
        refine ⟨j + 1, by omega, by go_num, ?_, HE.out⟩
        have h := HS.out
        simp only at h
        rw [h, HW.out.2]
      case measure => simp [intOf]; omega
    · have HJ := Lib.hid (show j = N by omega)
      go_wp2_with fail
      go_ret
      exact ⟨by rw [HT.out, HJ.out]; rfl, HE.out⟩

theorem refRow_any (u : Value) (vs : List V) (w : World) (hu : RdVals w u vs) (hc : rowCost vs ≤ 9223372036854775807) :
    Calls Try.prog 19 #[u] w fun e w' => e = .returned (.int .i64 (rowCost vs)) ∧ Ext w w' := by
  have h := refRow_wrap u vs w hu
  rwa [wrap64_fits (rowCost_pos vs) hc] at h

end Go.Proofs.Ytcokdkhfnlhnlaa
