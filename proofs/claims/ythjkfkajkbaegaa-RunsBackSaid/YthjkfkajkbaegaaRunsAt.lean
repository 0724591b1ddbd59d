/-
  The contracts of the document's own Right, At.
-/
import Derived.Test.YthjkfkajkbaegaaRunsAns
import Derived.Test.YthjkfkajkbaegaaRunsFlat
namespace Go.Proofs.Ythjkfkajkbaegaa
open Go.RowKit Go.BigFrame

theorem rightR_no {rs : List Sp} (h : (flatS rs).2 ≠ 0) : rightR rs = false := by
  unfold rightR
  exact decide_eq_false fun hh => h hh.1
theorem rightR_yes {rs : List Sp} (h : (flatS rs).2 = 0) : rightR rs = decide (ofR (flat rs) = rs) := by
  unfold rightR
  exact decide_eq_decide.2 ⟨fun hh => hh.2, fun hh => ⟨h, hh⟩⟩
theorem flatS_no {rs : List Sp} (h : (flatS rs).2 ≠ 0) : flatS rs = ([], 1) ∨ flatS rs = ([], 3) := by
  by_cases hg : goodR rs
  · by_cases hs : 4096 < sumR rs
    · exact .inr (flatS_long hg hs)
    · exact absurd (by rw [flatS_ok hg (by omega)]) h
  · exact .inl (flatS_bad hg)

set_option maxRecDepth 100000 in
set_option maxHeartbeats 1000000 in
theorem refRightR_any (u : Value) (rs : List Sp) (w : World) (hu : RdSp w u rs) :
    Calls Try.prog 21 #[u] w fun e w' => e = .returned (.bool (rightR rs)) ∧ Ext w w' := by
  have HU := Lib.hid hu
  clear hu
  go_enter Try.func21, Try.ntmps21
  go_wp2_with fail
  refine (refFlat_any u rs w HU.out).mono ?_
  rintro e w1 ⟨v1, rfl, ho1, hx1⟩
  have HX1 := Lib.hid hx1
  by_cases he : (flatS rs).2 = 0
  · obtain ⟨hg, hs, hf⟩ := flatS_zero he
    have HY := Lib.hid (rightR_yes he)
    have HL := Lib.hid (show (flat rs).length ≤ 5000 by have := flat_length hg; omega)
    rw [hf] at ho1 ⊢
    have HR := Lib.hid (show RdV w1 v1 ((flat rs).map (Value.int .i64)) from RdV.of_owns ho1)
    clear he hg hs hf ho1 hx1
    go_wp2_with fail
    refine (refOfR_any v1 (flat rs) w1 HR.out HL.out).mono ?_
    rintro e w2 ⟨⟨v2, rfl, ho2⟩, hx2⟩
    have HX2 := Lib.hid (Ext.trans HX1.out hx2)
    have HR2 := Lib.hid ho2.rd
    clear ho2 hx2
    go_wp2_with fail
    refine (refSameR_any v2 u (ofR (flat rs)) rs w2 HR2.out (HU.out.mono HX2.out)).mono ?_
    rintro e w3 ⟨rfl, hx3⟩
    have HX3 := Lib.hid (Ext.trans HX2.out hx3)
    clear hx3
    go_wp2_with fail
    go_ret
    exact ⟨by rw [HY.out]; rfl, HX3.out⟩
  · have HNO := Lib.hid (rightR_no he)
    have HC := flatS_no he
    clear he
    rcases HC with h | h
    all_goals
      rw [h]
      clear h
      go_wp2_with fail
      go_ret
      exact ⟨by rw [HNO.out]; rfl, HX1.out⟩

theorem atS_no {rs : List Sp} {p : Int} (h : ¬ ((flatS rs).2 = 0 ∧ 0 ≤ p ∧ p < sumR rs)) : atS rs p = (0, 0, false) := by
  unfold atS
  rw [if_neg h]
theorem atS_yes {rs : List Sp} {p : Int} (h : (flatS rs).2 = 0 ∧ 0 ≤ p ∧ p < sumR rs) : atS rs p = ((flat rs).getD p.toNat 0, runIdx rs p, true) := by
  unfold atS
  rw [if_pos h]
theorem sumR_drop {rs : List Sp} {k : Nat} (hk : k < rs.length) : sumR (rs.drop k) = rs[k].t + sumR (rs.drop (k + 1)) := by
  rw [List.drop_eq_getElem_cons hk, sumR]
theorem runIdx_drop {rs : List Sp} {k : Nat} (hk : k < rs.length) (p : Int) : runIdx (rs.drop k) p = if p < rs[k].t then 0 else 1 + runIdx (rs.drop (k + 1)) (p - rs[k].t) := by
  rw [List.drop_eq_getElem_cons hk, runIdx]

set_option maxRecDepth 100000 in
set_option maxHeartbeats 2000000 in
theorem refAt_any (u : Value) (rs : List Sp) (p : Int) (w : World) (hu : RdSp w u rs) :
    Calls Try.prog 19 #[u, .int .i64 p] w fun e w' => AnsAt w (atS rs p) e w' := by
  have HU := Lib.hid hu
  have HF := Lib.hid (refFlat_any u rs w hu)
  obtain ⟨ao, cap, rfl, h1, h2, hat, -⟩ := hu
  have HAT := Lib.hid hat
  obtain ⟨N, hN⟩ : ∃ N, rs.length = N := ⟨_, rfl⟩
  have HN := Lib.hid hN
  unfold maxLen at h2
  rw [hN] at h1 HF HU ⊢
  clear hat hN
  go_enter Try.func19, Try.ntmps19
  go_wp2_with fail
  refine HF.out.mono ?_
  rintro e w1 ⟨v1, rfl, ho1, hx1⟩
  have HX1 := Lib.hid hx1
  by_cases he : (flatS rs).2 = 0
  · obtain ⟨hg, hs, hf⟩ := flatS_zero he
    have HE := Lib.hid he
    have HG := Lib.hid hg
    have HS := Lib.hid hs
    rw [hf] at ho1 ⊢
    simp only at ho1 ⊢
    have HFL := Lib.hid (flat_length hg)
    obtain ⟨fo, fc, rfl, hf1, hf2⟩ := own_shapeP ho1
    have HR := Lib.hid (show RdV w1 _ ((flat rs).map (Value.int .i64)) from RdV.of_owns ho1)
    obtain ⟨M, hM⟩ : ∃ M, (flat rs).length = M := ⟨_, rfl⟩
    rw [hM] at hf1 HR HFL ⊢
    have HM := Lib.hid hM
    unfold maxLen at hf2
    clear he hg hs hf ho1 hx1 hM
    by_cases hp0 : p < 0
    · have HNO := Lib.hid (show atS rs p = (0, 0, false) from atS_no (fun h => by omega))
      go_wp2_with fail
      exact bodyPost_ret (v := .tuple #[.int .i64 0, .int .i64 0, .bool false]) (by simp [results, Try.results19, go_sem]) rfl ⟨by rw [HNO.out], HX1.out⟩
    · by_cases hpM : (M : Int) ≤ p
      · have HNO := Lib.hid (show atS rs p = (0, 0, false) from atS_no (fun h => by have := HFL.out; omega))
        go_wp2_with fail
        exact bodyPost_ret (v := .tuple #[.int .i64 0, .int .i64 0, .bool false]) (by simp [results, Try.results19, go_sem]) rfl ⟨by rw [HNO.out], HX1.out⟩
      · have HYES := Lib.hid (atS_yes (rs := rs) (p := p) ⟨HE.out, by omega, by have := HFL.out; omega⟩)
        go_wp2_with fail
        go_loopw [9, 10] (fun i l wr => ∃ (k : Nat) (q : Int), k ≤ N ∧ i = .int .i64 k ∧ l = .int .i64 q ∧ 0 ≤ q ∧ q ≤ 4096 ∧ q < sumR (rs.drop k) ∧ runIdx rs p = (k : Int) + runIdx (rs.drop k) q ∧ w1 = wr) (fun i _ _ => N - (intOf i).toNat)
        case atStart => exact ⟨0, p, Nat.zero_le _, rfl, rfl, by omega, by have := HS.out; have := HFL.out; omega, by have := HFL.out; rw [List.drop_zero]; omega, by rw [List.drop_zero]; simp, rfl⟩
        case round =>
          obtain ⟨k, q, hk, rfl, rfl, hq0, hq1, hq2, hri, rfl⟩ := hrel
          have HRI := Lib.hid hri
          have HQ2 := Lib.hid hq2
          have hkN : k < N := by
            refine Nat.lt_of_not_le fun h => ?_
            rw [List.drop_of_length_le (by have := HN.out; omega), sumR] at hq2
            omega
          have hkl : k < rs.length := by have := HN.out; omega
          obtain ⟨g, off, rfl, hx0, hx1⟩ := HAT.out k hkl
          have hc1 := (HX1.out.cell (lt_of_cell hx1)).trans hx1
          have HSD := Lib.hid (sumR_drop hkl)
          have HRD := Lib.hid (runIdx_drop hkl q)
          have HGC := Lib.hid (HG.out _ (List.getElem_mem hkl))
          generalize rs[k] = c at hc1 HSD HRD HGC
          obtain ⟨cf, ct⟩ := c
          simp only at hc1 HSD HRD HGC
          have hct := HGC.out
          clear hx0 hx1 hkl hri hq2
          by_cases hqt : ct ≤ q
          · have HR2 := Lib.hid (show runIdx (rs.drop k) q = 1 + runIdx (rs.drop (k + 1)) (q - ct) by rw [HRD.out, if_neg (by omega)])
            go_wp2_with fail
            go_roundw
            case rel => exact ⟨k + 1, q - ct, by omega, by go_num, by go_num, by omega, by omega, by have := HSD.out; have := HQ2.out; omega, by rw [HRI.out, HR2.out]; omega, trivial⟩
            case measure => simp [intOf]; omega
          · have HR2 := Lib.hid (show runIdx rs p = (k : Int) by rw [HRI.out, HRD.out, if_pos (by omega)]; omega)
            obtain ⟨P, rfl⟩ := Int.eq_ofNat_of_zero_le (show 0 ≤ p by omega)
            have hPM : P < (flat rs).length := by have := HM.out; omega
            obtain ⟨-, -, -, hfat⟩ := RdV.plain HR.out
            obtain ⟨g', off', rfl, hcf⟩ := hfat P hPM
            have HV := Lib.hid (show (flat rs).getD P 0 = (flat rs)[P] by rw [List.getD_eq_getElem?_getD, List.getElem?_eq_getElem hPM]; rfl)
            generalize (flat rs)[P] = X at hcf HV
            have hPM' : P < M := by omega
            clear hfat hPM
            go_wp2_with fail
            exact bodyPost_ret (v := .tuple #[.int .i64 X, .int .i64 (k : Int), .bool true]) (by simp [results, Try.results19, go_sem]) rfl ⟨by rw [HYES.out, HR2.out]; simp only [Int.toNat_natCast]; rw [HV.out], HX1.out⟩
  · have HNO := Lib.hid (show atS rs p = (0, 0, false) from atS_no (fun h => he h.1))
    have HC := flatS_no he
    clear he
    rcases HC with h | h
    all_goals
      rw [h]
      clear h
      go_wp2_with fail
      exact bodyPost_ret (v := .tuple #[.int .i64 0, .int .i64 0, .bool false]) (by simp [results, Try.results19, go_sem]) rfl ⟨by rw [HNO.out], HX1.out⟩

end Go.Proofs.Ythjkfkajkbaegaa
