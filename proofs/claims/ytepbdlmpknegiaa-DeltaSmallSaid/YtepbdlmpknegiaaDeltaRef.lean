/-
  The contracts of the document's own Step, Rises, Put.
-/
import Derived.Test.YtepbdlmpknegiaaAnswers
import Derived.Test.YtepbdlmpknegiaaHead
import Derived.Test.YtepbdlmpknegiaaRef
import Derived.Test.YtepbdlmpknegiaaDeltaPure
namespace Go.Proofs.Ytepbdlmpknegiaa
open Go.RowKit Go.BigFrame

theorem refStepD_any (a b : Int) (w : World) (ha : -9223372036854775808 ≤ a ∧ a ≤ 9223372036854775807) (hb : -9223372036854775808 ≤ b ∧ b ≤ 9223372036854775807) :
    Calls Try.prog 10 #[.int .i64 a, .int .i64 b] w fun e w' => e = .returned (.tuple #[.int .i64 (stepS a b).1, .int .i64 (stepS a b).2]) ∧ w = w' := by
  by_cases h : okStep a b
  · rw [stepS_ok h]
    have h1 := h.1
    have h2 := h.2
    clear h
    by_cases ha0 : 0 ≤ a
    · by_cases hb0 : b < 0
      · have d1 : decide (0 ≤ a) = true := decide_eq_true ha0
        have d2 : decide (b < 0) = true := decide_eq_true hb0
        have d3 : decide (b < -9223372036854775808 + a) = false := decide_eq_false (by omega)
        have d4 : decide (a < 0) = false := decide_eq_false (by omega)
        go_enter Try.func10, Try.ntmps10
        go_wp2_with fail
        go_ret2
        exact ⟨rfl, rfl⟩
      · have d1 : decide (0 ≤ a) = true := decide_eq_true ha0
        have d2 : decide (b < 0) = false := decide_eq_false hb0
        have d4 : decide (a < 0) = false := decide_eq_false (by omega)
        go_enter Try.func10, Try.ntmps10
        go_wp2_with fail
        go_ret2
        exact ⟨rfl, rfl⟩
    · by_cases hb0 : 0 ≤ b
      · have d1 : decide (0 ≤ a) = false := decide_eq_false ha0
        have d2 : decide (0 ≤ b) = true := decide_eq_true hb0
        have d3 : decide (9223372036854775807 + a < b) = false := decide_eq_false (by omega)
        have d4 : decide (a < 0) = true := decide_eq_true (by omega)
        go_enter Try.func10, Try.ntmps10
        go_wp2_with fail
        go_ret2
        exact ⟨rfl, rfl⟩
      · have d1 : decide (0 ≤ a) = false := decide_eq_false ha0
        have d2 : decide (0 ≤ b) = false := decide_eq_false hb0
        have d4 : decide (a < 0) = true := decide_eq_true (by omega)
        go_enter Try.func10, Try.ntmps10
        go_wp2_with fail
        go_ret2
        exact ⟨rfl, rfl⟩
  · rw [stepS_no h]
    unfold okStep at h
    by_cases ha0 : 0 ≤ a
    · have d1 : decide (0 ≤ a) = true := decide_eq_true ha0
      have d2 : decide (b < 0) = true := decide_eq_true (by omega)
      have d3 : decide (b < -9223372036854775808 + a) = true := decide_eq_true (by omega)
      clear h
      go_enter Try.func10, Try.ntmps10
      go_wp2_with fail
      go_ret2
      exact ⟨rfl, rfl⟩
    · have d1 : decide (0 ≤ a) = false := decide_eq_false ha0
      have d2 : decide (0 ≤ b) = true := decide_eq_true (by omega)
      have d3 : decide (9223372036854775807 + a < b) = true := decide_eq_true (by omega)
      have d4 : decide (a < 0) = true := decide_eq_true (by omega)
      clear h
      go_enter Try.func10, Try.ntmps10
      go_wp2_with fail
      go_ret2
      exact ⟨rfl, rfl⟩

set_option maxRecDepth 100000 in
theorem refRises_any (u : Value) (l : List Int) (w : World) (hu : RdV w u (l.map (Value.int .i64))) :
    Calls Try.prog 16 #[u] w fun e w' => e = .returned (.bool (risesS l)) ∧ Ext w w' := by
  obtain ⟨ao, cap, rfl, -, -, -⟩ := RdV.cellsAt hu
  rw [List.length_map] at hu ⊢
  obtain ⟨-, h1, h2, hat⟩ := RdV.plain hu
  have HAT := Lib.hid hat
  obtain ⟨N, hN⟩ : ∃ N, l.length = N := ⟨_, rfl⟩
  have HN := Lib.hid hN
  unfold maxLen at h2
  rw [hN] at h1 ⊢
  clear hat hN hu
  go_enter Try.func16, Try.ntmps16
  go_wp2_with fail
  go_loopw [3] (fun i wr => ∃ j : Nat, 1 ≤ j ∧ (j = 1 ∨ j ≤ N) ∧ i = .int .i64 j ∧ (∀ k, (h : k + 1 < l.length) → k + 1 < j → l[k] ≤ l[k + 1]) ∧ Ext w wr) (fun i _ => N - (intOf i).toNat)
  case atStart => exact ⟨1, Nat.le_refl _, .inl rfl, rfl, fun k _ h => by omega, Ext.keeps.refl _⟩
  case round =>
    obtain ⟨j, hj1, hj, rfl, hr, hx⟩ := hrel
    have HR := Lib.hid hr
    have HX := Lib.hid hx
    clear hr hx
    by_cases hlt : j < N
    · obtain ⟨J, rfl⟩ : ∃ J, j = J + 1 := ⟨j - 1, by omega⟩
      have hj0 : J < l.length := by have := HN.out; omega
      have hjl : J + 1 < l.length := by have := HN.out; omega
      obtain ⟨g, off, rfl, hcx⟩ := HAT.out (J + 1) hjl
      obtain ⟨g', off', he, hcy⟩ := HAT.out J hj0
      simp only [Option.some.injEq, Addr.mk.injEq, and_true] at he
      obtain ⟨rfl, rfl⟩ := he
      have hzx : ∀ z : Later Ext wr.drew, z.val.cell? ⟨g, off + (J + 1), none⟩ = some (.int .i64 l[J + 1]) := fun z => ((Ext.trans HX.out (Ext.trans (Ext.drew wr) z.ext)).cell (lt_of_cell hcx)).trans hcx
      have hzy : ∀ z : Later Ext wr.drew, z.val.cell? ⟨g, off + J, none⟩ = some (.int .i64 l[J]) := fun z => ((Ext.trans HX.out (Ext.trans (Ext.drew wr) z.ext)).cell (lt_of_cell hcy)).trans hcy
      have HA := Lib.hid (fun (h : l[J] ≤ l[J + 1]) => (show ∀ k, (h : k + 1 < l.length) → k + 1 < J + 1 + 1 → l[k] ≤ l[k + 1] from fun k h1 h2 => by
        by_cases e : k = J
        · subst e; exact h
        · exact HR.out k h1 (by omega)))
      have HB := Lib.hid (fun (h : ¬ l[J] ≤ l[J + 1]) => (show risesS l = false from risesS_no (fun hh => h (hh J hjl))))
      generalize l[J + 1] = p at hzx HA HB
      generalize l[J] = q at hzy HA HB
      clear hcx hcy
      by_cases hpq : p < q
      · have HNO := Lib.hid (HB.out (by omega))
        have d1 : decide (p < q) = true := decide_eq_true hpq
        go_wp2_with fail
        refine wp_region_segs Ext Ext.keeps [(List.range 10, none)] (by kernel_rfl) (by kernel_rfl) (fun c a a' w e h => (by exact ⟨e ▸ h.1, h.2⟩)) ?_
        simp only [List.range, List.range.loop, pickSegs, pickOps, List.map_cons, List.map_nil, Option.map_none, Option.getD_some, List.getElem?_toArray, List.getElem?_cons_zero, List.getElem?_cons_succ]
        refine wpSegs_none ?_
        repeat go_big_quiet_step (fail)
        refine wpQuiet_nil (wpSegs_nil ?_)
        clear hzx hzy
        go_wp2_with fail
        go_ret
        exact ⟨by rw [HNO.out]; rfl, Ext.trans HX.out (Ext.drew wr)⟩
      · have HYES := Lib.hid (HA.out (by omega))
        have d1 : decide (p < q) = false := decide_eq_false hpq
        go_wp2_with fail
        refine wp_region_segs Ext Ext.keeps [(List.range 10, none)] (by kernel_rfl) (by kernel_rfl) (fun c a a' w e h => (by exact ⟨e ▸ h.1, h.2⟩)) ?_
        simp only [List.range, List.range.loop, pickSegs, pickOps, List.map_cons, List.map_nil, Option.map_none, Option.getD_some, List.getElem?_toArray, List.getElem?_cons_zero, List.getElem?_cons_succ]
        refine wpSegs_none ?_
        repeat go_big_quiet_step (fail)
        refine wpQuiet_nil (wpSegs_nil ?_)
        clear hzx hzy
        go_wp2_with fail
        go_roundw
        case rel => exact ⟨J + 1 + 1, by omega, .inr (by omega), by go_num, HYES.out, Ext.trans HX.out (Ext.drew wr)⟩
        case measure => simp [intOf]; omega
    · have HOK := Lib.hid (show risesS l = true from (risesS_iff l).2 (fun k h => HR.out k h (by have := HN.out; omega)))
      go_wp2_with fail
      go_ret
      exact ⟨by rw [HOK.out]; rfl, HX.out⟩

theorem step_fits {a x : Int} (h : okStep a x) : -9223372036854775808 ≤ x - a ∧ x - a ≤ 9223372036854775807 := h
theorem lastD_fits {l : List Int} (h : fitsI l) {a : Int} (ha : -9223372036854775808 ≤ a ∧ a ≤ 9223372036854775807) : -9223372036854775808 ≤ lastD a l ∧ lastD a l ≤ 9223372036854775807 := by
  rcases List.eq_nil_or_concat l with rfl | ⟨k, x, rfl⟩
  · exact ha
  · rw [List.concat_eq_append] at h ⊢
    rw [lastD_snoc]
    exact h x (by simp)
theorem fitsI_take {l : List Int} (h : fitsI l) (k : Nat) : fitsI (l.take k) := fun x hx => h x (List.mem_of_mem_take hx)

set_option maxRecDepth 100000 in
set_option maxHeartbeats 1000000 in
theorem refPutD_any (u : Value) (l : List Int) (w : World) (hu : RdV w u (l.map (Value.int .i64))) (hl : fitsI l) :
    Calls Try.prog 13 #[u] w fun e w' => AnsB w (putS11 l) e w' := by
  have HL := Lib.hid hl
  obtain ⟨ao, cap, rfl, -, -, -⟩ := RdV.cellsAt hu
  rw [List.length_map] at hu ⊢
  obtain ⟨-, h1, h2, hat⟩ := RdV.plain hu
  have HAT := Lib.hid hat
  obtain ⟨N, hN⟩ : ∃ N, l.length = N := ⟨_, rfl⟩
  have HN := Lib.hid hN
  unfold maxLen at h2
  rw [hN] at h1 ⊢
  clear hat hN hu hl
  by_cases hbig : 4096 < N
  · have HNO := Lib.hid (show putS11 l = ([], 3) from putS11_long (by have := HN.out; omega))
    go_enter Try.func13, Try.ntmps13
    go_wp2_with fail
    go_ret2
    exact ⟨_, by rw [HNO.out]; rfl, by rw [HNO.out]; exact owns_nil _ _ _ _, Ext.keeps.refl _⟩
  · have HBIG := Lib.hid (show ¬ 4096 < l.length by have := HN.out; omega)
    have HNUM := Lib.hid (refNum_any (.slice none 0 0) [] N w (Rd.nil w) (by decide) (by omega))
    go_enter Try.func13, Try.ntmps13
    go_wp2_with fail
    refine HNUM.out.mono ?_
    rintro e w2 ⟨v2, rfl, ho2, hx2⟩
    rw [List.nil_append] at ho2
    have HO2 := Lib.hid ho2
    have HX2 := Lib.hid (show Ext w w2 from hx2)
    clear ho2 hx2
    go_wp2_with fail
    go_loopw [4, 5, 6, 7, 8] (fun v la i _ _ wr => ∃ k : Nat, k ≤ N ∧ i = .int .i64 k ∧ la = .int .i64 (lastD 0 (l.take k)) ∧ okD 0 (l.take k) ∧ wr.ownsRow w.heap.size 5 1 v ((enc N ++ encI (stepsD 0 (l.take k))).map bv).length ((enc N ++ encI (stepsD 0 (l.take k))).map bv) ∧ Below w.heap.size w wr) (fun _ _ i _ _ _ => N - (intOf i).toNat)
    case atStart => exact ⟨0, Nat.zero_le _, rfl, rfl, trivial, by rw [show enc N ++ encI (stepsD 0 (l.take 0)) = enc N from List.append_nil _]; exact HO2.out, HX2.out⟩
    case round =>
      obtain ⟨k, hk, rfl, rfl, hok, hown, hx⟩ := hrel
      have HOK := Lib.hid hok
      have HX := Lib.hid hx
      have HO := Lib.hid hown
      clear hok hx hown
      by_cases hlt : k < N
      · have hkl : k < l.length := by have := HN.out; omega
        obtain ⟨g, off, rfl, hcx⟩ := HAT.out k hkl
        have HC := Lib.hid (fun W (h : Below w.heap.size w W) => (h.cell (lt_of_cell hcx)).trans hcx)
        have HT := Lib.hid (List.take_succ_eq_append_getElem hkl)
        have HXF := Lib.hid (HL.out _ (List.getElem_mem hkl))
        have HLF := Lib.hid (lastD_fits (fitsI_take HL.out k) (a := 0) (by decide))
        have HBAD := Lib.hid (fun (h : ¬ okStep (lastD 0 (l.take k)) l[k]) => (show putS11 l = ([], 8) from putS11_no HBIG.out (fun hh => h (by
          have e : l = l.take (k + 1) ++ l.drop (k + 1) := (List.take_append_drop _ _).symm
          rw [e, okD_append, List.take_succ_eq_append_getElem hkl, okD_append] at hh
          exact hh.1.2.1))))
        have HLEN := Lib.hid (show (enc N ++ encI (stepsD 0 (l.take k))).length ≤ 50000 by
          have h1 := enc_length N
          have h2 := encI_len (stepsD 0 (l.take k))
          rw [stepsD_length, List.length_take] at h2
          rw [List.length_append]
          omega)
        have HSD := Lib.hid (stepsD_append 0 (l.take k) [l[k]])
        have HOA := Lib.hid (okD_append 0 (l.take k) [l[k]])
        have HLS := Lib.hid (lastD_snoc 0 l[k] (l.take k))
        have hc0 := HC.out _ HX.out
        generalize l[k] = x at HC hc0 HT HXF HBAD HSD HOA HLS
        generalize lastD 0 (l.take k) = la at HLF HBAD HSD HOA ⊢
        generalize l.take k = p at HT HOK HO HLEN HSD HOA HLS
        clear hcx
        by_cases hst : okStep la x
        · have HST := Lib.hid hst
          have HCALL := Lib.hid (refStepD_any la x wr HLF.out HXF.out)
          rw [stepS_ok hst] at HCALL
          clear hst
          go_wp2_with fail
          refine HCALL.out.mono ?_
          rintro e w3 ⟨rfl, rfl⟩
          go_wp2_with fail
          refine (refInt_any _ (enc N ++ encI (stepsD 0 p)) (x - la) wr (RdV.of_owns HO.out) (by have := HLEN.out; omega) HST.out.1 HST.out.2).mono ?_
          rintro e w3 ⟨v3, rfl, ho3, hx3⟩
          have HO3 := Lib.hid ho3
          have HX3 := Lib.hid (show Below w.heap.size w w3 from HX.out.trans (hx3.mono HX.out.size))
          have hc1 := HC.out _ HX3.out
          clear ho3 hx3 hc0
          go_wp2_with fail
          go_roundw
          case rel =>
            refine ⟨k + 1, by omega, by go_num, by rw [HT.out, HLS.out], by rw [HT.out]; exact HOA.out.2 ⟨HOK.out, HST.out, trivial⟩, ?_, HX3.out⟩
            have h := owns_base HO3.out HX.out.size
            have e : enc N ++ encI (stepsD 0 (l.take (k + 1))) = enc N ++ encI (stepsD 0 p) ++ enc (zig (x - la)) := by
              rw [HT.out, HSD.out, encI_append, List.append_assoc]
              show _ ++ (_ ++ encI [x - la]) = _
              rw [encI_one]
            rw [e]
            exact h
          case measure => simp [intOf]; omega
        · have HNO := Lib.hid (HBAD.out hst)
          have HCALL := Lib.hid (refStepD_any la x wr HLF.out HXF.out)
          rw [stepS_no hst] at HCALL
          clear hst
          go_wp2_with fail
          refine HCALL.out.mono ?_
          rintro e w3 ⟨rfl, rfl⟩
          go_wp2_with fail
          go_ret2
          exact ⟨_, by rw [HNO.out]; rfl, by rw [HNO.out]; exact owns_nil _ _ _ _, HX.out⟩
      · have HALL := Lib.hid (show l.take k = l from List.take_of_length_le (by have := HN.out; omega))
        have HYES := Lib.hid (show putS11 l = (putD l, 0) from putS11_ok HBIG.out (by have := HOK.out; rwa [HALL.out] at this))
        have HPD := Lib.hid (show putD l = enc N ++ encI (stepsD 0 l) by unfold putD; rw [HN.out])
        go_wp2_with fail
        go_ret2
        refine ⟨_, by rw [HYES.out]; rfl, ?_, HX.out⟩
        rw [HYES.out]
        show World.ownsRow _ _ _ _ _ (putD l).length _
        have h := HO.out
        rw [HALL.out, List.length_map] at h
        rw [HPD.out]
        exact h

end Go.Proofs.Ytepbdlmpknegiaa
