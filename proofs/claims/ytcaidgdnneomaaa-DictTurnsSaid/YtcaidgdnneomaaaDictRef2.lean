/-
  The contracts of the document's own words: Right, begins, common, Find, From, Behind, Turn.
-/
import Derived.Test.YtcaidgdnneomaaaDictRef
import Derived.Test.YtcaidgdnneomaaaAnswers
namespace Go.Proofs.Ytcaidgdnneomaaa
open Go.RowKit Go.BigFrame

set_option maxRecDepth 100000 in
set_option maxHeartbeats 1000000 in
theorem refRightW_any (u : Value) (ws : List T8) (w : World) (hu : RdV w u (ws.map tv)) :
    Calls Try.prog 19 #[u] w fun e w' => e = .returned (.bool (rightW ws)) ∧ Ext w w' := by
  obtain ⟨ao, cap, rfl, h1, h2, hat⟩ := rd_words hu
  have HAT := Lib.hid hat
  obtain ⟨N, hN⟩ : ∃ N, ws.length = N := ⟨_, rfl⟩
  have HN := Lib.hid hN
  unfold maxLen at h2
  rw [hN] at h1 ⊢
  clear hat hN hu
  go_enter Try.func19, Try.ntmps19
  go_wp2_with fail
  go_loopw [3] (fun i wr => ∃ j : Nat, j ≤ N ∧ i = .int .i64 j ∧ (∀ k, (hk : k < ws.length) → k < j → okW ws k hk) ∧ Ext w wr) (fun i _ => N - (intOf i).toNat)
  case atStart => exact ⟨0, Nat.zero_le _, rfl, fun k _ h => by omega, Ext.keeps.refl _⟩
  case round =>
    obtain ⟨j, hj, rfl, hb, hx⟩ := hrel
    have HB := Lib.hid hb
    have HX := Lib.hid hx
    clear hb hx
    by_cases hlt : j < N
    · have hjl : j < ws.length := by have := HN.out; omega
      obtain ⟨g, off, rfl, hcx⟩ := HAT.out j hjl
      have hz0 : ∀ z : Later Ext wr.drew, z.val.cell? ⟨g, off + j, none⟩ = some (.string ⟨ws[j].toArray⟩) := fun z => ((Ext.trans HX.out (Ext.trans (Ext.drew wr) z.ext)).cell (lt_of_cell hcx)).trans hcx
      have HOK := Lib.hid (show okW ws j hjl ↔ (ws[j].length ≤ 1024 ∧ (0 < j → (ws[j - 1]'(by omega)) < ws[j])) from Iff.rfl)
      have HBAD := Lib.hid (fun (h : ¬ okW ws j hjl) => rightW_bad h)
      have HNX := Lib.hid (fun (h : okW ws j hjl) => (show ∀ k, (hk : k < ws.length) → k < j + 1 → okW ws k hk from fun k hk hkj => by
        by_cases e : k = j
        · subst e; exact h
        · exact HB.out k hk (by omega)))
      clear hcx
      by_cases hj0 : j = 0
      · subst hj0
        rw [Nat.add_zero] at hz0
        generalize ws[0] = c at hz0 HOK
        by_cases hlen : 1024 < c.length
        · have HNO := Lib.hid (HBAD.out (fun h => by have := (HOK.out.1 h).1; omega))
          have d1 : decide (1024 < c.length) = true := decide_eq_true hlen
          have d1' : decide ((1024 : Int) < (c.length : Int)) = true := decide_eq_true (by omega)
          go_wp2_with fail
          refine wp_region_segs Ext Ext.keeps [(List.range 22, none)] (by kernel_rfl) (by kernel_rfl) (fun c a a' w e h => (by exact ⟨e ▸ h.1, h.2⟩)) ?_
          simp only [List.range, List.range.loop, pickSegs, pickOps, List.map_cons, List.map_nil, Option.map_none, Option.getD_some, List.getElem?_toArray, List.getElem?_cons_zero, List.getElem?_cons_succ]
          refine wpSegs_none ?_
          repeat go_big_quiet_step (fail)
          refine wpQuiet_nil (wpSegs_nil ?_)
          clear hz0
          go_wp2_with fail
          go_ret
          exact ⟨by rw [HNO.out]; rfl, Ext.trans HX.out (Ext.drew wr)⟩
        · have HGOOD := Lib.hid (HNX.out (HOK.out.2 ⟨by omega, fun h => absurd h (Nat.lt_irrefl 0)⟩))
          have d1 : decide (1024 < c.length) = false := decide_eq_false hlen
          have d1' : decide ((1024 : Int) < (c.length : Int)) = false := decide_eq_false (by omega)
          go_wp2_with fail
          refine wp_region_segs Ext Ext.keeps [(List.range 22, none)] (by kernel_rfl) (by kernel_rfl) (fun c a a' w e h => (by exact ⟨e ▸ h.1, h.2⟩)) ?_
          simp only [List.range, List.range.loop, pickSegs, pickOps, List.map_cons, List.map_nil, Option.map_none, Option.getD_some, List.getElem?_toArray, List.getElem?_cons_zero, List.getElem?_cons_succ]
          refine wpSegs_none ?_
          repeat go_big_quiet_step (fail)
          refine wpQuiet_nil (wpSegs_nil ?_)
          clear hz0
          go_wp2_with fail
          go_roundw
          case rel => exact ⟨0 + 1, by omega, by go_num, HGOOD.out, Ext.trans HX.out (Ext.drew wr)⟩
          case measure => simp [intOf]; omega
      · obtain ⟨J, rfl⟩ : ∃ J, j = J + 1 := ⟨j - 1, by omega⟩
        have hJl : J < ws.length := by omega
        obtain ⟨g', off', he, hcy⟩ := HAT.out J hJl
        simp only [Option.some.injEq, Addr.mk.injEq, and_true] at he
        obtain ⟨rfl, rfl⟩ := he
        have hz2 : ∀ z : Later Ext wr.drew, z.val.cell? ⟨g, off + J, none⟩ = some (.string ⟨(ws[J]'hJl).toArray⟩) := fun z => ((Ext.trans HX.out (Ext.trans (Ext.drew wr) z.ext)).cell (lt_of_cell hcy)).trans hcy
        obtain ⟨p, hp⟩ : ∃ p, ws[J]'hJl = p := ⟨_, rfl⟩
        have HP := Lib.hid (show ws[J + 1 - 1]'(by omega) = p from hp)
        rw [hp] at hz2
        clear hp hcy hj0
        generalize ws[J + 1] = c at hz0 HOK
        by_cases hlen : 1024 < c.length
        · have HNO := Lib.hid (HBAD.out (fun h => by have := (HOK.out.1 h).1; omega))
          have d1 : decide (1024 < c.length) = true := decide_eq_true hlen
          have d1' : decide ((1024 : Int) < (c.length : Int)) = true := decide_eq_true (by omega)
          go_wp2_with fail
          refine wp_region_segs Ext Ext.keeps [(List.range 22, none)] (by kernel_rfl) (by kernel_rfl) (fun c a a' w e h => (by exact ⟨e ▸ h.1, h.2⟩)) ?_
          simp only [List.range, List.range.loop, pickSegs, pickOps, List.map_cons, List.map_nil, Option.map_none, Option.getD_some, List.getElem?_toArray, List.getElem?_cons_zero, List.getElem?_cons_succ]
          refine wpSegs_none ?_
          repeat go_big_quiet_step (fail)
          refine wpQuiet_nil (wpSegs_nil ?_)
          clear hz0 hz2
          go_wp2_with fail
          go_ret
          exact ⟨by rw [HNO.out]; rfl, Ext.trans HX.out (Ext.drew wr)⟩
        · have d1 : decide (1024 < c.length) = false := decide_eq_false hlen
          have d1' : decide ((1024 : Int) < (c.length : Int)) = false := decide_eq_false (by omega)
          by_cases hpc : p < c
          · have HGOOD := Lib.hid (HNX.out (HOK.out.2 ⟨by omega, fun _ => by rw [HP.out]; exact hpc⟩))
            have d2 : Op.bytesLess p c = true := (tless_iff p c).2 hpc
            clear hpc
            go_wp2_with fail
            refine wp_region_segs Ext Ext.keeps [(List.range 22, none)] (by kernel_rfl) (by kernel_rfl) (fun c a a' w e h => (by exact ⟨e ▸ h.1, h.2⟩)) ?_
            simp only [List.range, List.range.loop, pickSegs, pickOps, List.map_cons, List.map_nil, Option.map_none, Option.getD_some, List.getElem?_toArray, List.getElem?_cons_zero, List.getElem?_cons_succ]
            refine wpSegs_none ?_
            repeat go_big_quiet_step (fail)
            refine wpQuiet_nil (wpSegs_nil ?_)
            clear hz0 hz2
            go_wp2_with fail
            go_roundw
            case rel => exact ⟨J + 1 + 1, by omega, by go_num, HGOOD.out, Ext.trans HX.out (Ext.drew wr)⟩
            case measure => simp [intOf]; omega
          · have HNO := Lib.hid (HBAD.out (fun h => hpc (by have := (HOK.out.1 h).2 (Nat.succ_pos _); rwa [HP.out] at this)))
            have d2 : Op.bytesLess p c = false := by rw [tless_dec]; exact decide_eq_false hpc
            clear hpc
            go_wp2_with fail
            refine wp_region_segs Ext Ext.keeps [(List.range 22, none)] (by kernel_rfl) (by kernel_rfl) (fun c a a' w e h => (by exact ⟨e ▸ h.1, h.2⟩)) ?_
            simp only [List.range, List.range.loop, pickSegs, pickOps, List.map_cons, List.map_nil, Option.map_none, Option.getD_some, List.getElem?_toArray, List.getElem?_cons_zero, List.getElem?_cons_succ]
            refine wpSegs_none ?_
            repeat go_big_quiet_step (fail)
            refine wpQuiet_nil (wpSegs_nil ?_)
            clear hz0 hz2
            go_wp2_with fail
            go_ret
            exact ⟨by rw [HNO.out]; rfl, Ext.trans HX.out (Ext.drew wr)⟩
    · have HR := Lib.hid (rightW_len (ws := ws) fun k hk => HB.out k hk (by have := HN.out; omega))
      rw [HN.out] at HR
      by_cases h200 : N ≤ 200
      · have d1 : decide (N ≤ 200) = true := decide_eq_true h200
        have d1' : decide ((N : Int) ≤ 200) = true := decide_eq_true (by omega)
        go_wp2_with fail
        go_ret
        exact ⟨by rw [HR.out, d1]; rfl, HX.out⟩
      · have d1 : decide (N ≤ 200) = false := decide_eq_false h200
        have d1' : decide ((N : Int) ≤ 200) = false := decide_eq_false (by omega)
        go_wp2_with fail
        go_ret
        exact ⟨by rw [HR.out, d1]; rfl, HX.out⟩

end Go.Proofs.Ytcaidgdnneomaaa
