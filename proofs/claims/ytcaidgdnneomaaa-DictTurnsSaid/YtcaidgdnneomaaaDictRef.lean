/-
  The contracts of the document's own words: Same, place, Right, begins, common.
-/
import Derived.RegionTactic
import Derived.ChangeAlike
import Derived.BigQuiet
import Derived.Test.YtcaidgdnneomaaaDictPure
import Derived.Test.YtcaidgdnneomaaaRows
namespace Go.Proofs.Ytcaidgdnneomaaa
open Go.RowKit Go.BigFrame

/-- Words that are read: where they lie. -/
theorem rd_words {w : World} {v : Value} {ws : List T8} (h : RdV w v (ws.map tv)) : ∃ ao cap, v = .slice ao ws.length cap ∧ ws.length ≤ cap ∧ cap ≤ maxLen ∧ ∀ j, (hj : j < ws.length) → ∃ g off, ao = some ⟨g, off, none⟩ ∧ w.cell? ⟨g, off + j, none⟩ = some (.string ⟨ws[j].toArray⟩) := by
  obtain ⟨ao, cap, rfl, -, -, -⟩ := RdV.cellsAt h
  rw [List.length_map] at h ⊢
  obtain ⟨-, h2, h3, h4⟩ := RdV.plainV h
  exact ⟨ao, cap, rfl, h2, h3, fun j hj => h4 j _ (by rw [List.getElem?_map, List.getElem?_eq_getElem hj]; rfl)⟩

set_option maxRecDepth 100000 in
theorem refSameW_any (u v : Value) (xs ys : List T8) (w : World) (hu : RdV w u (xs.map tv)) (hv : RdV w v (ys.map tv)) :
    Calls Try.prog 13 #[u, v] w fun e w' => e = .returned (.bool (decide (xs = ys))) ∧ Ext w w' := by
  obtain ⟨ao, ca, rfl, h1, h2, hca⟩ := rd_words hu
  obtain ⟨bo, cb, rfl, h3, h4, hcb⟩ := rd_words hv
  have HA := Lib.hid hca
  have HB := Lib.hid hcb
  unfold maxLen at h2 h4
  clear hu hv hca hcb
  by_cases hL : xs.length = ys.length
  · have HL := Lib.hid hL
    generalize hN : ys.length = N at h3
    rw [hL, hN] at h1 ⊢
    replace hN := Lib.hid hN
    clear hL
    go_enter Try.func13, Try.ntmps13
    go_wp2_with fail
    go_loopw [5] (fun i wr => ∃ j : Nat, j ≤ N ∧ i = .int .i64 j ∧ xs.take j = ys.take j ∧ Ext w wr) (fun i _ => N - (intOf i).toNat)
    case atStart => exact ⟨0, Nat.zero_le _, rfl, rfl, Ext.keeps.refl _⟩
    case round =>
      obtain ⟨j, hj, rfl, htk, hext⟩ := hrel
      have HT := Lib.hid htk
      have HE := Lib.hid hext
      clear htk hext
      by_cases hlt : j < N
      · have hjx : j < xs.length := by have := HL.out; have := hN.out; omega
        have hjy : j < ys.length := by have := hN.out; omega
        obtain ⟨g, off, rfl, hcx⟩ := HA.out j hjx
        obtain ⟨g', off', rfl, hcy⟩ := HB.out j hjy
        have hzx : ∀ z : Later Ext wr.drew, z.val.cell? ⟨g, off + j, none⟩ = some (.string ⟨xs[j].toArray⟩) := fun z => ((Ext.trans HE.out (Ext.trans (Ext.drew wr) z.ext)).cell (lt_of_cell hcx)).trans hcx
        have hzy : ∀ z : Later Ext wr.drew, z.val.cell? ⟨g', off' + j, none⟩ = some (.string ⟨ys[j].toArray⟩) := fun z => ((Ext.trans HE.out (Ext.trans (Ext.drew wr) z.ext)).cell (lt_of_cell hcy)).trans hcy
        clear hcx hcy
        have HS := Lib.hid (show xs.take (j + 1) = xs.take j ++ [xs[j]] ∧ ys.take (j + 1) = ys.take j ++ [ys[j]] from ⟨List.take_succ_eq_append_getElem hjx, List.take_succ_eq_append_getElem hjy⟩)
        have HG := Lib.hid (show xs[j]? = some xs[j] ∧ ys[j]? = some ys[j] from ⟨List.getElem?_eq_getElem hjx, List.getElem?_eq_getElem hjy⟩)
        generalize xs[j] = c at hzx HS HG
        generalize ys[j] = d at hzy HS HG
        clear hjx hjy
        by_cases hcd : c = d
        · subst hcd
          go_wp2_with fail
          refine wp_region_segs Ext Ext.keeps [(List.range 9, none)] (by kernel_rfl) (by kernel_rfl) (fun c a a' w e h => (by exact ⟨e ▸ h.1, h.2⟩)) ?_
          simp only [List.range, List.range.loop, pickSegs, pickOps, List.map_cons, List.map_nil, Option.map_none, Option.getD_some, List.getElem?_toArray, List.getElem?_cons_zero, List.getElem?_cons_succ]
          refine wpSegs_none ?_
          repeat go_big_quiet_step (fail)
          refine wpQuiet_nil (wpSegs_nil ?_)
          clear hzx hzy
          go_wp2_with fail
          go_roundw
          case rel => exact ⟨j + 1, by omega, by go_num, by rw [HS.out.1, HS.out.2, HT.out], Ext.trans HE.out (Ext.drew wr)⟩
          case measure => simp [intOf]; omega
        · have hq : (c == d) = false := beq_eq_false_iff_ne.2 hcd
          have HNE := Lib.hid (show decide (xs = ys) = false from decide_eq_false (fun h => by subst h; have h1 := HG.out.1; rw [HG.out.2] at h1; exact hcd (Option.some.inj h1).symm))
          clear hcd
          go_wp2_with fail
          refine wp_region_segs Ext Ext.keeps [(List.range 9, none)] (by kernel_rfl) (by kernel_rfl) (fun c a a' w e h => (by exact ⟨e ▸ h.1, h.2⟩)) ?_
          simp only [List.range, List.range.loop, pickSegs, pickOps, List.map_cons, List.map_nil, Option.map_none, Option.getD_some, List.getElem?_toArray, List.getElem?_cons_zero, List.getElem?_cons_succ]
          refine wpSegs_none ?_
          repeat go_big_quiet_step (fail)
          refine wpQuiet_nil (wpSegs_nil ?_)
          clear hzx hzy
          go_wp2_with fail
          go_ret
          exact ⟨by rw [HNE.out]; rfl, Ext.trans HE.out (Ext.drew wr)⟩
      · have HEQ := Lib.hid (show decide (xs = ys) = true from decide_eq_true (by have h := HT.out; rw [List.take_of_length_le (by have := HL.out; have := hN.out; omega), List.take_of_length_le (by have := hN.out; omega)] at h; exact h))
        go_wp2_with fail
        go_ret
        exact ⟨by rw [HEQ.out]; rfl, HE.out⟩
  · have HNE := Lib.hid (show decide (xs = ys) = false from decide_eq_false (fun h => hL (by rw [h])))
    have hq : ((xs.length : Int) == (ys.length : Int)) = false := by rw [beq_eq_false_iff_ne]; omega
    clear hL
    generalize xs.length = M at hq h1 ⊢
    generalize ys.length = N at hq h3 ⊢
    go_enter Try.func13, Try.ntmps13
    go_wp2_with fail
    go_ret
    exact ⟨by rw [HNE.out]; rfl, Ext.keeps.refl _⟩

set_option maxRecDepth 100000 in
theorem refPlace_any (u : Value) (ws : List T8) (s : T8) (w : World) (hu : RdV w u (ws.map tv)) :
    Calls Try.prog 36 #[u, .string ⟨s.toArray⟩] w fun e w' => e = .returned (.int .i64 (placeS ws s)) ∧ w = w' := by
  obtain ⟨ao, cap, rfl, h1, h2, hat⟩ := rd_words hu
  have HAT := Lib.hid hat
  obtain ⟨N, hN⟩ : ∃ N, ws.length = N := ⟨_, rfl⟩
  have HN := Lib.hid hN
  unfold maxLen at h2
  rw [hN] at h1 ⊢
  clear hat hN hu
  go_enter Try.func36, Try.ntmps36
  go_wp2_with fail
  go_loopw [5] (fun i wr => ∃ j : Nat, j ≤ N ∧ i = .int .i64 j ∧ (∀ k, (hk : k < ws.length) → k < j → ws[k] ≠ s) ∧ w = wr) (fun i _ => N - (intOf i).toNat)
  case atStart => exact ⟨0, Nat.zero_le _, rfl, fun k _ h => by omega, rfl⟩
  case round =>
    obtain ⟨j, hj, rfl, hb, rfl⟩ := hrel
    have HB := Lib.hid hb
    clear hb
    by_cases hlt : j < N
    · have hjl : j < ws.length := by have := HN.out; omega
      obtain ⟨g, off, rfl, hcx⟩ := HAT.out j hjl
      have HY := Lib.hid (fun (h : ws[j] = s) => placeS_found hjl h HB.out)
      have HNO := Lib.hid (fun (h : ws[j] ≠ s) => (show ∀ k, (hk : k < ws.length) → k < j + 1 → ws[k] ≠ s from fun k hk hkj => by
        by_cases e : k = j
        · subst e; exact h
        · exact HB.out k hk (by omega)))
      generalize ws[j] = c at hcx HY HNO
      by_cases hc : c = s
      · subst hc
        have HYY := Lib.hid (HY.out rfl)
        have hq : (c == c) = true := beq_self_eq_true _
        go_wp2_with fail
        go_ret
        exact ⟨by rw [HYY.out]; rfl, rfl⟩
      · have HNN := Lib.hid (HNO.out hc)
        have hq : (c == s) = false := beq_eq_false_iff_ne.2 hc
        clear hc
        go_wp2_with fail
        go_roundw
        case rel => exact ⟨j + 1, by omega, by go_num, HNN.out, trivial⟩
        case measure => simp [intOf]; omega
    · have HNO := Lib.hid (show placeS ws s = -1 from placeS_none fun i hi => HB.out i hi (by have := HN.out; omega))
      go_wp2_with fail
      go_ret
      exact ⟨by rw [HNO.out]; rfl, rfl⟩

end Go.Proofs.Ytcaidgdnneomaaa
