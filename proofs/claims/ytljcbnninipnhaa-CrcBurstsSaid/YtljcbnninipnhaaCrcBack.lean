/-
  The walk of the law CrcBack.
-/
import Derived.Test.YtljcbnninipnhaaCrcShown
import Derived.BigQuiet
import Derived.Lib.Strings
namespace Go.Proofs.Ytljcbnninipnhaa
open Go.RowKit Go.BigFrame

theorem sealed_length (l : List UInt8) : (sealed l).length = l.length + 4 := by unfold sealed; rw [List.length_append]; rfl
theorem opens_sealed (l : List UInt8) : opens (sealed l) = true := by
  unfold opens
  rw [decide_eq_true (by rw [sealed_length]; omega), decide_eq_true (sealed_zero l)]
  rfl
theorem opened_sealed (l : List UInt8) : opened (sealed l) = l := by
  unfold opened
  rw [if_pos (opens_sealed l), sealed_length, Nat.add_sub_cancel]
  unfold sealed
  exact List.take_left
theorem sealed_opened (l : List UInt8) (h : opens l = true) : sealed (opened l) = l := by
  unfold opened
  rw [if_pos h]
  unfold opens at h
  simp only [Bool.and_eq_true, decide_eq_true_eq] at h
  exact (opens_zero l h.1).2 h.2

set_option maxRecDepth 100000 in
set_option maxHeartbeats 1000000 in
theorem crcBack_walk (v : Value) (l : List UInt8) (u : Value) (m : List UInt8) (w : World) (hr : Rd w v l) (hu : Rd w u m) :
    Calls Try.prog 6 #[v, u] w fun e w' => e = .returned (.bool true) ∧ Below w.heap.size w w' := by
  have HR := Lib.hid hr
  have HU := Lib.hid hu
  clear hr hu
  have hx5 : (l.take 5000).length ≤ 5000 := by rw [List.length_take]; omega
  have hy5 : (m.take 5000).length ≤ 5000 := by rw [List.length_take]; omega
  have HF := Lib.hid (few_any v l)
  have HG := Lib.hid (few_any u m)
  generalize l.take 5000 = x at HF hx5
  generalize m.take 5000 = y at HG hy5
  have HOS := Lib.hid (opens_sealed x)
  have HDS := Lib.hid (opened_sealed x)
  go_enter Try.func6, Try.ntmps6
  go_wp2_with fail
  refine (shown_any _).mono ?_
  rintro e w1 ⟨rfl, hb1⟩
  have H1 := Lib.hid (show Ext w w1 from hb1)
  clear hb1
  go_wp2_with fail
  refine (HF.out _ (HR.out.mono H1.out)).mono ?_
  rintro e w' ⟨⟨xv, rfl, hrx⟩, rfl⟩
  have HX := Lib.hid hrx
  clear hrx
  go_wp2_with fail
  refine (HG.out _ (HU.out.mono H1.out)).mono ?_
  rintro e w' ⟨⟨yv, rfl, hry⟩, rfl⟩
  have HY := Lib.hid hry
  clear hry
  go_wp2_with fail
  refine (Seal_any _ x _ HX.out (by omega)).mono ?_
  rintro e w2 ⟨sv, rfl, hos, hb2⟩
  have HSV := Lib.hid (show Rd w2 sv (sealed x) from RdV.of_owns hos)
  have H2 := Lib.hid (show Ext w1 w2 from hb2)
  clear hos hb2
  go_wp2_with fail
  refine (Open_any _ (sealed x) _ HSV.out (by rw [sealed_length]; omega)).mono ?_
  rintro e w3 ⟨cv, rfl, hoc, hb3⟩
  rw [HDS.out] at hoc
  rw [HOS.out]
  have HCV := Lib.hid (show Rd w3 cv x from RdV.of_owns hoc)
  have H3 := Lib.hid (Ext.trans H2.out hb3)
  clear hoc hb3
  go_wp2_with fail
  refine (Open_any _ y _ (HY.out.mono H3.out) (by omega)).mono ?_
  rintro e w4 ⟨dv, rfl, hod, hb4⟩
  have HDV := Lib.hid (show Rd w4 dv (opened y) from RdV.of_owns hod)
  have HE4 := Lib.hid hb4
  have H4 := Lib.hid (Ext.trans H3.out hb4)
  clear hod hb4
  cases hoy : opens y with
  | true =>
    have HSO := Lib.hid (sealed_opened y hoy)
    have hol : (opened y).length ≤ 5000 := by have := congrArg List.length HSO.out; rw [sealed_length] at this; omega
    clear hoy
    go_wp2_with fail
    have hcx : ∀ z : Later Ext w4.drew, (convert 23 9 xv).run Try.prog z.val = .ok (.string ⟨x.toArray⟩) z.val := fun z => (Rd.mono HX.out (Ext.trans (Ext.trans H4.out (Ext.drew _)) z.ext)).string _ _ _ Try.underlying23 Try.underlying5 Try.underlying9
    have hcc : ∀ z : Later Ext w4.drew, (convert 23 9 cv).run Try.prog z.val = .ok (.string ⟨x.toArray⟩) z.val := fun z => (Rd.mono HCV.out (Ext.trans (Ext.trans HE4.out (Ext.drew _)) z.ext)).string _ _ _ Try.underlying23 Try.underlying5 Try.underlying9
    have hcy : ∀ z : Later Ext w4.drew, (convert 23 9 yv).run Try.prog z.val = .ok (.string ⟨y.toArray⟩) z.val := fun z => (Rd.mono HY.out (Ext.trans (Ext.trans H4.out (Ext.drew _)) z.ext)).string _ _ _ Try.underlying23 Try.underlying5 Try.underlying9
    refine wp_region_segs Ext Ext.keeps [([0, 1, 2, 3, 4, 5, 6, 7, 8, 9, 10, 11, 12, 13, 14, 15, 16, 19, 20], some 17), ([18, 21, 22, 23, 24, 25, 26, 27, 28, 29, 30, 31, 32, 33], none)] (by kernel_rfl) (by kernel_rfl) (fun c a a' w e h => (by exact ⟨e ▸ h.1, h.2⟩)) ?_
    simp only [pickSegs, pickOps, List.map_cons, List.map_nil, Option.map_some, Option.map_none, Option.getD_some, List.getElem?_toArray, List.getElem?_cons_zero, List.getElem?_cons_succ]
    refine wpSegs_some fun K hK => ?_
    repeat go_big_quiet_step (fail)
    refine wpQuiet_nil ?_
    clear hcx hcc hcy
    go_wp2_with fail
    refine (Seal_any _ (opened y) _ (HDV.out.mono (Ext.drew _)) (by omega)).mono ?_
    rintro e w5 ⟨tv, rfl, hot, hb5⟩
    go_wp2_with fail
    refine ⟨hb5, hK _ _ ?_⟩
    clear hK K
    have HTV := Lib.hid (show Rd w5 tv y by have := RdV.of_owns hot; rwa [HSO.out] at this)
    have H5 := Lib.hid (Ext.trans (Ext.drew _) hb5)
    have hct : ∀ z : Later Ext w5, (convert 23 9 tv).run Try.prog z.val = .ok (.string ⟨y.toArray⟩) z.val := fun z => (Rd.mono HTV.out z.ext).string _ _ _ Try.underlying23 Try.underlying5 Try.underlying9
    clear hot hb5
    refine wpSegs_none ?_
    repeat go_big_quiet_step (fail)
    refine wpQuiet_nil ?_
    refine wpSegs_nil ?_
    clear hct
    go_wp2_with fail
    go_ret
    exact ⟨rfl, Ext.trans H1.out (Ext.trans H4.out H5.out)⟩
  | false =>
    have HDV2 := Lib.hid (show Rd w4 dv [] by have := HDV.out; unfold opened at this; rw [hoy] at this; exact this)
    obtain ⟨a, cap, rfl, _, _⟩ := HDV2.out.shape
    clear hoy
    go_wp2_with fail
    have hcx : ∀ z : Later Ext w4.drew, (convert 23 9 xv).run Try.prog z.val = .ok (.string ⟨x.toArray⟩) z.val := fun z => (Rd.mono HX.out (Ext.trans (Ext.trans H4.out (Ext.drew _)) z.ext)).string _ _ _ Try.underlying23 Try.underlying5 Try.underlying9
    have hcc : ∀ z : Later Ext w4.drew, (convert 23 9 cv).run Try.prog z.val = .ok (.string ⟨x.toArray⟩) z.val := fun z => (Rd.mono HCV.out (Ext.trans (Ext.trans HE4.out (Ext.drew _)) z.ext)).string _ _ _ Try.underlying23 Try.underlying5 Try.underlying9
    refine wp_region_segs Ext Ext.keeps [([0, 1, 2, 3, 4, 5, 6, 7, 8, 9, 10, 11, 12, 13, 14, 15, 16, 19, 20], some 17), ([18, 21, 22, 23, 24, 25, 26, 27, 28, 29, 30, 31, 32, 33], none)] (by kernel_rfl) (by kernel_rfl) (fun c a a' w e h => (by exact ⟨e ▸ h.1, h.2⟩)) ?_
    simp only [pickSegs, pickOps, List.map_cons, List.map_nil, Option.map_some, Option.map_none, Option.getD_some, List.getElem?_toArray, List.getElem?_cons_zero, List.getElem?_cons_succ]
    refine wpSegs_some fun K hK => ?_
    repeat go_big_quiet_step (fail)
    refine wpQuiet_nil ?_
    clear hcx hcc
    go_wp2_with fail
    refine ⟨Below.refl _ _, hK _ _ ?_⟩
    clear hK K
    refine wpSegs_none ?_
    repeat go_big_quiet_step (fail)
    refine wpQuiet_nil ?_
    refine wpSegs_nil ?_
    go_wp2_with fail
    go_ret
    exact ⟨rfl, Ext.trans H1.out (Ext.trans H4.out (Ext.drew _))⟩

end Go.Proofs.Ytljcbnninipnhaa
