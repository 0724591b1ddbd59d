/-
  The walk of the law CrcSeals.
-/
import Derived.Test.YtljcbnninipnhaaCrcShown
import Derived.BigQuiet
import Derived.Lib.Strings
namespace Go.Proofs.Ytljcbnninipnhaa
open Go.RowKit Go.BigFrame

set_option maxRecDepth 100000 in
set_option maxHeartbeats 1000000 in
theorem crcSeals_walk (v : Value) (l : List UInt8) (w : World) (hr : Rd w v l) :
    Calls Try.prog 4 #[v] w fun e w' => e = .returned (.bool true) ∧ Below w.heap.size w w' := by
  have HR := Lib.hid hr
  clear hr
  have hx5 : (l.take 5000).length ≤ 5000 := by rw [List.length_take]; omega
  have HF := Lib.hid (few_any v l)
  generalize l.take 5000 = x at HF hx5
  obtain ⟨E, hE⟩ : ∃ E : Int, E = if opens x = true then 0 else 6 := ⟨_, rfl⟩
  have HE := Lib.hid hE
  obtain ⟨z, hz⟩ : ∃ z, z = opened x := ⟨_, rfl⟩
  have HZ := Lib.hid hz
  obtain ⟨q, hq⟩ : ∃ q, q = sealed x := ⟨_, rfl⟩
  have HQ := Lib.hid hq
  clear hE hz hq
  go_enter Try.func4, Try.ntmps4
  go_wp2_with fail
  refine (shown_any _).mono ?_
  rintro e w1 ⟨rfl, hb1⟩
  have H1 := Lib.hid (show Ext w w1 from hb1)
  clear hb1
  go_wp2_with fail
  refine (HF.out _ (HR.out.mono H1.out)).mono ?_
  rintro e w' ⟨⟨xv, rfl, hrx⟩, rfl⟩
  have HX := Lib.hid hrx
  have hcv1 := hrx.string (P := Try.prog) 23 9 5 Try.underlying23 Try.underlying5 Try.underlying9
  clear hrx
  go_wp2_with fail
  clear hcv1
  refine (Open_any _ x _ HX.out (by omega)).mono ?_
  rintro e w2 ⟨cv, rfl, hoc, hb2⟩
  rw [← HZ.out] at hoc
  rw [← HE.out]
  have HCV := Lib.hid (show Rd w2 cv z from RdV.of_owns hoc)
  have HOC := Lib.hid (show OwnB w1.heap.size w2 cv z.length from OwnB.of_bytes hoc)
  obtain ⟨a2, cap2, rfl, hc2, hm2⟩ := HCV.out.shape
  have H2 := Lib.hid hb2
  clear hoc hb2
  go_wp2_with fail
  refine (refOpen_any _ x _ (HX.out.mono H2.out) (by omega)).mono ?_
  rintro e w3 ⟨dv, rfl, hrd, hb3⟩
  rw [← HZ.out] at hrd
  rw [← HE.out]
  have HDV := Lib.hid hrd
  have HE3 := Lib.hid hb3
  have H3 := Lib.hid (Ext.trans H2.out hb3)
  clear hrd hb3
  go_wp2_with fail
  have hcc : ∀ p : Later Ext w3.drew, (convert 23 9 (.slice a2 z.length cap2)).run Try.prog p.val = .ok (.string ⟨z.toArray⟩) p.val := fun p => (Rd.mono HCV.out (Ext.trans (Ext.trans HE3.out (Ext.drew _)) p.ext)).string _ _ _ Try.underlying23 Try.underlying5 Try.underlying9
  have hcd : ∀ p : Later Ext w3.drew, (convert 23 9 dv).run Try.prog p.val = .ok (.string ⟨z.toArray⟩) p.val := fun p => (Rd.mono HDV.out (Ext.trans (Ext.drew _) p.ext)).string _ _ _ Try.underlying23 Try.underlying5 Try.underlying9
  refine wp_region_segs Ext Ext.keeps [([0, 1, 2, 3, 4, 5, 6, 7, 8, 9, 10, 11, 14], some 12), ([13], some 15), ([16, 17, 18, 19], none)] (by kernel_rfl) (by kernel_rfl) (fun c a a' w e h => (by exact ⟨e ▸ h.1, h.2⟩)) ?_
  simp only [pickSegs, pickOps, List.map_cons, List.map_nil, Option.map_some, Option.map_none, Option.getD_some, List.getElem?_toArray, List.getElem?_cons_zero, List.getElem?_cons_succ]
  refine wpSegs_some fun K hK => ?_
  repeat go_big_quiet_step (fail)
  refine wpQuiet_nil ?_
  clear hcc hcd
  go_wp2_with fail
  refine (Seal_any _ x _ (HX.out.mono (Ext.trans H3.out (Ext.drew _))) (by omega)).mono ?_
  rintro e w4 ⟨sv, rfl, hos, hb4⟩
  rw [← HQ.out] at hos
  go_wp2_with fail
  refine ⟨hb4, hK _ _ ?_⟩
  clear hK K
  have HSV := Lib.hid (show Rd w4 sv q from RdV.of_owns hos)
  have HE4 := Lib.hid (Ext.trans HE3.out (Ext.trans (Ext.drew _) hb4))
  have H4 := Lib.hid (Ext.trans H3.out (Ext.trans (Ext.drew _) hb4))
  clear hos hb4
  have hcs : ∀ p : Later Ext w4, (convert 23 9 sv).run Try.prog p.val = .ok (.string ⟨q.toArray⟩) p.val := fun p => (Rd.mono HSV.out p.ext).string _ _ _ Try.underlying23 Try.underlying5 Try.underlying9
  refine wpSegs_some fun K hK => ?_
  repeat go_big_quiet_step (fail)
  refine wpQuiet_nil ?_
  clear hcs
  go_wp2_with fail
  refine (refSeal_any _ x _ (HX.out.mono H4.out) (by omega)).mono ?_
  rintro e w5 ⟨tv, rfl, hot, hb5⟩
  rw [← HQ.out] at hot
  go_wp2_with fail
  refine ⟨hb5, hK _ _ ?_⟩
  clear hK K
  have HTV := Lib.hid (show Rd w5 tv q from RdV.of_owns hot)
  have HE5 := Lib.hid (Ext.trans HE4.out hb5)
  have H5 := Lib.hid (Ext.trans H4.out hb5)
  clear hot hb5
  have hct : ∀ p : Later Ext w5, (convert 23 9 tv).run Try.prog p.val = .ok (.string ⟨q.toArray⟩) p.val := fun p => (Rd.mono HTV.out p.ext).string _ _ _ Try.underlying23 Try.underlying5 Try.underlying9
  refine wpSegs_none ?_
  repeat go_big_quiet_step (fail)
  refine wpQuiet_nil ?_
  refine wpSegs_nil ?_
  clear hct
  have HO5 := Lib.hid (HOC.out.later HE5.out)
  generalize z.length = N at HO5 hc2
  unfold maxLen at hm2
  go_wp2_with fail
  go_loopw [48] (fun i wr => ∃ k : Nat, k ≤ N ∧ i = .int .i64 k ∧ OwnB w1.heap.size wr (.slice a2 N cap2) N ∧ Below w1.heap.size w1 wr) (fun i _ => N - (intOf i).toNat)
  case atStart => exact ⟨0, Nat.zero_le _, rfl, HO5.out, H5.out⟩
  case round =>
    obtain ⟨k, hk, rfl, hox, hbe⟩ := hrel
    have HOX := Lib.hid hox
    have HBE := Lib.hid hbe
    by_cases hlt : k < N
    · clear hbe
      obtain ⟨g, rfl⟩ := hox.start hlt
      obtain ⟨y, hy⟩ := hox.at hlt
      have hf := hox.free k
      clear hox
      go_wp2_with fail
      go_roundw
      case rel => exact ⟨k + 1, by omega, by go_num, HOX.out.put k _, HBE.out.setCell HOX.out.lt.1 _⟩
      case measure => simp [intOf]; omega
    · have hcv := (HX.out.mono hbe).string (P := Try.prog) 23 9 5 Try.underlying23 Try.underlying5 Try.underlying9
      clear hox hbe
      go_wp2_with fail
      go_ret
      exact ⟨rfl, Ext.trans H1.out HBE.out⟩

end Go.Proofs.Ytljcbnninipnhaa
