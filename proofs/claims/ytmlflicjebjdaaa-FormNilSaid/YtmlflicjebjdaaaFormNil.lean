/-
  The walk of the law FormNil.
-/
import Derived.Test.YtmlflicjebjdaaaShown
import Derived.Test.YtmlflicjebjdaaaCan
import Derived.BigQuiet
import Derived.Lib.Strings
import Derived.Lib.SmallJoins
namespace Go.Proofs.Ytmlflicjebjdaaa
open Go.RowKit Go.BigFrame

theorem nil_eq (l : List UInt8) : (l ++ enc 0 == (({ data := l.toArray } : ByteArray) ++ { data := #[0] }).toList) = true := by
  have e : enc 0 = [0] := by decide +kernel
  rw [e, beq_iff_eq]
  rw [Lib.toList_data, Joins.data_append]

set_option maxRecDepth 100000 in
set_option maxHeartbeats 1000000 in
theorem formNil_walk (v : Value) (l : List UInt8) (w : World) (hr : Rd w v l) :
    Calls Try.prog 8 #[v] w fun e w' => e = .returned (.bool true) ∧ Below w.heap.size w w' := by
  have HR := Lib.hid hr
  clear hr
  go_enter Try.func8, Try.ntmps8
  go_wp2_with fail
  refine (shown_any _).mono ?_
  rintro e w1 ⟨rfl, hb1⟩
  go_wp2_with fail
  have H1 := Lib.hid hb1
  clear hb1
  refine wp_region_segs Ext Ext.keeps [([0, 1, 2], some 3), ([4, 5, 6, 7], some 8), ([9, 10, 11, 12], some 13), ([14, 15, 16, 17], some 18), ([19, 20, 21, 22], some 23), ([24, 25, 26], some 27), ([28, 29, 30, 31, 35], some 32), ([], some 33), ([34], some 36), ([37, 38, 39, 40, 41], none)] (by kernel_rfl) (by kernel_rfl) (fun c a a' w e h => (by exact ⟨e ▸ h.1, h.2⟩)) ?_
  simp only [pickSegs, pickOps, List.map_cons, List.map_nil, Option.map_some, Option.map_none, Option.getD_some, List.getElem?_toArray, List.getElem?_cons_zero, List.getElem?_cons_succ]
  refine wpSegs_some fun K hK => ?_
  repeat go_big_quiet_step (fail)
  refine wpQuiet_nil ?_
  go_wp2_with fail
  refine (RNum_nil _).mono ?_
  rintro e w' ⟨rfl, rfl⟩
  go_wp2_with fail
  refine ⟨Ext.keeps.refl _, hK _ _ ?_⟩
  clear hK K
  refine wpSegs_some fun K hK => ?_
  repeat go_big_quiet_step (fail)
  refine wpQuiet_nil ?_
  go_wp2_with fail
  refine (RInt_nil _).mono ?_
  rintro e w' ⟨rfl, rfl⟩
  go_wp2_with fail
  refine ⟨Ext.keeps.refl _, hK _ _ ?_⟩
  clear hK K
  refine wpSegs_some fun K hK => ?_
  repeat go_big_quiet_step (fail)
  refine wpQuiet_nil ?_
  go_wp2_with fail
  refine (RText_nil _).mono ?_
  rintro e w' ⟨rfl, rfl⟩
  go_wp2_with fail
  refine ⟨Ext.keeps.refl _, hK _ _ ?_⟩
  clear hK K
  refine wpSegs_some fun K hK => ?_
  repeat go_big_quiet_step (fail)
  refine wpQuiet_nil ?_
  go_wp2_with fail
  refine (Left_nil _).mono ?_
  rintro e w' ⟨rfl, rfl⟩
  go_wp2_with fail
  refine ⟨Ext.keeps.refl _, hK _ _ ?_⟩
  clear hK K
  refine wpSegs_some fun K hK => ?_
  repeat go_big_quiet_step (fail)
  refine wpQuiet_nil ?_
  go_wp2_with fail
  refine (Bad_nil _).mono ?_
  rintro e w' ⟨rfl, rfl⟩
  go_wp2_with fail
  refine ⟨Ext.keeps.refl _, hK _ _ ?_⟩
  clear hK K
  refine wpSegs_some fun K hK => ?_
  repeat go_big_quiet_step (fail)
  refine wpQuiet_nil ?_
  go_wp2_with fail
  refine (End_nil _).mono ?_
  rintro e w' ⟨rfl, rfl⟩
  go_wp2_with fail
  refine ⟨Ext.keeps.refl _, hK _ _ ?_⟩
  clear hK K
  refine wpSegs_some fun K hK => ?_
  repeat go_big_quiet_step (fail)
  refine wpQuiet_nil ?_
  go_wp2_with fail
  refine (few_any v l _ (HR.out.mono (Ext.trans H1.out (Ext.drew _)))).mono ?_
  rintro e w' ⟨⟨v3, rfl, hc3, hr3⟩, rfl⟩
  go_wp2_with fail
  refine ⟨Ext.keeps.refl _, hK _ _ ?_⟩
  clear hK K
  have HR3 := Lib.hid hr3
  clear hr3 hc3
  refine wpSegs_some fun K hK => ?_
  repeat go_big_quiet_step (fail)
  refine wpQuiet_nil ?_
  go_wp2_with fail
  refine (Text_any v3 (l.take 3000) ⟨#[]⟩ _ HR3.out (by rw [List.length_take]; show _ + 9 + 0 ≤ _; omega)).mono ?_
  rintro e w4 ⟨v4, rfl, hown4, hb4⟩
  go_wp2_with fail
  refine ⟨hb4, hK _ _ ?_⟩
  clear hK K
  have hr4 : Rd w4 v4 (l.take 3000 ++ enc 0 ++ []) := RdV.of_owns hown4
  rw [List.append_nil] at hr4
  have hc4 : ∀ p : Later Ext w4, (convert 22 9 v4).run Try.prog p.val = .ok (.string ⟨(l.take 3000 ++ enc 0).toArray⟩) p.val := fun p => (hr4.mono p.ext).string _ _ _ Try.underlying22 Try.underlying5 Try.underlying9
  have H4 := Lib.hid (Ext.trans (Ext.trans H1.out (Ext.drew _)) hb4)
  clear hb4 hown4 hr4
  refine wpSegs_some fun K hK => ?_
  repeat go_big_quiet_step (fail)
  refine wpQuiet_nil ?_
  go_wp2_with fail
  refine (few_any v l _ (HR.out.mono H4.out)).mono ?_
  rintro e w' ⟨⟨v5, rfl, hc5, hr5⟩, rfl⟩
  go_wp2_with fail
  refine ⟨Ext.keeps.refl _, hK _ _ ?_⟩
  clear hK K
  have hc5' : ∀ p : Later Ext w4, (convert 22 9 v5).run Try.prog p.val = .ok (.string ⟨(l.take 3000).toArray⟩) p.val := fun p => (hr5.mono p.ext).string _ _ _ Try.underlying22 Try.underlying5 Try.underlying9
  clear hc4 hc5 hr5
  refine wpSegs_none ?_
  repeat go_big_quiet_step (fail)
  refine wpQuiet_nil ?_
  refine wpSegs_nil ?_
  have heq : (l.take 3000 ++ enc 0 == (({ data := (l.take 3000).toArray } : ByteArray) ++ { data := #[0] }).toList) = true := nil_eq (l.take 3000)
  rw [heq]
  go_wp2
  go_ret
  exact ⟨rfl, H4.out⟩

end Go.Proofs.Ytmlflicjebjdaaa
