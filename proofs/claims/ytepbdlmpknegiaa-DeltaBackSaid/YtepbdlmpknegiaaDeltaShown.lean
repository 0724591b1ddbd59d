/-
  The law's own 'shown': the document's examples; 'few'.
-/
import Derived.Test.YtepbdlmpknegiaaDeltaTake
import Derived.Test.YtepbdlmpknegiaaDeltaSays
import Derived.Test.YtepbdlmpknegiaaInts
namespace Go.Proofs.Ytepbdlmpknegiaa
open Go.ChangeAt Go.RowKit Go.BigFrame

theorem few11_any (u : Value) (l : List Int) (w : World) (hu : RdV w u (l.map (Value.int .i64))) :
    Calls Try.prog 12 #[u] w fun e w' => (∃ v, e = .returned v ∧ RdV w v ((l.take 5000).map (Value.int .i64))) ∧ w = w' := by
  have HU := Lib.hid hu
  obtain ⟨ao, cap, rfl, h1, h2, -⟩ := RdV.cellsAt hu
  rw [List.length_map] at h1 HU ⊢
  unfold maxLen at h2
  obtain ⟨K, hk1, hk2, hk3, hk4, hk5⟩ := min_firstN l.length 5000
  have HR := Lib.hid (show RdV w (.slice ao K cap) ((l.take 5000).map (Value.int .i64)) by rw [← take_minN, ← hk5, List.map_take]; exact rdV_first HU.out K hk3)
  generalize l.length = N at h1 hk1 hk2 hk3 ⊢
  simp only [Int.cast_ofNat_Int] at hk1 hk2
  have hKc : K ≤ cap := by omega
  clear hu HU hk5
  go_enter Try.func12, Try.ntmps12
  go_wp2_with fail
  go_ret
  exact ⟨⟨_, rfl, HR.out⟩, rfl⟩

theorem ex_putD : putS11 [5, 7, 6] = ([3, 10, 4, 1], 0) := by decide
theorem ex_stepD : stepS (-9223372036854775808) 1 = (0, 8) := by decide

set_option maxRecDepth 100000 in
theorem shown11_any (w : World) : Calls Try.prog 14 #[] w fun e w' => e = .returned (.bool true) ∧ Ext w w' := by
  have HI := Lib.hid (show RdV (w.alloc (.cells #[.int .i64 5, .int .i64 7, .int .i64 6] 3)) (.slice (some ⟨w.heap.size, 0, none⟩) 3 3) (([5, 7, 6] : List Int).map (Value.int .i64)) from .inr ⟨⟨w.heap.size, 0, none⟩, 3, rfl, by decide, by decide, row_new w _ _⟩)
  go_enter Try.func14, Try.ntmps14
  go_wp2_with fail
  refine (pPut11_any _ [5, 7, 6] _ HI.out (by decide) (fun x hx => by simp only [List.mem_cons, List.not_mem_nil, or_false] at hx; rcases hx with rfl | rfl | rfl <;> decide)).mono ?_
  rintro e w1 ⟨v1, rfl, ho1, hx1⟩
  rw [ex_putD] at ho1 ⊢
  have HR1 := Lib.hid (show Rd w1 v1 [3, 10, 4, 1] from RdV.of_owns ho1)
  have HX1 := Lib.hid (Ext.trans (ext_new w _) hx1)
  clear ho1 hx1
  go_wp2_with fail
  refine (pStep11_any (-9223372036854775808) 1 w1 (by decide) (by decide)).mono ?_
  rintro e w2 ⟨rfl, hx2⟩
  rw [ex_stepD]
  have HX2 := Lib.hid (Ext.trans HX1.out hx2)
  have hs1 := str_of (HR1.out.mono hx2)
  clear hx2
  go_wp2_with fail
  go_ret
  exact ⟨by simp, HX2.out⟩

end Go.Proofs.Ytepbdlmpknegiaa
