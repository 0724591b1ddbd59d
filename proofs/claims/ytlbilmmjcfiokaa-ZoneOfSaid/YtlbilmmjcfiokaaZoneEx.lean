/-
  The laws' own 'shown' of layer 13: the document's examples.
-/
import Derived.Test.YtlbilmmjcfiokaaZoneShown
import Derived.Test.YtlbilmmjcfiokaaZoneP4
import Derived.Test.YtlbilmmjcfiokaaCellRefE
namespace Go.Proofs.Ytlbilmmjcfiokaa
open Go.ChangeAt Go.RowKit Go.BigFrame

theorem ex_of13 : ofZ [(⟨2, 5, []⟩ : V), ⟨0, 0, []⟩, ⟨2, 3, []⟩] = (⟨⟨2, 3, []⟩, ⟨2, 5, []⟩, 1, 3⟩ : Zo) := by decide +kernel
theorem ex_eq13 : equalZ (⟨⟨2, 3, []⟩, ⟨2, 5, []⟩, 1, 3⟩ : Zo) ⟨2, 4, []⟩ = (true, true, true) := by decide
theorem ex_eq13b : equalZ (⟨⟨2, 3, []⟩, ⟨2, 5, []⟩, 1, 3⟩ : Zo) ⟨2, 6, []⟩ = (true, true, false) := by decide
theorem ex_fits13 : ((⟨⟨2, 3, []⟩, ⟨2, 5, []⟩, 1, 3⟩ : Zo)).fits := ⟨⟨by decide, by decide, by decide, by decide⟩, ⟨by decide, by decide, by decide, by decide⟩, by decide, by decide, by decide, by decide⟩

set_option maxRecDepth 100000 in
set_option maxHeartbeats 2000000 in
theorem shown13_any (w : World) : Calls Try.prog 9 #[] w fun e w' => e = .returned (.bool true) ∧ Ext w w' := by
  have HF := Lib.hid (show ∀ v ∈ [(⟨2, 5, []⟩ : V), ⟨0, 0, []⟩, ⟨2, 3, []⟩], v.fits ∧ v.s.length ≤ 5000 from by
    intro v hv
    simp only [List.mem_cons, List.not_mem_nil, or_false] at hv
    rcases hv with rfl | rfl | rfl <;> exact ⟨⟨by decide, by decide, by decide, by decide⟩, by decide⟩)
  have HE4 := Lib.hid (show ∀ W, Calls Try.prog 22 #[(.agg #[.int .u8 2, .int .i64 3, .string ⟨#[]⟩, .int .u8 2, .int .i64 5, .string ⟨#[]⟩, .int .i64 1, .int .i64 3]), .agg #[.int .u8 2, .int .i64 4, .string ⟨#[]⟩]] W fun e w' => e = .returned (.agg #[.bool true, .bool true, .bool true]) ∧ Ext W w' from fun W => by
    have h := pEqualZ_any (⟨⟨2, 3, []⟩, ⟨2, 5, []⟩, 1, 3⟩ : Zo) ⟨2, 4, []⟩ W ex_fits13 ⟨by decide, by decide, by decide, by decide⟩ ⟨by decide, by decide⟩ (by decide)
    rw [ex_eq13] at h
    exact h)
  have HE6 := Lib.hid (show ∀ W, Calls Try.prog 22 #[(.agg #[.int .u8 2, .int .i64 3, .string ⟨#[]⟩, .int .u8 2, .int .i64 5, .string ⟨#[]⟩, .int .i64 1, .int .i64 3]), .agg #[.int .u8 2, .int .i64 6, .string ⟨#[]⟩]] W fun e w' => e = .returned (.agg #[.bool true, .bool true, .bool false]) ∧ Ext W w' from fun W => by
    have h := pEqualZ_any (⟨⟨2, 3, []⟩, ⟨2, 5, []⟩, 1, 3⟩ : Zo) ⟨2, 6, []⟩ W ex_fits13 ⟨by decide, by decide, by decide, by decide⟩ ⟨by decide, by decide⟩ (by decide)
    rw [ex_eq13b] at h
    exact h)
  have HQZ := Lib.hid (show ∀ W, (binOp .eql 26 (.agg #[.int .u8 2, .int .i64 3, .string ⟨#[]⟩, .int .u8 2, .int .i64 5, .string ⟨#[]⟩, .int .i64 1, .int .i64 3]) (.agg #[.int .u8 2, .int .i64 3, .string ⟨#[]⟩, .int .u8 2, .int .i64 5, .string ⟨#[]⟩, .int .i64 1, .int .i64 3])).run Try.prog W = .ok (.bool true) W from fun W => eq_zone_self (⟨⟨2, 3, []⟩, ⟨2, 5, []⟩, 1, 3⟩ : Zo) W)
  have HQ1 := Lib.hid (show ∀ W, (Op.equalIn 10000 40 (.agg #[.bool true, .bool true, .bool true]) (.agg #[.bool true, .bool true, .bool true])).run Try.prog W = .ok true W from fun W => eq_trip _ _ _ _ _ _ W)
  have HQ2 := Lib.hid (show ∀ W, (Op.equalIn 10000 40 (.agg #[.bool true, .bool true, .bool false]) (.agg #[.bool true, .bool true, .bool false])).run Try.prog W = .ok true W from fun W => eq_trip _ _ _ _ _ _ W)
  have HG := Lib.hid (show Try.prog.eqGuardType Try.prog.depth 40 = false by kernel_rfl)
  go_enter Try.func9, Try.ntmps9
  go_wp2_with fail
  refine (num13_any 5 w).mono ?_
  rintro e wa ⟨rfl, hxa⟩
  have HXA := Lib.hid hxa
  clear hxa
  go_wp2_with fail
  refine (num13_any 3 wa).mono ?_
  rintro e wb ⟨rfl, hxb⟩
  have HXB := Lib.hid (Ext.trans HXA.out hxb)
  clear hxb
  go_wp2_with fail
  have HN := Lib.hid (ext_new wb (.cells ([(⟨2, 5, []⟩ : V), ⟨0, 0, []⟩, ⟨2, 3, []⟩].flatMap V.cells).toArray 24))
  refine (pOfZ_any _ [(⟨2, 5, []⟩ : V), ⟨0, 0, []⟩, ⟨2, 3, []⟩] _ (rdVals_new (Blk.new wb ([(⟨2, 5, []⟩ : V), ⟨0, 0, []⟩, ⟨2, 3, []⟩].flatMap V.cells) 24) (by decide)) HF.out).mono ?_
  rintro e w1 ⟨rfl, hx1⟩
  rw [ex_of13]
  have HX1 := Lib.hid (Ext.trans HXB.out (Ext.trans HN.out hx1))
  clear hx1
  unfold Zo.val
  simp only
  have HB := Lib.hid (show Blk (w1.alloc (.cells #[.int .u8 2, .int .i64 3, .string ⟨#[]⟩, .int .u8 2, .int .i64 5, .string ⟨#[]⟩, .int .i64 1, .int .i64 3] 26)) w1.heap.size [.int .u8 2, .int .i64 3, .string ⟨#[]⟩, .int .u8 2, .int .i64 5, .string ⟨#[]⟩, .int .i64 1, .int .i64 3] 26 from Blk.new w1 [.int .u8 2, .int .i64 3, .string ⟨#[]⟩, .int .u8 2, .int .i64 5, .string ⟨#[]⟩, .int .i64 1, .int .i64 3] 26)
  have HX2 := Lib.hid (Ext.trans HX1.out (ext_new w1 (.cells #[.int .u8 2, .int .i64 3, .string ⟨#[]⟩, .int .u8 2, .int .i64 5, .string ⟨#[]⟩, .int .i64 1, .int .i64 3] 26)))
  go_upto_region 2 with fail
  generalize w1.alloc (.cells #[.int .u8 2, .int .i64 3, .string ⟨#[]⟩, .int .u8 2, .int .i64 5, .string ⟨#[]⟩, .int .i64 1, .int .i64 3] 26) = W at HB HX2 ⊢
  have p0 := later_cell (w := W) (b := w1.heap.size) (fun j u hj => HB.out.cell j u hj) 0 (.int .u8 2) rfl
  have p1 := later_cell (w := W) (b := w1.heap.size) (fun j u hj => HB.out.cell j u hj) 1 (.int .i64 3) rfl
  have p2 := later_cell (w := W) (b := w1.heap.size) (fun j u hj => HB.out.cell j u hj) 2 (.string ⟨#[]⟩) rfl
  have p3 := later_cell (w := W) (b := w1.heap.size) (fun j u hj => HB.out.cell j u hj) 3 (.int .u8 2) rfl
  have p4 := later_cell (w := W) (b := w1.heap.size) (fun j u hj => HB.out.cell j u hj) 4 (.int .i64 5) rfl
  have p5 := later_cell (w := W) (b := w1.heap.size) (fun j u hj => HB.out.cell j u hj) 5 (.string ⟨#[]⟩) rfl
  have p6 := later_cell (w := W) (b := w1.heap.size) (fun j u hj => HB.out.cell j u hj) 6 (.int .i64 1) rfl
  have p7 := later_cell (w := W) (b := w1.heap.size) (fun j u hj => HB.out.cell j u hj) 7 (.int .i64 3) rfl
  refine wp_region_segs Ext Ext.keeps [([0], some 1), ([], some 2), ([3, 4, 5, 6, 9], some 7), ([], some 8), ([10, 11, 12, 13, 16], some 14), ([], some 15), ([17, 18, 19], none)] (by kernel_rfl) (by kernel_rfl) (fun c a a' w e h => (by exact ⟨e ▸ h.1, h.2⟩)) ?_
  simp only [pickSegs, pickOps, List.map_cons, List.map_nil, Option.map_some, Option.map_none, Option.getD_some, List.getElem?_toArray, List.getElem?_cons_zero, List.getElem?_cons_succ]
  refine wpSegs_some fun K hK => ?_
  repeat go_big_quiet_step (fail)
  refine wpQuiet_nil ?_
  clear p0 p1 p2 p3 p4 p5 p6 p7
  go_wp2_with fail
  refine (num13_any 3 _).mono ?_
  rintro e W3 ⟨rfl, hx⟩
  have HH3 := Lib.hid hx
  have HB3 := Lib.hid ((HB.out.ext (Ext.drew W)).ext hx)
  have HX3 := Lib.hid (Ext.trans (Ext.trans HX2.out (Ext.drew W)) hx)
  clear hx
  go_wp2_with fail
  refine ⟨HH3.out, hK _ _ ?_⟩
  clear hK K
  refine wpSegs_some fun K hK => ?_
  refine wpQuiet_nil ?_
  go_wp2_with fail
  refine (num13_any 5 _).mono ?_
  rintro e W4 ⟨rfl, hx⟩
  have HH4 := Lib.hid hx
  have HB4 := Lib.hid (HB3.out.ext hx)
  have HX4 := Lib.hid (Ext.trans HX3.out hx)
  clear hx
  go_wp2_with fail
  refine ⟨HH4.out, hK _ _ ?_⟩
  clear hK K
  have hqz := HQZ.out
  have p0 := now_cell (w := W4) (b := w1.heap.size) (fun j u hj => HB4.out.cell j u hj) 0 (.int .u8 2) rfl
  have p1 := now_cell (w := W4) (b := w1.heap.size) (fun j u hj => HB4.out.cell j u hj) 1 (.int .i64 3) rfl
  have p2 := now_cell (w := W4) (b := w1.heap.size) (fun j u hj => HB4.out.cell j u hj) 2 (.string ⟨#[]⟩) rfl
  have p3 := now_cell (w := W4) (b := w1.heap.size) (fun j u hj => HB4.out.cell j u hj) 3 (.int .u8 2) rfl
  have p4 := now_cell (w := W4) (b := w1.heap.size) (fun j u hj => HB4.out.cell j u hj) 4 (.int .i64 5) rfl
  have p5 := now_cell (w := W4) (b := w1.heap.size) (fun j u hj => HB4.out.cell j u hj) 5 (.string ⟨#[]⟩) rfl
  have p6 := now_cell (w := W4) (b := w1.heap.size) (fun j u hj => HB4.out.cell j u hj) 6 (.int .i64 1) rfl
  have p7 := now_cell (w := W4) (b := w1.heap.size) (fun j u hj => HB4.out.cell j u hj) 7 (.int .i64 3) rfl
  refine wpSegs_some fun K hK => ?_
  repeat go_big_quiet_step (fail)
  refine wpQuiet_nil ?_
  clear p0 p1 p2 p3 p4 p5 p6 p7
  clear hqz
  go_wp2_with fail
  refine (num13_any 4 _).mono ?_
  rintro e W5 ⟨rfl, hx⟩
  have HH5 := Lib.hid hx
  have HB5 := Lib.hid (HB4.out.ext hx)
  have HX5 := Lib.hid (Ext.trans HX4.out hx)
  clear hx
  go_wp2_with fail
  refine ⟨HH5.out, hK _ _ ?_⟩
  clear hK K
  refine wpSegs_some fun K hK => ?_
  refine wpQuiet_nil ?_
  go_wp2_with fail
  refine (HE4.out _).mono ?_
  rintro e W6 ⟨rfl, hx⟩
  have HH6 := Lib.hid hx
  have HB6 := Lib.hid (HB5.out.ext hx)
  have HX6 := Lib.hid (Ext.trans HX5.out hx)
  clear hx
  go_wp2_with fail
  refine ⟨HH6.out, hK _ _ ?_⟩
  clear hK K
  have hq1 := HQ1.out
  have hg := HG.out
  have p0 := now_cell (w := W6) (b := w1.heap.size) (fun j u hj => HB6.out.cell j u hj) 0 (.int .u8 2) rfl
  have p1 := now_cell (w := W6) (b := w1.heap.size) (fun j u hj => HB6.out.cell j u hj) 1 (.int .i64 3) rfl
  have p2 := now_cell (w := W6) (b := w1.heap.size) (fun j u hj => HB6.out.cell j u hj) 2 (.string ⟨#[]⟩) rfl
  have p3 := now_cell (w := W6) (b := w1.heap.size) (fun j u hj => HB6.out.cell j u hj) 3 (.int .u8 2) rfl
  have p4 := now_cell (w := W6) (b := w1.heap.size) (fun j u hj => HB6.out.cell j u hj) 4 (.int .i64 5) rfl
  have p5 := now_cell (w := W6) (b := w1.heap.size) (fun j u hj => HB6.out.cell j u hj) 5 (.string ⟨#[]⟩) rfl
  have p6 := now_cell (w := W6) (b := w1.heap.size) (fun j u hj => HB6.out.cell j u hj) 6 (.int .i64 1) rfl
  have p7 := now_cell (w := W6) (b := w1.heap.size) (fun j u hj => HB6.out.cell j u hj) 7 (.int .i64 3) rfl
  refine wpSegs_some fun K hK => ?_
  repeat go_big_quiet_step (fail)
  refine wpQuiet_nil ?_
  clear p0 p1 p2 p3 p4 p5 p6 p7
  clear hq1 hg
  go_wp2_with fail
  refine (num13_any 6 _).mono ?_
  rintro e W7 ⟨rfl, hx⟩
  have HH7 := Lib.hid hx
  have HB7 := Lib.hid (HB6.out.ext hx)
  have HX7 := Lib.hid (Ext.trans HX6.out hx)
  clear hx
  go_wp2_with fail
  refine ⟨HH7.out, hK _ _ ?_⟩
  clear hK K
  refine wpSegs_some fun K hK => ?_
  refine wpQuiet_nil ?_
  go_wp2_with fail
  refine (HE6.out _).mono ?_
  rintro e W8 ⟨rfl, hx⟩
  have HH8 := Lib.hid hx
  have HB8 := Lib.hid (HB7.out.ext hx)
  have HX8 := Lib.hid (Ext.trans HX7.out hx)
  clear hx
  go_wp2_with fail
  refine ⟨HH8.out, hK _ _ ?_⟩
  clear hK K
  have hq2 := HQ2.out
  have hg := HG.out
  refine wpSegs_none ?_
  repeat go_big_quiet_step (fail)
  refine wpQuiet_nil (wpSegs_nil ?_)
  clear hq2 hg
  go_wp2_with fail
  go_ret
  exact ⟨rfl, HX8.out⟩

end Go.Proofs.Ytlbilmmjcfiokaa
