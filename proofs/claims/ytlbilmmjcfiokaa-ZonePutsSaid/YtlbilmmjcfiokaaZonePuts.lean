/-
  The walk of the law ZonePuts.
-/
import Derived.Test.YtlbilmmjcfiokaaZoneEx
import Derived.Test.YtlbilmmjcfiokaaZoneP6
namespace Go.Proofs.Ytlbilmmjcfiokaa
open Go.RowKit Go.BigFrame

set_option maxRecDepth 100000 in
set_option maxHeartbeats 8000000 in
theorem zonePuts_walk (k : Int) (p : Zo) (u : Value) (b : List UInt8) (w : World) (hk : 0 ≤ k ∧ k ≤ 255) (hp : p.fits) (hps : p.small maxLen) (hu : Rd w u b) :
    Calls Try.prog 4 #[.int .u8 k, p.val, u] w fun e w' => e = .returned (.bool true) ∧ Below w.heap.size w w' := by
  have HU := Lib.hid hu
  obtain ⟨co, ccap, rfl, h3, h4⟩ := hu.shape
  unfold maxLen at h4
  obtain ⟨J, hj1, hj2, hj3, hj4, -⟩ := min_firstN b.length 4000
  have HB := Lib.hid (show Rd w (.slice co J ccap) (b.take J) by have := rdV_first HU.out J hj3; rwa [← List.map_take] at this)
  have HBN := Lib.hid (show (b.take J).length ≤ 1000000 by rw [List.length_take]; omega)
  generalize b.take J = bs at HB HBN
  generalize b.length = N3 at h3 hj1 hj2 hj3 ⊢
  have hJc : J ≤ ccap := by omega
  simp only [Int.cast_ofNat_Int] at hj1 hj2
  have HSP := Lib.hid (fun W => short13_any p W hps)
  have hsm : ∀ h1 : p.small 1100, p.small 5000 := fun h1 => ⟨Nat.le_trans h1.1 (by decide), Nat.le_trans h1.2 (by decide)⟩
  have HT := Lib.hid (fun v W (h : Rd W v bs) => pTakeZ_any k v bs W hk h HBN.out)
  have HTR := Lib.hid (fun v W (h : Rd W v bs) => refTakeZ_any k v bs W hk h HBN.out)
  have HR := Lib.hid (fun W (h1 : p.small 1100) => pRightZ_any k p W hk hp (hsm h1))
  have HRR := Lib.hid (fun W => refRightZ_any k p W hk hp hps)
  have HP := Lib.hid (fun W (h1 : p.small 1100) => pPutZ_any p W hp (hsm h1))
  have HPR := Lib.hid (fun W (h1 : p.small 1100) => refPutZ_any p W hp (hsm h1))
  generalize hdp : decide (p.small 1100) = dp at HSP
  have HDP := Lib.hid hdp
  generalize takenZ k bs = x at HT HTR
  generalize decide (rightZ k p) = rr at HR HRR
  generalize putZ p = l at HP HPR
  obtain ⟨⟨⟨yak, yan, yas⟩, ⟨ybk, ybn, ybs⟩, yn, ym⟩, E⟩ := x
  obtain ⟨⟨pak, pan, pas⟩, ⟨pbk, pbn, pbs⟩, pn, pm⟩ := p
  unfold Zo.val at HT HTR HR HRR HP HPR HSP
  unfold Zo.val
  simp only at HT HTR HR HRR HP HPR HSP ⊢
  have HBP := Lib.hid (Blk.new w [.int .u8 pak, .int .i64 pan, .string ⟨pas.toArray⟩, .int .u8 pbk, .int .i64 pbn, .string ⟨pbs.toArray⟩, .int .i64 pn, .int .i64 pm] 26)
  have HX0 := Lib.hid (ext_new w (.cells #[.int .u8 pak, .int .i64 pan, .string ⟨pas.toArray⟩, .int .u8 pbk, .int .i64 pbn, .string ⟨pbs.toArray⟩, .int .i64 pn, .int .i64 pm] 26))
  have HQY := Lib.hid (show ∀ W, (binOp .eql 26 (.agg #[.int .u8 yak, .int .i64 yan, .string ⟨yas.toArray⟩, .int .u8 ybk, .int .i64 ybn, .string ⟨ybs.toArray⟩, .int .i64 yn, .int .i64 ym]) (.agg #[.int .u8 yak, .int .i64 yan, .string ⟨yas.toArray⟩, .int .u8 ybk, .int .i64 ybn, .string ⟨ybs.toArray⟩, .int .i64 yn, .int .i64 ym])).run Try.prog W = .ok (.bool true) W from fun W => eq_zone_self ⟨⟨yak, yan, yas⟩, ⟨ybk, ybn, ybs⟩, yn, ym⟩ W)
  have HQE := Lib.hid (show (E == E) = true from beq_self_eq_true _)
  have HQR := Lib.hid (show (rr == rr) = true from beq_self_eq_true _)
  clear hk hp hps hdp hsm hu HU
  go_enter Try.func4, Try.ntmps4
  go_wp2_with fail
  refine (shown13_any _).mono ?_
  rintro e w1 ⟨rfl, hx⟩
  have HX1 := Lib.hid (Ext.trans HX0.out hx)
  have HBP1 := Lib.hid (HBP.out.ext hx)
  clear hx
  have p0 : w1.cell? ⟨w.heap.size, 0, none⟩ = some (.int .u8 pak) := HBP1.out.cell 0 _ rfl
  have p1 : w1.cell? ⟨w.heap.size, 1, none⟩ = some (.int .i64 pan) := HBP1.out.cell 1 _ rfl
  have p2 : w1.cell? ⟨w.heap.size, 2, none⟩ = some (.string ⟨pas.toArray⟩) := HBP1.out.cell 2 _ rfl
  have p3 : w1.cell? ⟨w.heap.size, 3, none⟩ = some (.int .u8 pbk) := HBP1.out.cell 3 _ rfl
  have p4 : w1.cell? ⟨w.heap.size, 4, none⟩ = some (.int .i64 pbn) := HBP1.out.cell 4 _ rfl
  have p5 : w1.cell? ⟨w.heap.size, 5, none⟩ = some (.string ⟨pbs.toArray⟩) := HBP1.out.cell 5 _ rfl
  have p6 : w1.cell? ⟨w.heap.size, 6, none⟩ = some (.int .i64 pn) := HBP1.out.cell 6 _ rfl
  have p7 : w1.cell? ⟨w.heap.size, 7, none⟩ = some (.int .i64 pm) := HBP1.out.cell 7 _ rfl
  go_wp2_with fail
  refine (HSP.out _).mono ?_
  rintro e w2 ⟨rfl, hx⟩
  have HX2 := Lib.hid (Ext.trans HX1.out hx)
  have HBP2 := Lib.hid (HBP1.out.ext hx)
  clear hx p0 p1 p2 p3 p4 p5 p6 p7
  cases dp with
  | false =>
    go_wp2_with fail
    go_ret
    exact ⟨rfl, HX2.out⟩
  | true =>
  go_wp2_with fail
  refine (HT.out _ _ (HB.out.mono HX2.out)).mono ?_
  rintro e w3 ⟨rfl, hx⟩
  have HX3 := Lib.hid (Ext.trans HX2.out hx)
  have HBP3 := Lib.hid (HBP2.out.ext hx)
  clear hx
  go_wp2_with fail
  have HN3 := Lib.hid (ext_new w3 (.cells #[.int .u8 yak, .int .i64 yan, .string ⟨yas.toArray⟩, .int .u8 ybk, .int .i64 ybn, .string ⟨ybs.toArray⟩, .int .i64 yn, .int .i64 ym] 26))
  have HY3 := Lib.hid (Blk.new w3 [.int .u8 yak, .int .i64 yan, .string ⟨yas.toArray⟩, .int .u8 ybk, .int .i64 ybn, .string ⟨ybs.toArray⟩, .int .i64 yn, .int .i64 ym] 26)
  refine (HTR.out _ _ (HB.out.mono (Ext.trans HX3.out HN3.out))).mono ?_
  rintro e w4 ⟨rfl, hx⟩
  have HX4 := Lib.hid (Ext.trans (Ext.trans HX3.out HN3.out) hx)
  have HBP4 := Lib.hid ((HBP3.out.ext HN3.out).ext hx)
  have HY4 := Lib.hid (HY3.out.ext hx)
  clear hx
  have HN4 := Lib.hid (ext_new w4 (.cells #[.int .u8 yak, .int .i64 yan, .string ⟨yas.toArray⟩, .int .u8 ybk, .int .i64 ybn, .string ⟨ybs.toArray⟩, .int .i64 yn, .int .i64 ym] 26))
  have HV5 := Lib.hid (Blk.new w4 [.int .u8 yak, .int .i64 yan, .string ⟨yas.toArray⟩, .int .u8 ybk, .int .i64 ybn, .string ⟨ybs.toArray⟩, .int .i64 yn, .int .i64 ym] 26)
  have HX5 := Lib.hid (Ext.trans HX4.out HN4.out)
  have HBP5 := Lib.hid (HBP4.out.ext HN4.out)
  have HY5 := Lib.hid (HY4.out.ext HN4.out)
  go_upto_region 7 with fail
  rw [show ((.cells #[.int .u8 yak, .int .i64 yan, .string ⟨yas.toArray⟩, .int .u8 ybk, .int .i64 ybn, .string ⟨ybs.toArray⟩, .int .i64 yn, .int .i64 ym] 26) : Obj) = .cells ([.int .u8 yak, .int .i64 yan, .string ⟨yas.toArray⟩, .int .u8 ybk, .int .i64 ybn, .string ⟨ybs.toArray⟩, .int .i64 yn, .int .i64 ym] : List Value).toArray 26 from rfl] at HX5 HBP5 HY5
  try rw [show ((.cells #[.int .u8 yak, .int .i64 yan, .string ⟨yas.toArray⟩, .int .u8 ybk, .int .i64 ybn, .string ⟨ybs.toArray⟩, .int .i64 yn, .int .i64 ym] 26) : Obj) = .cells ([.int .u8 yak, .int .i64 yan, .string ⟨yas.toArray⟩, .int .u8 ybk, .int .i64 ybn, .string ⟨ybs.toArray⟩, .int .i64 yn, .int .i64 ym] : List Value).toArray 26 from rfl]
  generalize w4.alloc (.cells ([.int .u8 yak, .int .i64 yan, .string ⟨yas.toArray⟩, .int .u8 ybk, .int .i64 ybn, .string ⟨ybs.toArray⟩, .int .i64 yn, .int .i64 ym] : List Value).toArray 26) = W5 at HX5 HBP5 HY5 HV5 ⊢
  have p0 := later_cell (w := W5) (b := w.heap.size) (fun j u hj => HBP5.out.cell j u hj) 0 (.int .u8 pak) rfl
  have p1 := later_cell (w := W5) (b := w.heap.size) (fun j u hj => HBP5.out.cell j u hj) 1 (.int .i64 pan) rfl
  have p2 := later_cell (w := W5) (b := w.heap.size) (fun j u hj => HBP5.out.cell j u hj) 2 (.string ⟨pas.toArray⟩) rfl
  have p3 := later_cell (w := W5) (b := w.heap.size) (fun j u hj => HBP5.out.cell j u hj) 3 (.int .u8 pbk) rfl
  have p4 := later_cell (w := W5) (b := w.heap.size) (fun j u hj => HBP5.out.cell j u hj) 4 (.int .i64 pbn) rfl
  have p5 := later_cell (w := W5) (b := w.heap.size) (fun j u hj => HBP5.out.cell j u hj) 5 (.string ⟨pbs.toArray⟩) rfl
  have p6 := later_cell (w := W5) (b := w.heap.size) (fun j u hj => HBP5.out.cell j u hj) 6 (.int .i64 pn) rfl
  have p7 := later_cell (w := W5) (b := w.heap.size) (fun j u hj => HBP5.out.cell j u hj) 7 (.int .i64 pm) rfl
  have hqr := HQR.out
  refine wp_region_segs Ext Ext.keeps [([0, 1, 2, 3, 5, 6], some 4), ([], some 7), ([8, 9, 10, 11, 14], some 12), ([13], some 15), ([16, 17, 18, 19, 20, 21, 22, 23, 24, 25, 26, 27, 28, 29], none)] (by kernel_rfl) (by kernel_rfl) (fun c a a' w e h => (by exact ⟨e ▸ h.1, h.2⟩)) ?_
  simp only [pickSegs, pickOps, List.map_cons, List.map_nil, Option.map_some, Option.map_none, Option.getD_some, List.getElem?_toArray, List.getElem?_cons_zero, List.getElem?_cons_succ]
  refine wpSegs_some fun K hK => ?_
  repeat go_big_quiet_step (fail)
  refine wpQuiet_nil ?_
  clear p0 p1 p2 p3 p4 p5 p6 p7
  go_wp2_with fail
  refine (HR.out _ (of_decide_eq_true HDP.out)).mono ?_
  rintro e W6 ⟨rfl, hx⟩
  have HH6 := Lib.hid hx
  clear hx
  go_wp2_with fail
  refine ⟨HH6.out, hK _ _ ?_⟩
  clear hK K
  refine wpSegs_some fun K hK => ?_
  refine wpQuiet_nil ?_
  go_wp2_with fail
  refine (HRR.out _).mono ?_
  rintro e W7 ⟨rfl, hx⟩
  have HH7 := Lib.hid hx
  clear hx
  go_wp2_with fail
  refine ⟨HH7.out, hK _ _ ?_⟩
  clear hK K
  have HX7 := Lib.hid (Ext.trans (Ext.trans (Ext.drew W5) HH6.out) HH7.out)
  have HBP7 := Lib.hid (HBP5.out.ext HX7.out)
  have p0 := now_cell (w := W7) (b := w.heap.size) (fun j u hj => HBP7.out.cell j u hj) 0 (.int .u8 pak) rfl
  have p1 := now_cell (w := W7) (b := w.heap.size) (fun j u hj => HBP7.out.cell j u hj) 1 (.int .i64 pan) rfl
  have p2 := now_cell (w := W7) (b := w.heap.size) (fun j u hj => HBP7.out.cell j u hj) 2 (.string ⟨pas.toArray⟩) rfl
  have p3 := now_cell (w := W7) (b := w.heap.size) (fun j u hj => HBP7.out.cell j u hj) 3 (.int .u8 pbk) rfl
  have p4 := now_cell (w := W7) (b := w.heap.size) (fun j u hj => HBP7.out.cell j u hj) 4 (.int .i64 pbn) rfl
  have p5 := now_cell (w := W7) (b := w.heap.size) (fun j u hj => HBP7.out.cell j u hj) 5 (.string ⟨pbs.toArray⟩) rfl
  have p6 := now_cell (w := W7) (b := w.heap.size) (fun j u hj => HBP7.out.cell j u hj) 6 (.int .i64 pn) rfl
  have p7 := now_cell (w := W7) (b := w.heap.size) (fun j u hj => HBP7.out.cell j u hj) 7 (.int .i64 pm) rfl
  refine wpSegs_some fun K hK => ?_
  repeat go_big_quiet_step (fail)
  refine wpQuiet_nil ?_
  clear p0 p1 p2 p3 p4 p5 p6 p7
  go_wp2_with fail
  refine (HP.out _ (of_decide_eq_true HDP.out)).mono ?_
  rintro e W8 ⟨r8, rfl, ho8, hx⟩
  have HO8 := Lib.hid (RdV.of_owns ho8)
  clear ho8
  have HH8 := Lib.hid hx
  clear hx
  go_wp2_with fail
  refine ⟨HH8.out, hK _ _ ?_⟩
  clear hK K
  have hc8 : ∀ z : Later Ext W8, (convert 33 9 r8).run Try.prog z.val = .ok (.string ⟨l.toArray⟩) z.val := fun z => str_of (Rd.mono HO8.out z.ext)
  refine wpSegs_some fun K hK => ?_
  repeat go_big_quiet_step (fail)
  refine wpQuiet_nil ?_
  clear hc8
  go_wp2_with fail
  refine (HPR.out _ (of_decide_eq_true HDP.out)).mono ?_
  rintro e W9 ⟨r9, rfl, ho9, hx⟩
  have HO9 := Lib.hid (RdV.of_owns ho9)
  clear ho9
  have HH9 := Lib.hid hx
  clear hx
  go_wp2_with fail
  refine ⟨HH9.out, hK _ _ ?_⟩
  clear hK K
  have HX9 := Lib.hid (Ext.trans (Ext.trans HX7.out HH8.out) HH9.out)
  have HY9 := Lib.hid (HY5.out.ext HX9.out)
  have HV9 := Lib.hid (HV5.out.ext HX9.out)
  have hc9 : ∀ z : Later Ext W9, (convert 33 9 r9).run Try.prog z.val = .ok (.string ⟨l.toArray⟩) z.val := fun z => str_of (Rd.mono HO9.out z.ext)
  have hqy := HQY.out
  have hqe := HQE.out
  have y0 := now_cell (w := W9) (b := w3.heap.size) (fun j u hj => HY9.out.cell j u hj) 0 (.int .u8 yak) rfl
  have y1 := now_cell (w := W9) (b := w3.heap.size) (fun j u hj => HY9.out.cell j u hj) 1 (.int .i64 yan) rfl
  have y2 := now_cell (w := W9) (b := w3.heap.size) (fun j u hj => HY9.out.cell j u hj) 2 (.string ⟨yas.toArray⟩) rfl
  have y3 := now_cell (w := W9) (b := w3.heap.size) (fun j u hj => HY9.out.cell j u hj) 3 (.int .u8 ybk) rfl
  have y4 := now_cell (w := W9) (b := w3.heap.size) (fun j u hj => HY9.out.cell j u hj) 4 (.int .i64 ybn) rfl
  have y5 := now_cell (w := W9) (b := w3.heap.size) (fun j u hj => HY9.out.cell j u hj) 5 (.string ⟨ybs.toArray⟩) rfl
  have y6 := now_cell (w := W9) (b := w3.heap.size) (fun j u hj => HY9.out.cell j u hj) 6 (.int .i64 yn) rfl
  have y7 := now_cell (w := W9) (b := w3.heap.size) (fun j u hj => HY9.out.cell j u hj) 7 (.int .i64 ym) rfl
  have x0 := now_cell (w := W9) (b := w4.heap.size) (fun j u hj => HV9.out.cell j u hj) 0 (.int .u8 yak) rfl
  have x1 := now_cell (w := W9) (b := w4.heap.size) (fun j u hj => HV9.out.cell j u hj) 1 (.int .i64 yan) rfl
  have x2 := now_cell (w := W9) (b := w4.heap.size) (fun j u hj => HV9.out.cell j u hj) 2 (.string ⟨yas.toArray⟩) rfl
  have x3 := now_cell (w := W9) (b := w4.heap.size) (fun j u hj => HV9.out.cell j u hj) 3 (.int .u8 ybk) rfl
  have x4 := now_cell (w := W9) (b := w4.heap.size) (fun j u hj => HV9.out.cell j u hj) 4 (.int .i64 ybn) rfl
  have x5 := now_cell (w := W9) (b := w4.heap.size) (fun j u hj => HV9.out.cell j u hj) 5 (.string ⟨ybs.toArray⟩) rfl
  have x6 := now_cell (w := W9) (b := w4.heap.size) (fun j u hj => HV9.out.cell j u hj) 6 (.int .i64 yn) rfl
  have x7 := now_cell (w := W9) (b := w4.heap.size) (fun j u hj => HV9.out.cell j u hj) 7 (.int .i64 ym) rfl
  refine wpSegs_none ?_
  repeat go_big_quiet_step (fail)
  refine wpQuiet_nil (wpSegs_nil ?_)
  clear y0 y1 y2 y3 y4 y5 y6 y7 x0 x1 x2 x3 x4 x5 x6 x7
  clear hc9 hqy hqe hqr
  go_wp2_with fail
  go_ret
  exact ⟨rfl, Ext.trans HX5.out HX9.out⟩

end Go.Proofs.Ytlbilmmjcfiokaa
