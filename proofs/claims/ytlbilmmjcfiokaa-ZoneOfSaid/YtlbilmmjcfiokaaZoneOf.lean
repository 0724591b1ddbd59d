/-
  The walk of the law ZoneOf.
-/
import Derived.Test.YtlbilmmjcfiokaaZoneEx
namespace Go.Proofs.Ytlbilmmjcfiokaa
open Go.RowKit Go.BigFrame

set_option maxRecDepth 100000 in
set_option maxHeartbeats 8000000 in
theorem zoneOf_walk (u : Value) (vs : List V) (p q : Zo) (w : World) (hu : RdVals w u vs) (hf0 : ∀ v ∈ vs, v.fits ∧ v.s.length ≤ maxLen) (hp : p.fits) (hps : p.small maxLen) (hq : q.fits) (hqs : q.small maxLen) :
    Calls Try.prog 3 #[u, p.val, q.val] w fun e w' => e = .returned (.bool true) ∧ Below w.heap.size w w' := by
  have hf : ∀ v ∈ vs, v.fits := fun v hv => (hf0 v hv).1
  have HU := Lib.hid hu
  have HSP := Lib.hid (fun W => short13_any p W hps)
  have HSQ := Lib.hid (fun W => short13_any q W hqs)
  have HMP := Lib.hid (fun W (h1 : p.small 1100) (h2 : q.small 1100) => pMergeZ_any p q W hp hq ⟨Nat.le_trans h1.1 (by decide), Nat.le_trans h1.2 (by decide)⟩ ⟨Nat.le_trans h2.1 (by decide), Nat.le_trans h2.2 (by decide)⟩)
  have HMR := Lib.hid (fun W => refMergeZ_any p q W hp hq)
  have HOP := Lib.hid (fun v W (h : RdVals W v (fewZ vs)) => pOfZ_any v (fewZ vs) W h (fun y hy => ⟨hf y (fewZ_mem hy).1, Nat.le_trans (fewZ_mem hy).2 (by decide)⟩))
  have HOR := Lib.hid (fun v W (h : RdVals W v (fewZ vs)) => refOfZ_any v (fewZ vs) W h (fun y hy => hf y (fewZ_mem hy).1))
  generalize ofZ (fewZ vs) = z at HOP HOR
  generalize mergeZ p q = y at HMP HMR
  generalize hdp : decide (p.small 1100) = dp at HSP
  generalize hdq : decide (q.small 1100) = dq at HSQ
  have HDP := Lib.hid hdp
  have HDQ := Lib.hid hdq
  obtain ⟨⟨pak, pan, pas⟩, ⟨pbk, pbn, pbs⟩, pn, pm⟩ := p
  obtain ⟨⟨qak, qan, qas⟩, ⟨qbk, qbn, qbs⟩, qn, qm⟩ := q
  obtain ⟨⟨zak, zan, zas⟩, ⟨zbk, zbn, zbs⟩, zn, zm⟩ := z
  obtain ⟨⟨yak, yan, yas⟩, ⟨ybk, ybn, ybs⟩, yn, ym⟩ := y
  have HQZ := Lib.hid (show ∀ W, (binOp .eql 26 (.agg #[.int .u8 zak, .int .i64 zan, .string ⟨zas.toArray⟩, .int .u8 zbk, .int .i64 zbn, .string ⟨zbs.toArray⟩, .int .i64 zn, .int .i64 zm]) (.agg #[.int .u8 zak, .int .i64 zan, .string ⟨zas.toArray⟩, .int .u8 zbk, .int .i64 zbn, .string ⟨zbs.toArray⟩, .int .i64 zn, .int .i64 zm])).run Try.prog W = .ok (.bool true) W from fun W => eq_zone_self ⟨⟨zak, zan, zas⟩, ⟨zbk, zbn, zbs⟩, zn, zm⟩ W)
  have HQY := Lib.hid (show ∀ W, (binOp .eql 26 (.agg #[.int .u8 yak, .int .i64 yan, .string ⟨yas.toArray⟩, .int .u8 ybk, .int .i64 ybn, .string ⟨ybs.toArray⟩, .int .i64 yn, .int .i64 ym]) (.agg #[.int .u8 yak, .int .i64 yan, .string ⟨yas.toArray⟩, .int .u8 ybk, .int .i64 ybn, .string ⟨ybs.toArray⟩, .int .i64 yn, .int .i64 ym])).run Try.prog W = .ok (.bool true) W from fun W => eq_zone_self ⟨⟨yak, yan, yas⟩, ⟨ybk, ybn, ybs⟩, yn, ym⟩ W)
  unfold Zo.val at HSP HSQ HMP HMR HOP HOR ⊢
  simp only at HSP HSQ HMP HMR HOP HOR ⊢
  have HBP := Lib.hid ((Blk.new w [.int .u8 pak, .int .i64 pan, .string ⟨pas.toArray⟩, .int .u8 pbk, .int .i64 pbn, .string ⟨pbs.toArray⟩, .int .i64 pn, .int .i64 pm] 26).ext (ext_new _ (.cells #[.int .u8 qak, .int .i64 qan, .string ⟨qas.toArray⟩, .int .u8 qbk, .int .i64 qbn, .string ⟨qbs.toArray⟩, .int .i64 qn, .int .i64 qm] 26)))
  have HBQ := Lib.hid (show Blk ((w.alloc (.cells #[.int .u8 pak, .int .i64 pan, .string ⟨pas.toArray⟩, .int .u8 pbk, .int .i64 pbn, .string ⟨pbs.toArray⟩, .int .i64 pn, .int .i64 pm] 26)).alloc (.cells #[.int .u8 qak, .int .i64 qan, .string ⟨qas.toArray⟩, .int .u8 qbk, .int .i64 qbn, .string ⟨qbs.toArray⟩, .int .i64 qn, .int .i64 qm] 26)) (w.heap.size + 1) [.int .u8 qak, .int .i64 qan, .string ⟨qas.toArray⟩, .int .u8 qbk, .int .i64 qbn, .string ⟨qbs.toArray⟩, .int .i64 qn, .int .i64 qm] 26 from by have h := Blk.new (w.alloc (.cells #[.int .u8 pak, .int .i64 pan, .string ⟨pas.toArray⟩, .int .u8 pbk, .int .i64 pbn, .string ⟨pbs.toArray⟩, .int .i64 pn, .int .i64 pm] 26)) [.int .u8 qak, .int .i64 qan, .string ⟨qas.toArray⟩, .int .u8 qbk, .int .i64 qbn, .string ⟨qbs.toArray⟩, .int .i64 qn, .int .i64 qm] 26; simp only [World.alloc, Array.size_push] at h; exact h)
  have HX0 := Lib.hid (Ext.trans (ext_new w (.cells #[.int .u8 pak, .int .i64 pan, .string ⟨pas.toArray⟩, .int .u8 pbk, .int .i64 pbn, .string ⟨pbs.toArray⟩, .int .i64 pn, .int .i64 pm] 26)) (ext_new _ (.cells #[.int .u8 qak, .int .i64 qan, .string ⟨qas.toArray⟩, .int .u8 qbk, .int .i64 qbn, .string ⟨qbs.toArray⟩, .int .i64 qn, .int .i64 qm] 26)))
  clear hu hf hf0 hp hq hps hqs hdp hdq
  go_enter Try.func3, Try.ntmps3
  go_wp2_with fail
  refine (shown13_any _).mono ?_
  rintro e w1 ⟨rfl, hx⟩
  have HX1 := Lib.hid (Ext.trans HX0.out hx)
  have HBP1 := Lib.hid (HBP.out.ext hx)
  have HBQ1 := Lib.hid (HBQ.out.ext hx)
  clear hx
  have p0 : w1.cell? ⟨w.heap.size, 0, none⟩ = some (.int .u8 pak) := HBP1.out.cell 0 _ rfl
  have p1 : w1.cell? ⟨w.heap.size, 1, none⟩ = some (.int .i64 pan) := HBP1.out.cell 1 _ rfl
  have p2 : w1.cell? ⟨w.heap.size, 2, none⟩ = some (.string ⟨pas.toArray⟩) := HBP1.out.cell 2 _ rfl
  have p3 : w1.cell? ⟨w.heap.size, 3, none⟩ = some (.int .u8 pbk) := HBP1.out.cell 3 _ rfl
  have p4 : w1.cell? ⟨w.heap.size, 4, none⟩ = some (.int .i64 pbn) := HBP1.out.cell 4 _ rfl
  have p5 : w1.cell? ⟨w.heap.size, 5, none⟩ = some (.string ⟨pbs.toArray⟩) := HBP1.out.cell 5 _ rfl
  have p6 : w1.cell? ⟨w.heap.size, 6, none⟩ = some (.int .i64 pn) := HBP1.out.cell 6 _ rfl
  have p7 : w1.cell? ⟨w.heap.size, 7, none⟩ = some (.int .i64 pm) := HBP1.out.cell 7 _ rfl
  go_wp2_with fail
  refine (HSP.out _).mono ?_
  rintro e w2 ⟨rfl, hx⟩
  have HX2 := Lib.hid (Ext.trans HX1.out hx)
  have HBP2 := Lib.hid (HBP1.out.ext hx)
  have HBQ2 := Lib.hid (HBQ1.out.ext hx)
  clear hx p0 p1 p2 p3 p4 p5 p6 p7
  cases dp with
  | false =>
    go_wp2_with fail
    go_ret
    exact ⟨rfl, HX2.out⟩
  | true =>
  have q0 : w2.cell? ⟨w.heap.size + 1, 0, none⟩ = some (.int .u8 qak) := HBQ2.out.cell 0 _ rfl
  have q1 : w2.cell? ⟨w.heap.size + 1, 1, none⟩ = some (.int .i64 qan) := HBQ2.out.cell 1 _ rfl
  have q2 : w2.cell? ⟨w.heap.size + 1, 2, none⟩ = some (.string ⟨qas.toArray⟩) := HBQ2.out.cell 2 _ rfl
  have q3 : w2.cell? ⟨w.heap.size + 1, 3, none⟩ = some (.int .u8 qbk) := HBQ2.out.cell 3 _ rfl
  have q4 : w2.cell? ⟨w.heap.size + 1, 4, none⟩ = some (.int .i64 qbn) := HBQ2.out.cell 4 _ rfl
  have q5 : w2.cell? ⟨w.heap.size + 1, 5, none⟩ = some (.string ⟨qbs.toArray⟩) := HBQ2.out.cell 5 _ rfl
  have q6 : w2.cell? ⟨w.heap.size + 1, 6, none⟩ = some (.int .i64 qn) := HBQ2.out.cell 6 _ rfl
  have q7 : w2.cell? ⟨w.heap.size + 1, 7, none⟩ = some (.int .i64 qm) := HBQ2.out.cell 7 _ rfl
  go_wp2_with fail
  refine (HSQ.out _).mono ?_
  rintro e w3 ⟨rfl, hx⟩
  have HX3 := Lib.hid (Ext.trans HX2.out hx)
  have HBP3 := Lib.hid (HBP2.out.ext hx)
  have HBQ3 := Lib.hid (HBQ2.out.ext hx)
  clear hx q0 q1 q2 q3 q4 q5 q6 q7
  cases dq with
  | false =>
    go_wp2_with fail
    go_ret
    exact ⟨rfl, HX3.out⟩
  | true =>
  have HU3 := Lib.hid (HU.out.mono HX3.out)
  go_upto_region 4 with fail
  refine wp_region_segs Ext Ext.keeps [([0, 1, 2, 5], some 3), ([], some 4), ([], some 6), ([], some 7), ([8, 9, 10, 11, 12, 14, 15], some 13), ([], some 16), ([17, 18, 19], none)] (by kernel_rfl) (by kernel_rfl) (fun c a a' w e h => (by exact ⟨e ▸ h.1, h.2⟩)) ?_
  simp only [pickSegs, pickOps, List.map_cons, List.map_nil, Option.map_some, Option.map_none, Option.getD_some, List.getElem?_toArray, List.getElem?_cons_zero, List.getElem?_cons_succ]
  refine wpSegs_some fun K hK => ?_
  repeat go_big_quiet_step (fail)
  refine wpQuiet_nil ?_
  have HU4 := Lib.hid (HU3.out.mono (Ext.drew w3))
  go_wp2_with fail
  refine (few13_any _ vs _ HU4.out).mono ?_
  rintro e W' ⟨⟨v1, rfl, hv1, -⟩, rfl⟩
  have HV1 := Lib.hid hv1
  clear hv1
  go_wp2_with fail
  refine ⟨Ext.keeps.refl _, hK _ _ ?_⟩
  clear hK K
  refine wpSegs_some fun K hK => ?_
  refine wpQuiet_nil ?_
  go_wp2_with fail
  refine (HOP.out _ _ HV1.out).mono ?_
  rintro e W5 ⟨rfl, hx⟩
  have HH5 := Lib.hid hx
  clear hx
  go_wp2_with fail
  refine ⟨HH5.out, hK _ _ ?_⟩
  clear hK K
  refine wpSegs_some fun K hK => ?_
  refine wpQuiet_nil ?_
  go_wp2_with fail
  refine (few13_any _ vs _ (HU4.out.mono HH5.out)).mono ?_
  rintro e W' ⟨⟨v2, rfl, hv2, -⟩, rfl⟩
  have HV2 := Lib.hid hv2
  clear hv2
  go_wp2_with fail
  refine ⟨Ext.keeps.refl _, hK _ _ ?_⟩
  clear hK K
  refine wpSegs_some fun K hK => ?_
  refine wpQuiet_nil ?_
  go_wp2_with fail
  refine (HOR.out _ _ HV2.out).mono ?_
  rintro e W6 ⟨rfl, hx⟩
  have HH6 := Lib.hid hx
  clear hx
  go_wp2_with fail
  refine ⟨HH6.out, hK _ _ ?_⟩
  clear hK K
  have HX6 := Lib.hid (Ext.trans (Ext.trans (Ext.drew w3) HH5.out) HH6.out)
  have HBP6 := Lib.hid (HBP3.out.ext HX6.out)
  have HBQ6 := Lib.hid (HBQ3.out.ext HX6.out)
  have hqz := HQZ.out
  have p0 := now_cell (w := W6) (b := w.heap.size) (fun j u hj => HBP6.out.cell j u hj) 0 (.int .u8 pak) rfl
  have p1 := now_cell (w := W6) (b := w.heap.size) (fun j u hj => HBP6.out.cell j u hj) 1 (.int .i64 pan) rfl
  have p2 := now_cell (w := W6) (b := w.heap.size) (fun j u hj => HBP6.out.cell j u hj) 2 (.string ⟨pas.toArray⟩) rfl
  have p3 := now_cell (w := W6) (b := w.heap.size) (fun j u hj => HBP6.out.cell j u hj) 3 (.int .u8 pbk) rfl
  have p4 := now_cell (w := W6) (b := w.heap.size) (fun j u hj => HBP6.out.cell j u hj) 4 (.int .i64 pbn) rfl
  have p5 := now_cell (w := W6) (b := w.heap.size) (fun j u hj => HBP6.out.cell j u hj) 5 (.string ⟨pbs.toArray⟩) rfl
  have p6 := now_cell (w := W6) (b := w.heap.size) (fun j u hj => HBP6.out.cell j u hj) 6 (.int .i64 pn) rfl
  have p7 := now_cell (w := W6) (b := w.heap.size) (fun j u hj => HBP6.out.cell j u hj) 7 (.int .i64 pm) rfl
  have q0 := now_cell (w := W6) (b := (w.heap.size + 1)) (fun j u hj => HBQ6.out.cell j u hj) 0 (.int .u8 qak) rfl
  have q1 := now_cell (w := W6) (b := (w.heap.size + 1)) (fun j u hj => HBQ6.out.cell j u hj) 1 (.int .i64 qan) rfl
  have q2 := now_cell (w := W6) (b := (w.heap.size + 1)) (fun j u hj => HBQ6.out.cell j u hj) 2 (.string ⟨qas.toArray⟩) rfl
  have q3 := now_cell (w := W6) (b := (w.heap.size + 1)) (fun j u hj => HBQ6.out.cell j u hj) 3 (.int .u8 qbk) rfl
  have q4 := now_cell (w := W6) (b := (w.heap.size + 1)) (fun j u hj => HBQ6.out.cell j u hj) 4 (.int .i64 qbn) rfl
  have q5 := now_cell (w := W6) (b := (w.heap.size + 1)) (fun j u hj => HBQ6.out.cell j u hj) 5 (.string ⟨qbs.toArray⟩) rfl
  have q6 := now_cell (w := W6) (b := (w.heap.size + 1)) (fun j u hj => HBQ6.out.cell j u hj) 6 (.int .i64 qn) rfl
  have q7 := now_cell (w := W6) (b := (w.heap.size + 1)) (fun j u hj => HBQ6.out.cell j u hj) 7 (.int .i64 qm) rfl
  refine wpSegs_some fun K hK => ?_
  repeat go_big_quiet_step (fail)
  refine wpQuiet_nil ?_
  clear p0 p1 p2 p3 p4 p5 p6 p7 q0 q1 q2 q3 q4 q5 q6 q7
  clear hqz
  go_wp2_with fail
  refine (HMP.out _ (of_decide_eq_true HDP.out) (of_decide_eq_true HDQ.out)).mono ?_
  rintro e W7 ⟨rfl, hx⟩
  have HH7 := Lib.hid hx
  clear hx
  go_wp2_with fail
  refine ⟨HH7.out, hK _ _ ?_⟩
  clear hK K
  refine wpSegs_some fun K hK => ?_
  refine wpQuiet_nil ?_
  go_wp2_with fail
  refine (HMR.out _).mono ?_
  rintro e W8 ⟨rfl, hx⟩
  have HH8 := Lib.hid hx
  clear hx
  go_wp2_with fail
  refine ⟨HH8.out, hK _ _ ?_⟩
  clear hK K
  have hqy := HQY.out
  refine wpSegs_none ?_
  repeat go_big_quiet_step (fail)
  refine wpQuiet_nil (wpSegs_nil ?_)
  clear hqy
  go_wp2_with fail
  go_ret
  exact ⟨rfl, Ext.trans (Ext.trans (Ext.trans HX3.out HX6.out) HH7.out) HH8.out⟩

end Go.Proofs.Ytlbilmmjcfiokaa
