/-
  The walk of the law ZoneAsks.
-/
import Derived.Test.YtlbilmmjcfiokaaZoneEx
namespace Go.Proofs.Ytlbilmmjcfiokaa
open Go.RowKit Go.BigFrame

theorem eq_trip_self (a b c : Bool) (w : World) : (Op.equalIn 10000 40 (.agg #[.bool a, .bool b, .bool c]) (.agg #[.bool a, .bool b, .bool c])).run Try.prog w = .ok true w := by
  rw [eq_trip, decide_eq_true rfl]

set_option maxRecDepth 100000 in
set_option maxHeartbeats 8000000 in
theorem zoneAsks_walk (p : Zo) (v : V) (w : World) (hp : p.fits) (hps : p.small maxLen) (hv : v.fits) (hvs : v.s.length ≤ maxLen) :
    Calls Try.prog 5 #[p.val, v.val] w fun e w' => e = .returned (.bool true) ∧ Below w.heap.size w w' := by
  have HSP := Lib.hid (fun W => short13_any p W hps)
  have hsm : ∀ h1 : p.small 1100, p.small 5000 := fun h1 => ⟨Nat.le_trans h1.1 (by decide), Nat.le_trans h1.2 (by decide)⟩
  have HE := Lib.hid (fun W (h1 : p.small 1100) (h2 : v.s.length ≤ 1100) => pEqualZ_any p v W hp hv (hsm h1) (Nat.le_trans h2 (by decide)))
  have HER := Lib.hid (fun W => refEqualZ_any p v W hp hv)
  have HL := Lib.hid (fun W (h1 : p.small 1100) (h2 : v.s.length ≤ 1100) => pLessZ_any p v W hp hv (hsm h1) (Nat.le_trans h2 (by decide)))
  have HLR := Lib.hid (fun W => refLessZ_any p v W hp hv)
  have HN := Lib.hid (pNullZ_any p)
  have HNR := Lib.hid (refNullZ_any p)
  generalize hdp : decide (p.small 1100) = dp at HSP
  have HDP := Lib.hid hdp
  generalize equalZ p v = x at HE HER
  generalize lessZ p v = y at HL HLR
  generalize nullZ p = z at HN HNR
  obtain ⟨x0, x1, x2⟩ := x
  obtain ⟨y0, y1, y2⟩ := y
  obtain ⟨z0, z1, z2⟩ := z
  obtain ⟨⟨pak, pan, pas⟩, ⟨pbk, pbn, pbs⟩, pn, pm⟩ := p
  obtain ⟨vk, vn, vs⟩ := v
  have hvl : vs.length ≤ 9223372036854775807 := hvs
  unfold Zo.val V.val tripV at HE HER HL HLR
  unfold Zo.val tripV at HN HNR
  unfold Zo.val at HSP
  unfold Zo.val V.val
  simp only at HSP HE HER HL HLR HN HNR ⊢
  have HBP := Lib.hid ((Blk.new w [.int .u8 pak, .int .i64 pan, .string ⟨pas.toArray⟩, .int .u8 pbk, .int .i64 pbn, .string ⟨pbs.toArray⟩, .int .i64 pn, .int .i64 pm] 26).ext (ext_new _ (.cells #[.int .u8 vk, .int .i64 vn, .string ⟨vs.toArray⟩] 24)))
  have HBV := Lib.hid (show Blk ((w.alloc (.cells #[.int .u8 pak, .int .i64 pan, .string ⟨pas.toArray⟩, .int .u8 pbk, .int .i64 pbn, .string ⟨pbs.toArray⟩, .int .i64 pn, .int .i64 pm] 26)).alloc (.cells #[.int .u8 vk, .int .i64 vn, .string ⟨vs.toArray⟩] 24)) (w.heap.size + 1) [.int .u8 vk, .int .i64 vn, .string ⟨vs.toArray⟩] 24 from by have h := Blk.new (w.alloc (.cells #[.int .u8 pak, .int .i64 pan, .string ⟨pas.toArray⟩, .int .u8 pbk, .int .i64 pbn, .string ⟨pbs.toArray⟩, .int .i64 pn, .int .i64 pm] 26)) [.int .u8 vk, .int .i64 vn, .string ⟨vs.toArray⟩] 24; simp only [World.alloc, Array.size_push] at h; exact h)
  have HX0 := Lib.hid (Ext.trans (ext_new w (.cells #[.int .u8 pak, .int .i64 pan, .string ⟨pas.toArray⟩, .int .u8 pbk, .int .i64 pbn, .string ⟨pbs.toArray⟩, .int .i64 pn, .int .i64 pm] 26)) (ext_new _ (.cells #[.int .u8 vk, .int .i64 vn, .string ⟨vs.toArray⟩] 24)))
  have HQX := Lib.hid (eq_trip_self x0 x1 x2)
  have HQY := Lib.hid (eq_trip_self y0 y1 y2)
  have HQZ := Lib.hid (eq_trip_self z0 z1 z2)
  have HG := Lib.hid (show Try.prog.eqGuardType Try.prog.depth 40 = false by kernel_rfl)
  clear hp hv hps hvs hdp hsm
  go_enter Try.func5, Try.ntmps5
  go_wp2_with fail
  refine (shown13_any _).mono ?_
  rintro e w1 ⟨rfl, hx⟩
  have HX1 := Lib.hid (Ext.trans HX0.out hx)
  have HBP1 := Lib.hid (HBP.out.ext hx)
  have HBV1 := Lib.hid (HBV.out.ext hx)
  clear hx
  have p0 : w1.cell? ⟨w.heap.size, 0, none⟩ = some (.int .u8 pak) := HBP1.out.cell 0 _ rfl
  have p1 : w1.cell? ⟨w.heap.size, 1, none⟩ = some (.int .i64 pan) := HBP1.out.cell 1 _ rfl
  have p2 : w1.cell? ⟨w.heap.size, 2, none⟩ = some (.string ⟨pas.toArray⟩) := HBP1.out.cell 2 _ rfl
  have p3 : w1.cell? ⟨w.heap.size, 3, none⟩ = some (.int .u8 pbk) := HBP1.out.cell 3 _ rfl
  have p4 : w1.cell? ⟨w.heap.size, 4, none⟩ = some (.int .i64 pbn) := HBP1.out.cell 4 _ rfl
  have p5 : w1.cell? ⟨w.heap.size, 5, none⟩ = some (.string ⟨pbs.toArray⟩) := HBP1.out.cell 5 _ rfl
  have p6 : w1.cell? ⟨w.heap.size, 6, none⟩ = some (.int .i64 pn) := HBP1.out.cell 6 _ rfl
  have p7 : w1.cell? ⟨w.heap.size, 7, none⟩ = some (.int .i64 pm) := HBP1.out.cell 7 _ rfl
  go_wp2_with fail
  refine (HSP.out _).mono ?_
  rintro e w2 ⟨rfl, hx⟩
  have HX2 := Lib.hid (Ext.trans HX1.out hx)
  have HBP2 := Lib.hid (HBP1.out.ext hx)
  have HBV2 := Lib.hid (HBV1.out.ext hx)
  clear hx p0 p1 p2 p3 p4 p5 p6 p7
  cases dp with
  | false =>
    go_wp2_with fail
    go_ret
    exact ⟨rfl, HX2.out⟩
  | true =>
  have v2 : w2.cell? ⟨w.heap.size + 1, 2, none⟩ = some (.string ⟨vs.toArray⟩) := HBV2.out.cell 2 _ rfl
  by_cases hlen : 1100 < vs.length
  · have d1 : decide ((1100 : Int) < (vs.length : Int)) = true := decide_eq_true (by omega)
    clear hlen
    go_wp2_with fail
    go_ret
    exact ⟨rfl, HX2.out⟩
  have d1 : decide ((1100 : Int) < (vs.length : Int)) = false := decide_eq_false (by omega)
  have HLEN := Lib.hid (show vs.length ≤ 1100 by omega)
  clear hlen
  go_upto_region 4 with fail
  clear v2 d1
  have p0 := later_cell (w := w2) (b := w.heap.size) (fun j u hj => HBP2.out.cell j u hj) 0 (.int .u8 pak) rfl
  have p1 := later_cell (w := w2) (b := w.heap.size) (fun j u hj => HBP2.out.cell j u hj) 1 (.int .i64 pan) rfl
  have p2 := later_cell (w := w2) (b := w.heap.size) (fun j u hj => HBP2.out.cell j u hj) 2 (.string ⟨pas.toArray⟩) rfl
  have p3 := later_cell (w := w2) (b := w.heap.size) (fun j u hj => HBP2.out.cell j u hj) 3 (.int .u8 pbk) rfl
  have p4 := later_cell (w := w2) (b := w.heap.size) (fun j u hj => HBP2.out.cell j u hj) 4 (.int .i64 pbn) rfl
  have p5 := later_cell (w := w2) (b := w.heap.size) (fun j u hj => HBP2.out.cell j u hj) 5 (.string ⟨pbs.toArray⟩) rfl
  have p6 := later_cell (w := w2) (b := w.heap.size) (fun j u hj => HBP2.out.cell j u hj) 6 (.int .i64 pn) rfl
  have p7 := later_cell (w := w2) (b := w.heap.size) (fun j u hj => HBP2.out.cell j u hj) 7 (.int .i64 pm) rfl
  have v0 := later_cell (w := w2) (b := (w.heap.size + 1)) (fun j u hj => HBV2.out.cell j u hj) 0 (.int .u8 vk) rfl
  have v1 := later_cell (w := w2) (b := (w.heap.size + 1)) (fun j u hj => HBV2.out.cell j u hj) 1 (.int .i64 vn) rfl
  have v2 := later_cell (w := w2) (b := (w.heap.size + 1)) (fun j u hj => HBV2.out.cell j u hj) 2 (.string ⟨vs.toArray⟩) rfl
  refine wp_region_segs Ext Ext.keeps [([0, 1, 2, 3, 5, 6], some 4), ([], some 7), ([8, 9, 10, 11, 12, 14, 15], some 13), ([], some 16), ([17, 18, 19, 20, 22], some 21), ([], some 23), ([24, 25, 26], none)] (by kernel_rfl) (by kernel_rfl) (fun c a a' w e h => (by exact ⟨e ▸ h.1, h.2⟩)) ?_
  simp only [pickSegs, pickOps, List.map_cons, List.map_nil, Option.map_some, Option.map_none, Option.getD_some, List.getElem?_toArray, List.getElem?_cons_zero, List.getElem?_cons_succ]
  refine wpSegs_some fun K hK => ?_
  repeat go_big_quiet_step (fail)
  refine wpQuiet_nil ?_
  clear p0 p1 p2 p3 p4 p5 p6 p7 v0 v1 v2
  go_wp2_with fail
  refine (HE.out _ (of_decide_eq_true HDP.out) HLEN.out).mono ?_
  rintro e W3 ⟨rfl, hx⟩
  have HH3 := Lib.hid hx
  clear hx
  go_wp2_with fail
  refine ⟨HH3.out, hK _ _ ?_⟩
  clear hK K
  refine wpSegs_some fun K hK => ?_
  refine wpQuiet_nil ?_
  go_wp2_with fail
  refine (HER.out _).mono ?_
  rintro e W4 ⟨rfl, hx⟩
  have HH4 := Lib.hid hx
  clear hx
  go_wp2_with fail
  refine ⟨HH4.out, hK _ _ ?_⟩
  clear hK K
  have HX4 := Lib.hid (Ext.trans (Ext.trans (Ext.drew w2) HH3.out) HH4.out)
  have HBP4 := Lib.hid (HBP2.out.ext HX4.out)
  have HBV4 := Lib.hid (HBV2.out.ext HX4.out)
  have hqx := HQX.out
  have hg := HG.out
  have p0 := now_cell (w := W4) (b := w.heap.size) (fun j u hj => HBP4.out.cell j u hj) 0 (.int .u8 pak) rfl
  have p1 := now_cell (w := W4) (b := w.heap.size) (fun j u hj => HBP4.out.cell j u hj) 1 (.int .i64 pan) rfl
  have p2 := now_cell (w := W4) (b := w.heap.size) (fun j u hj => HBP4.out.cell j u hj) 2 (.string ⟨pas.toArray⟩) rfl
  have p3 := now_cell (w := W4) (b := w.heap.size) (fun j u hj => HBP4.out.cell j u hj) 3 (.int .u8 pbk) rfl
  have p4 := now_cell (w := W4) (b := w.heap.size) (fun j u hj => HBP4.out.cell j u hj) 4 (.int .i64 pbn) rfl
  have p5 := now_cell (w := W4) (b := w.heap.size) (fun j u hj => HBP4.out.cell j u hj) 5 (.string ⟨pbs.toArray⟩) rfl
  have p6 := now_cell (w := W4) (b := w.heap.size) (fun j u hj => HBP4.out.cell j u hj) 6 (.int .i64 pn) rfl
  have p7 := now_cell (w := W4) (b := w.heap.size) (fun j u hj => HBP4.out.cell j u hj) 7 (.int .i64 pm) rfl
  have v0 := now_cell (w := W4) (b := (w.heap.size + 1)) (fun j u hj => HBV4.out.cell j u hj) 0 (.int .u8 vk) rfl
  have v1 := now_cell (w := W4) (b := (w.heap.size + 1)) (fun j u hj => HBV4.out.cell j u hj) 1 (.int .i64 vn) rfl
  have v2 := now_cell (w := W4) (b := (w.heap.size + 1)) (fun j u hj => HBV4.out.cell j u hj) 2 (.string ⟨vs.toArray⟩) rfl
  refine wpSegs_some fun K hK => ?_
  repeat go_big_quiet_step (fail)
  refine wpQuiet_nil ?_
  clear p0 p1 p2 p3 p4 p5 p6 p7 v0 v1 v2
  clear hqx hg
  go_wp2_with fail
  refine (HL.out _ (of_decide_eq_true HDP.out) HLEN.out).mono ?_
  rintro e W5 ⟨rfl, hx⟩
  have HH5 := Lib.hid hx
  clear hx
  go_wp2_with fail
  refine ⟨HH5.out, hK _ _ ?_⟩
  clear hK K
  refine wpSegs_some fun K hK => ?_
  refine wpQuiet_nil ?_
  go_wp2_with fail
  refine (HLR.out _).mono ?_
  rintro e W6 ⟨rfl, hx⟩
  have HH6 := Lib.hid hx
  clear hx
  go_wp2_with fail
  refine ⟨HH6.out, hK _ _ ?_⟩
  clear hK K
  have HX6 := Lib.hid (Ext.trans (Ext.trans HX4.out HH5.out) HH6.out)
  have HBP6 := Lib.hid (HBP2.out.ext HX6.out)
  have hqy := HQY.out
  have hg := HG.out
  have p0 := now_cell (w := W6) (b := w.heap.size) (fun j u hj => HBP6.out.cell j u hj) 0 (.int .u8 pak) rfl
  have p1 := now_cell (w := W6) (b := w.heap.size) (fun j u hj => HBP6.out.cell j u hj) 1 (.int .i64 pan) rfl
  have p2 := now_cell (w := W6) (b := w.heap.size) (fun j u hj => HBP6.out.cell j u hj) 2 (.string ⟨pas.toArray⟩) rfl
  have p3 := now_cell (w := W6) (b := w.heap.size) (fun j u hj => HBP6.out.cell j u hj) 3 (.int .u8 pbk) rfl
  have p4 := now_cell (w := W6) (b := w.heap.size) (fun j u hj => HBP6.out.cell j u hj) 4 (.int .i64 pbn) rfl
  have p5 := now_cell (w := W6) (b := w.heap.size) (fun j u hj => HBP6.out.cell j u hj) 5 (.string ⟨pbs.toArray⟩) rfl
  have p6 := now_cell (w := W6) (b := w.heap.size) (fun j u hj => HBP6.out.cell j u hj) 6 (.int .i64 pn) rfl
  have p7 := now_cell (w := W6) (b := w.heap.size) (fun j u hj => HBP6.out.cell j u hj) 7 (.int .i64 pm) rfl
  refine wpSegs_some fun K hK => ?_
  repeat go_big_quiet_step (fail)
  refine wpQuiet_nil ?_
  clear p0 p1 p2 p3 p4 p5 p6 p7
  clear hqy hg
  go_wp2_with fail
  refine (HN.out _).mono ?_
  rintro e W7 ⟨rfl, hx⟩
  have HH7 := Lib.hid hx
  clear hx
  go_wp2_with fail
  refine ⟨HH7.out, hK _ _ ?_⟩
  clear hK K
  refine wpSegs_some fun K hK => ?_
  refine wpQuiet_nil ?_
  go_wp2_with fail
  refine (HNR.out _).mono ?_
  rintro e W8 ⟨rfl, hx⟩
  have HH8 := Lib.hid hx
  clear hx
  go_wp2_with fail
  refine ⟨HH8.out, hK _ _ ?_⟩
  clear hK K
  have hqz := HQZ.out
  have hg := HG.out
  refine wpSegs_none ?_
  repeat go_big_quiet_step (fail)
  refine wpQuiet_nil (wpSegs_nil ?_)
  clear hqz hg
  go_wp2_with fail
  go_ret
  exact ⟨rfl, Ext.trans (Ext.trans (Ext.trans HX2.out HX6.out) HH7.out) HH8.out⟩

end Go.Proofs.Ytlbilmmjcfiokaa
