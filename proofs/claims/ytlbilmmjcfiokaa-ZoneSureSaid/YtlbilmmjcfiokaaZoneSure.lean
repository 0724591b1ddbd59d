/-
  The walk of the law ZoneSure.
-/
import Derived.Test.YtlbilmmjcfiokaaZoneArr
namespace Go.Proofs.Ytlbilmmjcfiokaa
open Go.RowKit Go.BigFrame

theorem eq_trip_self3 (a b c : Bool) (w : World) : (Op.equalIn 10000 40 (.agg #[.bool a, .bool b, .bool c]) (.agg #[.bool a, .bool b, .bool c])).run Try.prog w = .ok true w := by
  rw [eq_trip, decide_eq_true rfl]
theorem knownT_three (a b : V) (c : Bool) : knownT a b c = 0 ∨ knownT a b c = 1 ∨ knownT a b c = 2 := by
  unfold knownT
  split
  · exact .inr (.inl rfl)
  · split
    · exact .inr (.inr rfl)
    · exact .inl rfl

set_option maxRecDepth 100000 in
set_option maxHeartbeats 16000000 in
theorem zoneSure_walk (u : Value) (l : List V) (v : V) (w : World) (hu : RdVals w u l) (hf0 : ∀ v ∈ l, v.fits ∧ v.s.length ≤ maxLen) (hv : v.fits) (hvs : v.s.length ≤ maxLen) :
    Calls Try.prog 6 #[u, v.val] w fun e w' => e = .returned (.bool true) ∧ Below w.heap.size w w' := by
  have HU := Lib.hid hu
  have g1 : ∀ y ∈ fewZ l, y.fits ∧ y.s.length ≤ 1100 := fun y hy => ⟨(hf0 y (fewZ_mem hy).1).1, (fewZ_mem hy).2⟩
  have n1 := fewZ_len l
  have HF1 := Lib.hid (fun W (h : RdVals W u l) => few13_any u l W h)
  generalize fewZ l = x at g1 n1 HF1
  have HG1 := Lib.hid g1
  have HO := Lib.hid (fun a W (h : RdVals W a x) => pOfZ_any a x W h (fun y hy => ⟨(g1 y hy).1, Nat.le_trans (g1 y hy).2 (by decide)⟩))
  have p1 : (ofZ x).fits ∧ (ofZ x).small 5000 := ⟨ofZ_fits fun v hv => (g1 v hv).1, ofZ_small fun v hv => Nat.le_trans (g1 v hv).2 (by decide)⟩
  have HE := Lib.hid (fun W (h : v.s.length ≤ 1100) => pEqualZ_any (ofZ x) v W p1.1 hv p1.2 (Nat.le_trans h (by decide)))
  have HL := Lib.hid (fun W (h : v.s.length ≤ 1100) => pLessZ_any (ofZ x) v W p1.1 hv p1.2 (Nat.le_trans h (by decide)))
  have HN := Lib.hid (pNullZ_any (ofZ x))
  have HSURE := Lib.hid (fun y (hy : y ∈ x) => sure_of (v := v) (show x.length ≤ 1000000 by omega) hy)
  have HNONE := Lib.hid (show x = [] → equalZ (ofZ x) v = (false, false, false) ∧ lessZ (ofZ x) v = (false, false, false) ∧ nullZ (ofZ x) = (false, false, false) from fun h => by rw [h]; exact none_known v)
  have HPE := Lib.hid (fun (h : v.s.length ≤ 1100) y (hy : y ∈ x) W => Equal_any y v (g1 y hy).1 hv (Nat.le_trans (g1 y hy).2 (by decide)) (Nat.le_trans h (by decide)) W)
  have HPL := Lib.hid (fun (h : v.s.length ≤ 1100) y (hy : y ∈ x) W => Less_any y v (g1 y hy).1 hv (Nat.le_trans (g1 y hy).2 (by decide)) (Nat.le_trans h (by decide)) W)
  generalize equalZ (ofZ x) v = t1 at HE HSURE HNONE
  generalize lessZ (ofZ x) v = t2 at HL HSURE HNONE
  generalize nullZ (ofZ x) = t3 at HN HSURE HNONE
  generalize ofZ x = z at HO HE HL HN
  obtain ⟨⟨zak, zan, zas⟩, ⟨zbk, zbn, zbs⟩, zn, zm⟩ := z
  obtain ⟨N, hN⟩ : ∃ N, x.length = N := ⟨_, rfl⟩
  have HNN := Lib.hid hN
  rw [hN] at n1
  have hvl : v.s.length ≤ 9223372036854775807 := hvs
  obtain ⟨vk, vn, vs⟩ := v
  unfold Zo.val V.val at HE HL
  unfold Zo.val at HO HN
  unfold V.val
  simp only at HO HE HL HN hvl ⊢
  clear hu hf0 g1 p1 hN hv hvs
  have HBV := Lib.hid (Blk.new w [.int .u8 vk, .int .i64 vn, .string ⟨vs.toArray⟩] 24)
  have HXV := Lib.hid (ext_new w (.cells #[.int .u8 vk, .int .i64 vn, .string ⟨vs.toArray⟩] 24))
  go_enter Try.func6, Try.ntmps6
  go_wp2_with fail
  refine (shown13_any _).mono ?_
  rintro e w1 ⟨rfl, hx⟩
  have HX1 := Lib.hid (Ext.trans HXV.out hx)
  have HBV1 := Lib.hid (HBV.out.ext hx)
  clear hx
  have v2 : w1.cell? ⟨w.heap.size, 2, none⟩ = some (.string ⟨vs.toArray⟩) := HBV1.out.cell 2 _ rfl
  by_cases hlen : 1100 < vs.length
  · have d1 : decide ((1100 : Int) < (vs.length : Int)) = true := decide_eq_true (by omega)
    clear hlen
    go_wp2_with fail
    go_ret
    exact ⟨rfl, HX1.out⟩
  have d1 : decide ((1100 : Int) < (vs.length : Int)) = false := decide_eq_false (by omega)
  have HLEN := Lib.hid (show vs.length ≤ 1100 by omega)
  clear hlen
  go_wp2_with fail
  refine (HF1.out _ (HU.out.mono HX1.out)).mono ?_
  rintro e w' ⟨⟨v1, rfl, hv1, -⟩, rfl⟩
  clear v2 d1
  obtain ⟨a1, c1, rfl, -, -⟩ := hv1.shape
  obtain ⟨-, hc1, hc2, hat⟩ := hv1.plain
  have HV1 := Lib.hid hv1
  have HAT := Lib.hid hat
  unfold maxLen at hc2
  rw [HNN.out] at hc1 HV1 ⊢
  clear hv1 hat
  go_wp2_with fail
  refine (HO.out _ _ HV1.out).mono ?_
  rintro e w2 ⟨rfl, hx⟩
  have HX2 := Lib.hid hx
  have HBV2 := Lib.hid (HBV1.out.ext hx)
  clear hx
  have HNZ := Lib.hid (ext_new w2 (.cells #[.int .u8 zak, .int .i64 zan, .string ⟨zas.toArray⟩, .int .u8 zbk, .int .i64 zbn, .string ⟨zbs.toArray⟩, .int .i64 zn, .int .i64 zm] 26))
  have HBZ := Lib.hid (Blk.new w2 [.int .u8 zak, .int .i64 zan, .string ⟨zas.toArray⟩, .int .u8 zbk, .int .i64 zbn, .string ⟨zbs.toArray⟩, .int .i64 zn, .int .i64 zm] 26)
  have HBV3 := Lib.hid (HBV2.out.ext HNZ.out)
  go_upto_region 6 with fail
  rw [show ((.cells #[.int .u8 zak, .int .i64 zan, .string ⟨zas.toArray⟩, .int .u8 zbk, .int .i64 zbn, .string ⟨zbs.toArray⟩, .int .i64 zn, .int .i64 zm] 26) : Obj) = .cells ([.int .u8 zak, .int .i64 zan, .string ⟨zas.toArray⟩, .int .u8 zbk, .int .i64 zbn, .string ⟨zbs.toArray⟩, .int .i64 zn, .int .i64 zm] : List Value).toArray 26 from rfl] at HNZ HBV3
  try rw [show ((.cells #[.int .u8 zak, .int .i64 zan, .string ⟨zas.toArray⟩, .int .u8 zbk, .int .i64 zbn, .string ⟨zbs.toArray⟩, .int .i64 zn, .int .i64 zm] 26) : Obj) = .cells ([.int .u8 zak, .int .i64 zan, .string ⟨zas.toArray⟩, .int .u8 zbk, .int .i64 zbn, .string ⟨zbs.toArray⟩, .int .i64 zn, .int .i64 zm] : List Value).toArray 26 from rfl]
  generalize w2.alloc (.cells ([.int .u8 zak, .int .i64 zan, .string ⟨zas.toArray⟩, .int .u8 zbk, .int .i64 zbn, .string ⟨zbs.toArray⟩, .int .i64 zn, .int .i64 zm] : List Value).toArray 26) = W0 at HBZ HNZ HBV3 ⊢
  refine wp_region_inv [25, 26, 27, 28, 29, 30, 31, 32, 8, 9, 10] (SureF W0 (.agg #[.int .u8 zak, .int .i64 zan, .string ⟨zas.toArray⟩, .int .u8 zbk, .int .i64 zbn, .string ⟨zbs.toArray⟩, .int .i64 zn, .int .i64 zm]) (.agg #[.int .u8 vk, .int .i64 vn, .string ⟨vs.toArray⟩]) t1 t2 t3) [undef, undef, undef, undef, undef, undef, undef, undef, undef, undef, undef] (by kernel_rfl) (by simp only [upd, List.zip_cons_cons, List.zip_nil_right, List.foldl_cons, List.foldl_nil, List.setIfInBounds_toArray, List.set_cons_succ, List.set_cons_zero]) ?start ?endd ?step
  case start => exact ⟨false, false, false, false, false, false, false, false, false, false, false, false, false, false, undef, undef, undef, undef, undef, undef, undef, undef, undef, undef, undef, by rfl, rfl, Ext.drew W0, nofun, nofun, nofun, nofun, nofun, nofun, nofun, nofun, nofun, nofun, nofun, ⟨nofun, nofun, nofun⟩, nofun, nofun, nofun⟩
  case step =>
    rintro ls xs W i ⟨b0, b1, b2, b3, b4, b5, b6, b7, b8, b9, b10, b11, b12, b13, x0, x1, x2, x3, x4, x5, x6, x7, x8, x9, x10, rfl, rfl, hx, i0, i1, i2, i3, i4, i5, i6, i7, al8, al9, al10, ds, s11, s12, s13⟩ hi
    obtain ⟨hun, o, ho, hall⟩ := mem_ready.1 hi
    have hlt := (Array.getElem?_eq_some_iff.1 ho).1
    have hcase : i = 0 ∨ i = 1 ∨ i = 2 ∨ i = 3 ∨ i = 4 ∨ i = 5 ∨ i = 6 ∨ i = 7 ∨ i = 8 ∨ i = 9 ∨ i = 10 ∨ i = 11 ∨ i = 12 ∨ i = 13 := by
      have h14 : i < 14 := hlt
      omega
    clear hlt
    rcases hcase with rfl | rfl | rfl | rfl | rfl | rfl | rfl | rfl | rfl | rfl | rfl | rfl | rfl | rfl
    · have hb : b0 = false := hun
      refine wpOp_of_list rfl ?_
      simp only [upd, List.zip_cons_cons, List.zip_nil_right, List.foldl_cons, List.foldl_nil, List.setIfInBounds_toArray, List.set_cons_succ, List.set_cons_zero]
      have p0 : W.cell? ⟨w2.heap.size, 0, none⟩ = some (.int .u8 zak) := (HBZ.out.ext hx).cell 0 _ rfl
      have p1 : W.cell? ⟨w2.heap.size, 1, none⟩ = some (.int .i64 zan) := (HBZ.out.ext hx).cell 1 _ rfl
      have p2 : W.cell? ⟨w2.heap.size, 2, none⟩ = some (.string ⟨zas.toArray⟩) := (HBZ.out.ext hx).cell 2 _ rfl
      have p3 : W.cell? ⟨w2.heap.size, 3, none⟩ = some (.int .u8 zbk) := (HBZ.out.ext hx).cell 3 _ rfl
      have p4 : W.cell? ⟨w2.heap.size, 4, none⟩ = some (.int .i64 zbn) := (HBZ.out.ext hx).cell 4 _ rfl
      have p5 : W.cell? ⟨w2.heap.size, 5, none⟩ = some (.string ⟨zbs.toArray⟩) := (HBZ.out.ext hx).cell 5 _ rfl
      have p6 : W.cell? ⟨w2.heap.size, 6, none⟩ = some (.int .i64 zn) := (HBZ.out.ext hx).cell 6 _ rfl
      have p7 : W.cell? ⟨w2.heap.size, 7, none⟩ = some (.int .i64 zm) := (HBZ.out.ext hx).cell 7 _ rfl
      go_wp2_with fail
      exact ⟨[(.agg #[.int .u8 zak, .int .i64 zan, .string ⟨zas.toArray⟩, .int .u8 zbk, .int .i64 zbn, .string ⟨zbs.toArray⟩, .int .i64 zn, .int .i64 zm]), x1, x2, x3, x4, x5, x6, x7, x8, x9, x10], by simp only [List.zip_cons_cons, List.zip_nil_right, List.foldl_cons, List.foldl_nil, List.setIfInBounds_toArray, List.set_cons_succ, List.set_cons_zero], true, b1, b2, b3, b4, b5, b6, b7, b8, b9, b10, b11, b12, b13, (.agg #[.int .u8 zak, .int .i64 zan, .string ⟨zas.toArray⟩, .int .u8 zbk, .int .i64 zbn, .string ⟨zbs.toArray⟩, .int .i64 zn, .int .i64 zm]), x1, x2, x3, x4, x5, x6, x7, x8, x9, x10, by rfl, rfl, hx, (fun _ => rfl), i1, i2, i3, i4, i5, i6, i7, al8, al9, al10, ds, s11, s12, s13⟩
    · have hb : b1 = false := hun
      refine wpOp_of_list rfl ?_
      simp only [upd, List.zip_cons_cons, List.zip_nil_right, List.foldl_cons, List.foldl_nil, List.setIfInBounds_toArray, List.set_cons_succ, List.set_cons_zero]
      have q0 : W.cell? ⟨w.heap.size, 0, none⟩ = some (.int .u8 vk) := (HBV3.out.ext hx).cell 0 _ rfl
      have q1 : W.cell? ⟨w.heap.size, 1, none⟩ = some (.int .i64 vn) := (HBV3.out.ext hx).cell 1 _ rfl
      have q2 : W.cell? ⟨w.heap.size, 2, none⟩ = some (.string ⟨vs.toArray⟩) := (HBV3.out.ext hx).cell 2 _ rfl
      go_wp2_with fail
      exact ⟨[x0, (.agg #[.int .u8 vk, .int .i64 vn, .string ⟨vs.toArray⟩]), x2, x3, x4, x5, x6, x7, x8, x9, x10], by simp only [List.zip_cons_cons, List.zip_nil_right, List.foldl_cons, List.foldl_nil, List.setIfInBounds_toArray, List.set_cons_succ, List.set_cons_zero], b0, true, b2, b3, b4, b5, b6, b7, b8, b9, b10, b11, b12, b13, x0, (.agg #[.int .u8 vk, .int .i64 vn, .string ⟨vs.toArray⟩]), x2, x3, x4, x5, x6, x7, x8, x9, x10, by rfl, rfl, hx, i0, (fun _ => rfl), i2, i3, i4, i5, i6, i7, al8, al9, al10, ds, s11, s12, s13⟩
    · have hb : b2 = false := hun
      obtain rfl := Option.some.inj ho
      simp [Region.binds] at hall
      obtain rfl : x0 = _ := i0 (by simp_all)
      obtain rfl : x1 = _ := i1 (by simp_all)
      clear hall hb hun
      refine wpOp_of_list rfl ?_
      simp only [upd, List.zip_cons_cons, List.zip_nil_right, List.foldl_cons, List.foldl_nil, List.setIfInBounds_toArray, List.set_cons_succ, List.set_cons_zero]
      go_wp2_with fail
      refine (HE.out _ HLEN.out).mono ?_
      rintro e W' ⟨rfl, hx'⟩
      go_wp2_with fail
      exact ⟨[(.agg #[.int .u8 zak, .int .i64 zan, .string ⟨zas.toArray⟩, .int .u8 zbk, .int .i64 zbn, .string ⟨zbs.toArray⟩, .int .i64 zn, .int .i64 zm]), (.agg #[.int .u8 vk, .int .i64 vn, .string ⟨vs.toArray⟩]), (tripV t1), x3, x4, x5, x6, x7, x8, x9, x10], by simp only [List.zip_cons_cons, List.zip_nil_right, List.foldl_cons, List.foldl_nil, List.setIfInBounds_toArray, List.set_cons_succ, List.set_cons_zero], b0, b1, true, b3, b4, b5, b6, b7, b8, b9, b10, b11, b12, b13, (.agg #[.int .u8 zak, .int .i64 zan, .string ⟨zas.toArray⟩, .int .u8 zbk, .int .i64 zbn, .string ⟨zbs.toArray⟩, .int .i64 zn, .int .i64 zm]), (.agg #[.int .u8 vk, .int .i64 vn, .string ⟨vs.toArray⟩]), (tripV t1), x3, x4, x5, x6, x7, x8, x9, x10, by rfl, rfl, (Ext.trans hx hx'), (fun _ => rfl), (fun _ => rfl), (fun _ => rfl), i3, i4, i5, i6, i7, (al8.ext hx'), (al9.ext hx'), (al10.ext hx'), ds, s11, s12, s13⟩
    · have hb : b3 = false := hun
      refine wpOp_of_list rfl ?_
      simp only [upd, List.zip_cons_cons, List.zip_nil_right, List.foldl_cons, List.foldl_nil, List.setIfInBounds_toArray, List.set_cons_succ, List.set_cons_zero]
      have p0 : W.cell? ⟨w2.heap.size, 0, none⟩ = some (.int .u8 zak) := (HBZ.out.ext hx).cell 0 _ rfl
      have p1 : W.cell? ⟨w2.heap.size, 1, none⟩ = some (.int .i64 zan) := (HBZ.out.ext hx).cell 1 _ rfl
      have p2 : W.cell? ⟨w2.heap.size, 2, none⟩ = some (.string ⟨zas.toArray⟩) := (HBZ.out.ext hx).cell 2 _ rfl
      have p3 : W.cell? ⟨w2.heap.size, 3, none⟩ = some (.int .u8 zbk) := (HBZ.out.ext hx).cell 3 _ rfl
      have p4 : W.cell? ⟨w2.heap.size, 4, none⟩ = some (.int .i64 zbn) := (HBZ.out.ext hx).cell 4 _ rfl
      have p5 : W.cell? ⟨w2.heap.size, 5, none⟩ = some (.string ⟨zbs.toArray⟩) := (HBZ.out.ext hx).cell 5 _ rfl
      have p6 : W.cell? ⟨w2.heap.size, 6, none⟩ = some (.int .i64 zn) := (HBZ.out.ext hx).cell 6 _ rfl
      have p7 : W.cell? ⟨w2.heap.size, 7, none⟩ = some (.int .i64 zm) := (HBZ.out.ext hx).cell 7 _ rfl
      go_wp2_with fail
      exact ⟨[x0, x1, x2, (.agg #[.int .u8 zak, .int .i64 zan, .string ⟨zas.toArray⟩, .int .u8 zbk, .int .i64 zbn, .string ⟨zbs.toArray⟩, .int .i64 zn, .int .i64 zm]), x4, x5, x6, x7, x8, x9, x10], by simp only [List.zip_cons_cons, List.zip_nil_right, List.foldl_cons, List.foldl_nil, List.setIfInBounds_toArray, List.set_cons_succ, List.set_cons_zero], b0, b1, b2, true, b4, b5, b6, b7, b8, b9, b10, b11, b12, b13, x0, x1, x2, (.agg #[.int .u8 zak, .int .i64 zan, .string ⟨zas.toArray⟩, .int .u8 zbk, .int .i64 zbn, .string ⟨zbs.toArray⟩, .int .i64 zn, .int .i64 zm]), x4, x5, x6, x7, x8, x9, x10, by rfl, rfl, hx, i0, i1, i2, (fun _ => rfl), i4, i5, i6, i7, al8, al9, al10, ds, s11, s12, s13⟩
    · have hb : b4 = false := hun
      refine wpOp_of_list rfl ?_
      simp only [upd, List.zip_cons_cons, List.zip_nil_right, List.foldl_cons, List.foldl_nil, List.setIfInBounds_toArray, List.set_cons_succ, List.set_cons_zero]
      have q0 : W.cell? ⟨w.heap.size, 0, none⟩ = some (.int .u8 vk) := (HBV3.out.ext hx).cell 0 _ rfl
      have q1 : W.cell? ⟨w.heap.size, 1, none⟩ = some (.int .i64 vn) := (HBV3.out.ext hx).cell 1 _ rfl
      have q2 : W.cell? ⟨w.heap.size, 2, none⟩ = some (.string ⟨vs.toArray⟩) := (HBV3.out.ext hx).cell 2 _ rfl
      go_wp2_with fail
      exact ⟨[x0, x1, x2, x3, (.agg #[.int .u8 vk, .int .i64 vn, .string ⟨vs.toArray⟩]), x5, x6, x7, x8, x9, x10], by simp only [List.zip_cons_cons, List.zip_nil_right, List.foldl_cons, List.foldl_nil, List.setIfInBounds_toArray, List.set_cons_succ, List.set_cons_zero], b0, b1, b2, b3, true, b5, b6, b7, b8, b9, b10, b11, b12, b13, x0, x1, x2, x3, (.agg #[.int .u8 vk, .int .i64 vn, .string ⟨vs.toArray⟩]), x5, x6, x7, x8, x9, x10, by rfl, rfl, hx, i0, i1, i2, i3, (fun _ => rfl), i5, i6, i7, al8, al9, al10, ds, s11, s12, s13⟩
    · have hb : b5 = false := hun
      obtain rfl := Option.some.inj ho
      simp [Region.binds] at hall
      obtain rfl : x3 = _ := i3 (by simp_all)
      obtain rfl : x4 = _ := i4 (by simp_all)
      clear hall hb hun
      refine wpOp_of_list rfl ?_
      simp only [upd, List.zip_cons_cons, List.zip_nil_right, List.foldl_cons, List.foldl_nil, List.setIfInBounds_toArray, List.set_cons_succ, List.set_cons_zero]
      go_wp2_with fail
      refine (HL.out _ HLEN.out).mono ?_
      rintro e W' ⟨rfl, hx'⟩
      go_wp2_with fail
      exact ⟨[x0, x1, x2, (.agg #[.int .u8 zak, .int .i64 zan, .string ⟨zas.toArray⟩, .int .u8 zbk, .int .i64 zbn, .string ⟨zbs.toArray⟩, .int .i64 zn, .int .i64 zm]), (.agg #[.int .u8 vk, .int .i64 vn, .string ⟨vs.toArray⟩]), (tripV t2), x6, x7, x8, x9, x10], by simp only [List.zip_cons_cons, List.zip_nil_right, List.foldl_cons, List.foldl_nil, List.setIfInBounds_toArray, List.set_cons_succ, List.set_cons_zero], b0, b1, b2, b3, b4, true, b6, b7, b8, b9, b10, b11, b12, b13, x0, x1, x2, (.agg #[.int .u8 zak, .int .i64 zan, .string ⟨zas.toArray⟩, .int .u8 zbk, .int .i64 zbn, .string ⟨zbs.toArray⟩, .int .i64 zn, .int .i64 zm]), (.agg #[.int .u8 vk, .int .i64 vn, .string ⟨vs.toArray⟩]), (tripV t2), x6, x7, x8, x9, x10, by rfl, rfl, (Ext.trans hx hx'), i0, i1, i2, (fun _ => rfl), (fun _ => rfl), (fun _ => rfl), i6, i7, (al8.ext hx'), (al9.ext hx'), (al10.ext hx'), ds, s11, s12, s13⟩
    · have hb : b6 = false := hun
      refine wpOp_of_list rfl ?_
      simp only [upd, List.zip_cons_cons, List.zip_nil_right, List.foldl_cons, List.foldl_nil, List.setIfInBounds_toArray, List.set_cons_succ, List.set_cons_zero]
      have p0 : W.cell? ⟨w2.heap.size, 0, none⟩ = some (.int .u8 zak) := (HBZ.out.ext hx).cell 0 _ rfl
      have p1 : W.cell? ⟨w2.heap.size, 1, none⟩ = some (.int .i64 zan) := (HBZ.out.ext hx).cell 1 _ rfl
      have p2 : W.cell? ⟨w2.heap.size, 2, none⟩ = some (.string ⟨zas.toArray⟩) := (HBZ.out.ext hx).cell 2 _ rfl
      have p3 : W.cell? ⟨w2.heap.size, 3, none⟩ = some (.int .u8 zbk) := (HBZ.out.ext hx).cell 3 _ rfl
      have p4 : W.cell? ⟨w2.heap.size, 4, none⟩ = some (.int .i64 zbn) := (HBZ.out.ext hx).cell 4 _ rfl
      have p5 : W.cell? ⟨w2.heap.size, 5, none⟩ = some (.string ⟨zbs.toArray⟩) := (HBZ.out.ext hx).cell 5 _ rfl
      have p6 : W.cell? ⟨w2.heap.size, 6, none⟩ = some (.int .i64 zn) := (HBZ.out.ext hx).cell 6 _ rfl
      have p7 : W.cell? ⟨w2.heap.size, 7, none⟩ = some (.int .i64 zm) := (HBZ.out.ext hx).cell 7 _ rfl
      go_wp2_with fail
      exact ⟨[x0, x1, x2, x3, x4, x5, (.agg #[.int .u8 zak, .int .i64 zan, .string ⟨zas.toArray⟩, .int .u8 zbk, .int .i64 zbn, .string ⟨zbs.toArray⟩, .int .i64 zn, .int .i64 zm]), x7, x8, x9, x10], by simp only [List.zip_cons_cons, List.zip_nil_right, List.foldl_cons, List.foldl_nil, List.setIfInBounds_toArray, List.set_cons_succ, List.set_cons_zero], b0, b1, b2, b3, b4, b5, true, b7, b8, b9, b10, b11, b12, b13, x0, x1, x2, x3, x4, x5, (.agg #[.int .u8 zak, .int .i64 zan, .string ⟨zas.toArray⟩, .int .u8 zbk, .int .i64 zbn, .string ⟨zbs.toArray⟩, .int .i64 zn, .int .i64 zm]), x7, x8, x9, x10, by rfl, rfl, hx, i0, i1, i2, i3, i4, i5, (fun _ => rfl), i7, al8, al9, al10, ds, s11, s12, s13⟩
    · have hb : b7 = false := hun
      obtain rfl := Option.some.inj ho
      simp [Region.binds] at hall
      obtain rfl : x6 = _ := i6 (by simp_all)
      clear hall hb hun
      refine wpOp_of_list rfl ?_
      simp only [upd, List.zip_cons_cons, List.zip_nil_right, List.foldl_cons, List.foldl_nil, List.setIfInBounds_toArray, List.set_cons_succ, List.set_cons_zero]
      go_wp2_with fail
      refine (HN.out _).mono ?_
      rintro e W' ⟨rfl, hx'⟩
      go_wp2_with fail
      exact ⟨[x0, x1, x2, x3, x4, x5, (.agg #[.int .u8 zak, .int .i64 zan, .string ⟨zas.toArray⟩, .int .u8 zbk, .int .i64 zbn, .string ⟨zbs.toArray⟩, .int .i64 zn, .int .i64 zm]), (tripV t3), x8, x9, x10], by simp only [List.zip_cons_cons, List.zip_nil_right, List.foldl_cons, List.foldl_nil, List.setIfInBounds_toArray, List.set_cons_succ, List.set_cons_zero], b0, b1, b2, b3, b4, b5, b6, true, b8, b9, b10, b11, b12, b13, x0, x1, x2, x3, x4, x5, (.agg #[.int .u8 zak, .int .i64 zan, .string ⟨zas.toArray⟩, .int .u8 zbk, .int .i64 zbn, .string ⟨zbs.toArray⟩, .int .i64 zn, .int .i64 zm]), (tripV t3), x8, x9, x10, by rfl, rfl, (Ext.trans hx hx'), i0, i1, i2, i3, i4, i5, (fun _ => rfl), (fun _ => rfl), (al8.ext hx'), (al9.ext hx'), (al10.ext hx'), ds, s11, s12, s13⟩
    · have hb : b8 = false := hun
      refine wpOp_of_list rfl ?_
      have hc : b11 = false := by
        cases hq : b11 with
        | false => rfl
        | true => rw [s11 hq] at hb; cases hb
      simp only [upd, List.zip_cons_cons, List.zip_nil_right, List.foldl_cons, List.foldl_nil, List.setIfInBounds_toArray, List.set_cons_succ, List.set_cons_zero]
      go_wp2_with fail
      exact ⟨[x0, x1, x2, x3, x4, x5, x6, x7, (.pointer (some ⟨W.heap.size, 0, none⟩)), x9, x10], by simp only [List.zip_cons_cons, List.zip_nil_right, List.foldl_cons, List.foldl_nil, List.setIfInBounds_toArray, List.set_cons_succ, List.set_cons_zero], b0, b1, b2, b3, b4, b5, b6, b7, true, b9, b10, b11, b12, b13, x0, x1, x2, x3, x4, x5, x6, x7, (.pointer (some ⟨W.heap.size, 0, none⟩)), x9, x10, by rfl, rfl, (Ext.trans hx (ext_new _ _)), i0, i1, i2, i3, i4, i5, i6, i7, (Al.new hx.size hc), (al9.ext (ext_new _ _)), (al10.ext (ext_new _ _)), ⟨fun _ h => (al9.ne h).symm, fun _ h => (al10.ne h).symm, ds.2.2⟩, (fun _ => rfl), s12, s13⟩
    · have hb : b9 = false := hun
      refine wpOp_of_list rfl ?_
      have hc : b12 = false := by
        cases hq : b12 with
        | false => rfl
        | true => rw [s12 hq] at hb; cases hb
      simp only [upd, List.zip_cons_cons, List.zip_nil_right, List.foldl_cons, List.foldl_nil, List.setIfInBounds_toArray, List.set_cons_succ, List.set_cons_zero]
      go_wp2_with fail
      exact ⟨[x0, x1, x2, x3, x4, x5, x6, x7, x8, (.pointer (some ⟨W.heap.size, 0, none⟩)), x10], by simp only [List.zip_cons_cons, List.zip_nil_right, List.foldl_cons, List.foldl_nil, List.setIfInBounds_toArray, List.set_cons_succ, List.set_cons_zero], b0, b1, b2, b3, b4, b5, b6, b7, b8, true, b10, b11, b12, b13, x0, x1, x2, x3, x4, x5, x6, x7, x8, (.pointer (some ⟨W.heap.size, 0, none⟩)), x10, by rfl, rfl, (Ext.trans hx (ext_new _ _)), i0, i1, i2, i3, i4, i5, i6, i7, (al8.ext (ext_new _ _)), (Al.new hx.size hc), (al10.ext (ext_new _ _)), ⟨fun h _ => al8.ne h, ds.2.1, fun _ h => (al10.ne h).symm⟩, s11, (fun _ => rfl), s13⟩
    · have hb : b10 = false := hun
      refine wpOp_of_list rfl ?_
      have hc : b13 = false := by
        cases hq : b13 with
        | false => rfl
        | true => rw [s13 hq] at hb; cases hb
      simp only [upd, List.zip_cons_cons, List.zip_nil_right, List.foldl_cons, List.foldl_nil, List.setIfInBounds_toArray, List.set_cons_succ, List.set_cons_zero]
      go_wp2_with fail
      exact ⟨[x0, x1, x2, x3, x4, x5, x6, x7, x8, x9, (.pointer (some ⟨W.heap.size, 0, none⟩))], by simp only [List.zip_cons_cons, List.zip_nil_right, List.foldl_cons, List.foldl_nil, List.setIfInBounds_toArray, List.set_cons_succ, List.set_cons_zero], b0, b1, b2, b3, b4, b5, b6, b7, b8, b9, true, b11, b12, b13, x0, x1, x2, x3, x4, x5, x6, x7, x8, x9, (.pointer (some ⟨W.heap.size, 0, none⟩)), by rfl, rfl, (Ext.trans hx (ext_new _ _)), i0, i1, i2, i3, i4, i5, i6, i7, (al8.ext (ext_new _ _)), (al9.ext (ext_new _ _)), (Al.new hx.size hc), ⟨ds.1, fun h _ => al8.ne h, fun h _ => al9.ne h⟩, s11, s12, (fun _ => rfl)⟩
    · have hb : b11 = false := hun
      obtain rfl := Option.some.inj ho
      simp [Region.binds] at hall
      obtain rfl : x2 = _ := i2 (by simp_all)
      have hk : b8 = true := by simp_all
      obtain ⟨g, rfl, hg, hblk⟩ := al8 hk
      have hst := Al.stored (t := t1) hg hblk
      rw [hb] at hblk
      have c0 : W.cell? ⟨g, 0, none⟩ = some (.bool false) := hblk.cell 0 _ rfl
      have c1 : W.cell? ⟨g, 1, none⟩ = some (.bool false) := hblk.cell 1 _ rfl
      have c2 : W.cell? ⟨g, 2, none⟩ = some (.bool false) := hblk.cell 2 _ rfl
      have f0 : W.frozen? ⟨g, 0, none⟩ = false := hblk.free 0
      have f1 : W.frozen? ⟨g, 1, none⟩ = false := hblk.free 1
      have f2 : W.frozen? ⟨g, 2, none⟩ = false := hblk.free 2
      have HK := Lib.hid hk
      clear hall hb hk
      unfold tripV
      refine wpOp_of_list rfl ?_
      simp only [upd, List.zip_cons_cons, List.zip_nil_right, List.foldl_cons, List.foldl_nil, List.setIfInBounds_toArray, List.set_cons_succ, List.set_cons_zero]
      go_wp2_with fail
      exact ⟨[x0, x1, (.agg #[.bool t1.1, .bool t1.2.1, .bool t1.2.2]), x3, x4, x5, x6, x7, (.pointer (some ⟨g, 0, none⟩)), x9, x10], by simp only [List.zip_cons_cons, List.zip_nil_right, List.foldl_cons, List.foldl_nil, List.setIfInBounds_toArray, List.set_cons_succ, List.set_cons_zero], b0, b1, b2, b3, b4, b5, b6, b7, b8, b9, b10, true, b12, b13, x0, x1, (.agg #[.bool t1.1, .bool t1.2.1, .bool t1.2.2]), x3, x4, x5, x6, x7, (.pointer (some ⟨g, 0, none⟩)), x9, x10, by rfl, rfl, (ext_put3 hx hg t1), i0, i1, (fun _ => rfl), i3, i4, i5, i6, i7, (fun h => hst rfl), (al9.beside (fun h => (ds.1 HK.out h).symm)), (al10.beside (fun h => (ds.2.1 HK.out h).symm)), ds, (fun _ => HK.out), s12, s13⟩
    · have hb : b12 = false := hun
      obtain rfl := Option.some.inj ho
      simp [Region.binds] at hall
      obtain rfl : x5 = _ := i5 (by simp_all)
      have hk : b9 = true := by simp_all
      obtain ⟨g, rfl, hg, hblk⟩ := al9 hk
      have hst := Al.stored (t := t2) hg hblk
      rw [hb] at hblk
      have c0 : W.cell? ⟨g, 0, none⟩ = some (.bool false) := hblk.cell 0 _ rfl
      have c1 : W.cell? ⟨g, 1, none⟩ = some (.bool false) := hblk.cell 1 _ rfl
      have c2 : W.cell? ⟨g, 2, none⟩ = some (.bool false) := hblk.cell 2 _ rfl
      have f0 : W.frozen? ⟨g, 0, none⟩ = false := hblk.free 0
      have f1 : W.frozen? ⟨g, 1, none⟩ = false := hblk.free 1
      have f2 : W.frozen? ⟨g, 2, none⟩ = false := hblk.free 2
      have HK := Lib.hid hk
      clear hall hb hk
      unfold tripV
      refine wpOp_of_list rfl ?_
      simp only [upd, List.zip_cons_cons, List.zip_nil_right, List.foldl_cons, List.foldl_nil, List.setIfInBounds_toArray, List.set_cons_succ, List.set_cons_zero]
      go_wp2_with fail
      exact ⟨[x0, x1, x2, x3, x4, (.agg #[.bool t2.1, .bool t2.2.1, .bool t2.2.2]), x6, x7, x8, (.pointer (some ⟨g, 0, none⟩)), x10], by simp only [List.zip_cons_cons, List.zip_nil_right, List.foldl_cons, List.foldl_nil, List.setIfInBounds_toArray, List.set_cons_succ, List.set_cons_zero], b0, b1, b2, b3, b4, b5, b6, b7, b8, b9, b10, b11, true, b13, x0, x1, x2, x3, x4, (.agg #[.bool t2.1, .bool t2.2.1, .bool t2.2.2]), x6, x7, x8, (.pointer (some ⟨g, 0, none⟩)), x10, by rfl, rfl, (ext_put3 hx hg t2), i0, i1, i2, i3, i4, (fun _ => rfl), i6, i7, (al8.beside (fun h => ds.1 h HK.out)), (fun h => hst rfl), (al10.beside (fun h => (ds.2.2 HK.out h).symm)), ds, s11, (fun _ => HK.out), s13⟩
    · have hb : b13 = false := hun
      obtain rfl := Option.some.inj ho
      simp [Region.binds] at hall
      obtain rfl : x7 = _ := i7 (by simp_all)
      have hk : b10 = true := by simp_all
      obtain ⟨g, rfl, hg, hblk⟩ := al10 hk
      have hst := Al.stored (t := t3) hg hblk
      rw [hb] at hblk
      have c0 : W.cell? ⟨g, 0, none⟩ = some (.bool false) := hblk.cell 0 _ rfl
      have c1 : W.cell? ⟨g, 1, none⟩ = some (.bool false) := hblk.cell 1 _ rfl
      have c2 : W.cell? ⟨g, 2, none⟩ = some (.bool false) := hblk.cell 2 _ rfl
      have f0 : W.frozen? ⟨g, 0, none⟩ = false := hblk.free 0
      have f1 : W.frozen? ⟨g, 1, none⟩ = false := hblk.free 1
      have f2 : W.frozen? ⟨g, 2, none⟩ = false := hblk.free 2
      have HK := Lib.hid hk
      clear hall hb hk
      unfold tripV
      refine wpOp_of_list rfl ?_
      simp only [upd, List.zip_cons_cons, List.zip_nil_right, List.foldl_cons, List.foldl_nil, List.setIfInBounds_toArray, List.set_cons_succ, List.set_cons_zero]
      go_wp2_with fail
      exact ⟨[x0, x1, x2, x3, x4, x5, x6, (.agg #[.bool t3.1, .bool t3.2.1, .bool t3.2.2]), x8, x9, (.pointer (some ⟨g, 0, none⟩))], by simp only [List.zip_cons_cons, List.zip_nil_right, List.foldl_cons, List.foldl_nil, List.setIfInBounds_toArray, List.set_cons_succ, List.set_cons_zero], b0, b1, b2, b3, b4, b5, b6, b7, b8, b9, b10, b11, b12, true, x0, x1, x2, x3, x4, x5, x6, (.agg #[.bool t3.1, .bool t3.2.1, .bool t3.2.2]), x8, x9, (.pointer (some ⟨g, 0, none⟩)), by rfl, rfl, (ext_put3 hx hg t3), i0, i1, i2, i3, i4, i5, i6, (fun _ => rfl), (al8.beside (fun h => ds.2.1 h HK.out)), (al9.beside (fun h => ds.2.2 h HK.out)), (fun h => hst rfl), ds, s11, s12, (fun _ => HK.out)⟩
  case endd =>
    rintro ls xs W ⟨b0, b1, b2, b3, b4, b5, b6, b7, b8, b9, b10, b11, b12, b13, x0, x1, x2, x3, x4, x5, x6, x7, x8, x9, x10, rfl, rfl, hx, i0, i1, i2, i3, i4, i5, i6, i7, al8, al9, al10, ds, s11, s12, s13⟩ hr
    obtain rfl : b0 = true := by
      cases hb : b0 with
      | true => rfl
      | false =>
        subst hb
        refine absurd (show 0 ∈ ([] : List Nat) from ?_) List.not_mem_nil
        rw [← hr]
        exact mem_ready.2 ⟨rfl, _, rfl, by simp [Region.binds]⟩
    obtain rfl : b1 = true := by
      cases hb : b1 with
      | true => rfl
      | false =>
        subst hb
        refine absurd (show 1 ∈ ([] : List Nat) from ?_) List.not_mem_nil
        rw [← hr]
        exact mem_ready.2 ⟨rfl, _, rfl, by simp [Region.binds]⟩
    obtain rfl : b2 = true := by
      cases hb : b2 with
      | true => rfl
      | false =>
        subst hb
        refine absurd (show 2 ∈ ([] : List Nat) from ?_) List.not_mem_nil
        rw [← hr]
        exact mem_ready.2 ⟨rfl, _, rfl, by simp [Region.binds]⟩
    obtain rfl : b3 = true := by
      cases hb : b3 with
      | true => rfl
      | false =>
        subst hb
        refine absurd (show 3 ∈ ([] : List Nat) from ?_) List.not_mem_nil
        rw [← hr]
        exact mem_ready.2 ⟨rfl, _, rfl, by simp [Region.binds]⟩
    obtain rfl : b4 = true := by
      cases hb : b4 with
      | true => rfl
      | false =>
        subst hb
        refine absurd (show 4 ∈ ([] : List Nat) from ?_) List.not_mem_nil
        rw [← hr]
        exact mem_ready.2 ⟨rfl, _, rfl, by simp [Region.binds]⟩
    obtain rfl : b5 = true := by
      cases hb : b5 with
      | true => rfl
      | false =>
        subst hb
        refine absurd (show 5 ∈ ([] : List Nat) from ?_) List.not_mem_nil
        rw [← hr]
        exact mem_ready.2 ⟨rfl, _, rfl, by simp [Region.binds]⟩
    obtain rfl : b6 = true := by
      cases hb : b6 with
      | true => rfl
      | false =>
        subst hb
        refine absurd (show 6 ∈ ([] : List Nat) from ?_) List.not_mem_nil
        rw [← hr]
        exact mem_ready.2 ⟨rfl, _, rfl, by simp [Region.binds]⟩
    obtain rfl : b7 = true := by
      cases hb : b7 with
      | true => rfl
      | false =>
        subst hb
        refine absurd (show 7 ∈ ([] : List Nat) from ?_) List.not_mem_nil
        rw [← hr]
        exact mem_ready.2 ⟨rfl, _, rfl, by simp [Region.binds]⟩
    obtain rfl : b8 = true := by
      cases hb : b8 with
      | true => rfl
      | false =>
        subst hb
        refine absurd (show 8 ∈ ([] : List Nat) from ?_) List.not_mem_nil
        rw [← hr]
        exact mem_ready.2 ⟨rfl, _, rfl, by simp [Region.binds]⟩
    obtain rfl : b9 = true := by
      cases hb : b9 with
      | true => rfl
      | false =>
        subst hb
        refine absurd (show 9 ∈ ([] : List Nat) from ?_) List.not_mem_nil
        rw [← hr]
        exact mem_ready.2 ⟨rfl, _, rfl, by simp [Region.binds]⟩
    obtain rfl : b10 = true := by
      cases hb : b10 with
      | true => rfl
      | false =>
        subst hb
        refine absurd (show 10 ∈ ([] : List Nat) from ?_) List.not_mem_nil
        rw [← hr]
        exact mem_ready.2 ⟨rfl, _, rfl, by simp [Region.binds]⟩
    obtain rfl : b11 = true := by
      cases hb : b11 with
      | true => rfl
      | false =>
        subst hb
        refine absurd (show 11 ∈ ([] : List Nat) from ?_) List.not_mem_nil
        rw [← hr]
        exact mem_ready.2 ⟨rfl, _, rfl, by simp [Region.binds]⟩
    obtain rfl : b12 = true := by
      cases hb : b12 with
      | true => rfl
      | false =>
        subst hb
        refine absurd (show 12 ∈ ([] : List Nat) from ?_) List.not_mem_nil
        rw [← hr]
        exact mem_ready.2 ⟨rfl, _, rfl, by simp [Region.binds]⟩
    obtain rfl : b13 = true := by
      cases hb : b13 with
      | true => rfl
      | false =>
        subst hb
        refine absurd (show 13 ∈ ([] : List Nat) from ?_) List.not_mem_nil
        rw [← hr]
        exact mem_ready.2 ⟨rfl, _, rfl, by simp [Region.binds]⟩
    obtain rfl : x0 = _ := i0 rfl
    obtain rfl : x1 = _ := i1 rfl
    obtain rfl : x2 = _ := i2 rfl
    obtain rfl : x3 = _ := i3 rfl
    obtain rfl : x4 = _ := i4 rfl
    obtain rfl : x5 = _ := i5 rfl
    obtain rfl : x6 = _ := i6 rfl
    obtain rfl : x7 = _ := i7 rfl
    obtain ⟨G8, rfl, -, h8⟩ := al8 rfl
    obtain ⟨G9, rfl, -, h9⟩ := al9 rfl
    obtain ⟨G10, rfl, -, h10⟩ := al10 rfl
    rw [if_pos rfl] at h8 h9 h10
    obtain ⟨e0, e1, e2⟩ := t1
    obtain ⟨f0, f1, f2⟩ := t2
    obtain ⟨n0, n1', n2⟩ := t3
    have HA8 := Lib.hid (show Blk W G8 [.bool e0, .bool e1, .bool e2] 40 from h8)
    have HA9 := Lib.hid (show Blk W G9 [.bool f0, .bool f1, .bool f2] 40 from h9)
    have HA10 := Lib.hid (show Blk W G10 [.bool n0, .bool n1', .bool n2] 40 from h10)
    have HXW := Lib.hid (Ext.trans (Ext.trans HX2.out HNZ.out) hx)
    have HBVW := Lib.hid (HBV3.out.ext hx)
    clear hr hx i0 i1 i2 i3 i4 i5 i6 i7 al8 al9 al10 ds s11 s12 s13 h8 h9 h10
    unfold tripV
    simp only
    simp only [upd, List.zip_cons_cons, List.zip_nil_right, List.foldl_cons, List.foldl_nil, List.setIfInBounds_toArray, List.set_cons_succ, List.set_cons_zero]
    go_wp2_with fail
    go_loopw [13, 14, 35] (fun _ _ i wr => ∃ j : Nat, j ≤ N ∧ i = .int .i64 j ∧ Ext W wr) (fun _ _ i _ => N - (intOf i).toNat)
    case atStart => exact ⟨0, Nat.zero_le _, rfl, Ext.keeps.refl _⟩
    case round =>
      obtain ⟨j, hj, rfl, hx⟩ := hrel
      have HX := Lib.hid hx
      clear hx
      by_cases hlt : j < N
      · have hjl : j < x.length := by have := HNN.out; omega
        obtain ⟨g, off, rfl, d0, d1, d2⟩ := HAT.out j hjl
        have x0 := (HX.out.cell (lt_of_cell ((HXW.out.cell (lt_of_cell d0)).trans d0))).trans ((HXW.out.cell (lt_of_cell d0)).trans d0)
        have x1 := (HX.out.cell (lt_of_cell ((HXW.out.cell (lt_of_cell d1)).trans d1))).trans ((HXW.out.cell (lt_of_cell d1)).trans d1)
        have x2 := (HX.out.cell (lt_of_cell ((HXW.out.cell (lt_of_cell d2)).trans d2))).trans ((HXW.out.cell (lt_of_cell d2)).trans d2)
        have HS := Lib.hid (HSURE.out _ (List.getElem_mem hjl))
        have HCE := Lib.hid (HPE.out HLEN.out _ (List.getElem_mem hjl))
        have HCL := Lib.hid (HPL.out HLEN.out _ (List.getElem_mem hjl))
        generalize x[j] = y at x0 x1 x2 HS HCE HCL
        have ha3 := knownT_three y ⟨vk, vn, vs⟩ (decide (cmpV y ⟨vk, vn, vs⟩ = 0))
        have hb3 := knownT_three y ⟨vk, vn, vs⟩ (decide (cmpV y ⟨vk, vn, vs⟩ < 0))
        obtain ⟨A, hA⟩ : ∃ A, equalT y ⟨vk, vn, vs⟩ = A := ⟨_, rfl⟩
        obtain ⟨C, hC⟩ : ∃ C, lessT y ⟨vk, vn, vs⟩ = C := ⟨_, rfl⟩
        rw [show knownT y ⟨vk, vn, vs⟩ (decide (cmpV y ⟨vk, vn, vs⟩ = 0)) = A from hA] at ha3
        rw [show knownT y ⟨vk, vn, vs⟩ (decide (cmpV y ⟨vk, vn, vs⟩ < 0)) = C from hC] at hb3
        rw [hA] at HS HCE
        rw [hC] at HS HCL
        clear hA hC d0 d1 d2
        obtain ⟨yk, yn, ys⟩ := y
        unfold V.val at HCE HCL
        simp only at x0 x1 x2 HCE HCL
        have HAB := Lib.hid (And.intro ha3 hb3)
        clear ha3 hb3
        go_upto_region 10 with fail
        have HY0 := Lib.hid (Blk.new wr [.int .u8 yk, .int .i64 yn, .string ⟨ys.toArray⟩] 24)
        have HNY := Lib.hid (show Ext W (wr.alloc (.cells #[.int .u8 yk, .int .i64 yn, .string ⟨ys.toArray⟩] 24)) from Ext.trans HX.out (ext_new wr (.cells #[.int .u8 yk, .int .i64 yn, .string ⟨ys.toArray⟩] 24)))
        rw [show ((.cells #[.int .u8 yk, .int .i64 yn, .string ⟨ys.toArray⟩] 24) : Obj) = .cells ([.int .u8 yk, .int .i64 yn, .string ⟨ys.toArray⟩] : List Value).toArray 24 from rfl] at HNY
        try rw [show ((.cells #[.int .u8 yk, .int .i64 yn, .string ⟨ys.toArray⟩] 24) : Obj) = .cells ([.int .u8 yk, .int .i64 yn, .string ⟨ys.toArray⟩] : List Value).toArray 24 from rfl]
        generalize wr.alloc (.cells ([.int .u8 yk, .int .i64 yn, .string ⟨ys.toArray⟩] : List Value).toArray 24) = Wy at HY0 HNY ⊢
        have HVY := Lib.hid (HBVW.out.ext HNY.out)
        have y0 := later_cell (w := Wy) (b := wr.heap.size) (fun j u hj => HY0.out.cell j u hj) 0 (.int .u8 yk) rfl
        have y1 := later_cell (w := Wy) (b := wr.heap.size) (fun j u hj => HY0.out.cell j u hj) 1 (.int .i64 yn) rfl
        have y2 := later_cell (w := Wy) (b := wr.heap.size) (fun j u hj => HY0.out.cell j u hj) 2 (.string ⟨ys.toArray⟩) rfl
        have v0 := later_cell (w := Wy) (b := w.heap.size) (fun j u hj => HVY.out.cell j u hj) 0 (.int .u8 vk) rfl
        have v1 := later_cell (w := Wy) (b := w.heap.size) (fun j u hj => HVY.out.cell j u hj) 1 (.int .i64 vn) rfl
        have v2 := later_cell (w := Wy) (b := w.heap.size) (fun j u hj => HVY.out.cell j u hj) 2 (.string ⟨vs.toArray⟩) rfl
        refine wp_region_segs Ext Ext.keeps [([0, 1, 3, 4], some 2), ([], some 5), ([6, 7], none)] (by kernel_rfl) (by kernel_rfl) (fun c a a' w e h => (by exact ⟨e ▸ h.1, h.2⟩)) ?_
        simp only [pickSegs, pickOps, List.map_cons, List.map_nil, Option.map_some, Option.map_none, Option.getD_some, List.getElem?_toArray, List.getElem?_cons_zero, List.getElem?_cons_succ]
        refine wpSegs_some fun K hK => ?_
        repeat go_big_quiet_step (fail)
        refine wpQuiet_nil ?_
        clear y0 y1 y2 v0 v1 v2
        go_wp2_with fail
        refine (HCE.out _).mono ?_
        rintro e W5 ⟨rfl, hx⟩
        have HH5 := Lib.hid hx
        clear hx
        go_wp2_with fail
        refine ⟨HH5.out, hK _ _ ?_⟩
        clear hK K
        refine wpSegs_some fun K hK => ?_
        refine wpQuiet_nil ?_
        go_wp2_with fail
        refine (HCL.out _).mono ?_
        rintro e W6 ⟨rfl, hx⟩
        have HH6 := Lib.hid hx
        clear hx
        go_wp2_with fail
        refine ⟨HH6.out, hK _ _ ?_⟩
        clear hK K
        refine wpSegs_none ?_
        repeat go_big_quiet_step (fail)
        refine wpQuiet_nil (wpSegs_nil ?_)
        have HX6 := Lib.hid (Ext.trans (Ext.trans HH5.out HH6.out) (Ext.keeps.refl _))
        have HXD := Lib.hid (Ext.trans (Ext.drew Wy) HX6.out)
        have HW6 := Lib.hid (Ext.trans HNY.out HXD.out)
        have HY6 := Lib.hid (HY0.out.ext HXD.out)
        have HB8 := Lib.hid (HA8.out.ext HW6.out)
        have HB9 := Lib.hid (HA9.out.ext HW6.out)
        have HB10 := Lib.hid (HA10.out.ext HW6.out)
        have y0 : W6.cell? ⟨wr.heap.size, 0, none⟩ = some (.int .u8 yk) := HY6.out.cell 0 _ rfl
        obtain ⟨ha, hb⟩ := HAB.out
        obtain ⟨s1, s2, s3, s4⟩ := HS.out
        rcases ha with rfl | rfl | rfl
        · rcases hb with rfl | rfl | rfl
          · skip
            have q8 : W6.cell? ⟨G8, 0, none⟩ = some (.bool true) := by have h := HB8.out.cell 0 _ rfl; rwa [show e0 = true from s1] at h
            have q9 : W6.cell? ⟨G9, 0, none⟩ = some (.bool true) := by have h := HB9.out.cell 0 _ rfl; rwa [show f0 = true from s2] at h
            clear s1 s2
            by_cases hk : yk = 0
            · have q10 : W6.cell? ⟨G10, 2, none⟩ = some (.bool true) := by have h := HB10.out.cell 2 _ rfl; rwa [show n2 = true from s3 hk] at h
              subst hk
              clear s3 s4
              go_wp2_with fail
              go_roundw
              case rel => exact ⟨j + 1, by omega, by go_num, HW6.out⟩
              case measure => simp [intOf]; omega
            · have q10 : W6.cell? ⟨G10, 0, none⟩ = some (.bool true) := by have h := HB10.out.cell 0 _ rfl; rwa [show n0 = true from s4 hk] at h
              have k1 : (yk == (0 : Int)) = false := beq_eq_false_iff_ne.2 hk
              have k2 : (yk != (0 : Int)) = true := bne_iff_ne.2 hk
              clear s3 s4 hk
              go_wp2_with fail
              go_roundw
              case rel => exact ⟨j + 1, by omega, by go_num, HW6.out⟩
              case measure => simp [intOf]; omega
          · skip
            have q8 : W6.cell? ⟨G8, 0, none⟩ = some (.bool true) := by have h := HB8.out.cell 0 _ rfl; rwa [show e0 = true from s1] at h
            have q9 : W6.cell? ⟨G9, 1, none⟩ = some (.bool true) := by have h := HB9.out.cell 1 _ rfl; rwa [show f1 = true from s2] at h
            clear s1 s2
            by_cases hk : yk = 0
            · have q10 : W6.cell? ⟨G10, 2, none⟩ = some (.bool true) := by have h := HB10.out.cell 2 _ rfl; rwa [show n2 = true from s3 hk] at h
              subst hk
              clear s3 s4
              go_wp2_with fail
              go_roundw
              case rel => exact ⟨j + 1, by omega, by go_num, HW6.out⟩
              case measure => simp [intOf]; omega
            · have q10 : W6.cell? ⟨G10, 0, none⟩ = some (.bool true) := by have h := HB10.out.cell 0 _ rfl; rwa [show n0 = true from s4 hk] at h
              have k1 : (yk == (0 : Int)) = false := beq_eq_false_iff_ne.2 hk
              have k2 : (yk != (0 : Int)) = true := bne_iff_ne.2 hk
              clear s3 s4 hk
              go_wp2_with fail
              go_roundw
              case rel => exact ⟨j + 1, by omega, by go_num, HW6.out⟩
              case measure => simp [intOf]; omega
          · skip
            have q8 : W6.cell? ⟨G8, 0, none⟩ = some (.bool true) := by have h := HB8.out.cell 0 _ rfl; rwa [show e0 = true from s1] at h
            have q9 : W6.cell? ⟨G9, 2, none⟩ = some (.bool true) := by have h := HB9.out.cell 2 _ rfl; rwa [show f2 = true from s2] at h
            clear s1 s2
            by_cases hk : yk = 0
            · have q10 : W6.cell? ⟨G10, 2, none⟩ = some (.bool true) := by have h := HB10.out.cell 2 _ rfl; rwa [show n2 = true from s3 hk] at h
              subst hk
              clear s3 s4
              go_wp2_with fail
              go_roundw
              case rel => exact ⟨j + 1, by omega, by go_num, HW6.out⟩
              case measure => simp [intOf]; omega
            · have q10 : W6.cell? ⟨G10, 0, none⟩ = some (.bool true) := by have h := HB10.out.cell 0 _ rfl; rwa [show n0 = true from s4 hk] at h
              have k1 : (yk == (0 : Int)) = false := beq_eq_false_iff_ne.2 hk
              have k2 : (yk != (0 : Int)) = true := bne_iff_ne.2 hk
              clear s3 s4 hk
              go_wp2_with fail
              go_roundw
              case rel => exact ⟨j + 1, by omega, by go_num, HW6.out⟩
              case measure => simp [intOf]; omega
        · rcases hb with rfl | rfl | rfl
          · skip
            have q8 : W6.cell? ⟨G8, 1, none⟩ = some (.bool true) := by have h := HB8.out.cell 1 _ rfl; rwa [show e1 = true from s1] at h
            have q9 : W6.cell? ⟨G9, 0, none⟩ = some (.bool true) := by have h := HB9.out.cell 0 _ rfl; rwa [show f0 = true from s2] at h
            clear s1 s2
            by_cases hk : yk = 0
            · have q10 : W6.cell? ⟨G10, 2, none⟩ = some (.bool true) := by have h := HB10.out.cell 2 _ rfl; rwa [show n2 = true from s3 hk] at h
              subst hk
              clear s3 s4
              go_wp2_with fail
              go_roundw
              case rel => exact ⟨j + 1, by omega, by go_num, HW6.out⟩
              case measure => simp [intOf]; omega
            · have q10 : W6.cell? ⟨G10, 0, none⟩ = some (.bool true) := by have h := HB10.out.cell 0 _ rfl; rwa [show n0 = true from s4 hk] at h
              have k1 : (yk == (0 : Int)) = false := beq_eq_false_iff_ne.2 hk
              have k2 : (yk != (0 : Int)) = true := bne_iff_ne.2 hk
              clear s3 s4 hk
              go_wp2_with fail
              go_roundw
              case rel => exact ⟨j + 1, by omega, by go_num, HW6.out⟩
              case measure => simp [intOf]; omega
          · skip
            have q8 : W6.cell? ⟨G8, 1, none⟩ = some (.bool true) := by have h := HB8.out.cell 1 _ rfl; rwa [show e1 = true from s1] at h
            have q9 : W6.cell? ⟨G9, 1, none⟩ = some (.bool true) := by have h := HB9.out.cell 1 _ rfl; rwa [show f1 = true from s2] at h
            clear s1 s2
            by_cases hk : yk = 0
            · have q10 : W6.cell? ⟨G10, 2, none⟩ = some (.bool true) := by have h := HB10.out.cell 2 _ rfl; rwa [show n2 = true from s3 hk] at h
              subst hk
              clear s3 s4
              go_wp2_with fail
              go_roundw
              case rel => exact ⟨j + 1, by omega, by go_num, HW6.out⟩
              case measure => simp [intOf]; omega
            · have q10 : W6.cell? ⟨G10, 0, none⟩ = some (.bool true) := by have h := HB10.out.cell 0 _ rfl; rwa [show n0 = true from s4 hk] at h
              have k1 : (yk == (0 : Int)) = false := beq_eq_false_iff_ne.2 hk
              have k2 : (yk != (0 : Int)) = true := bne_iff_ne.2 hk
              clear s3 s4 hk
              go_wp2_with fail
              go_roundw
              case rel => exact ⟨j + 1, by omega, by go_num, HW6.out⟩
              case measure => simp [intOf]; omega
          · skip
            have q8 : W6.cell? ⟨G8, 1, none⟩ = some (.bool true) := by have h := HB8.out.cell 1 _ rfl; rwa [show e1 = true from s1] at h
            have q9 : W6.cell? ⟨G9, 2, none⟩ = some (.bool true) := by have h := HB9.out.cell 2 _ rfl; rwa [show f2 = true from s2] at h
            clear s1 s2
            by_cases hk : yk = 0
            · have q10 : W6.cell? ⟨G10, 2, none⟩ = some (.bool true) := by have h := HB10.out.cell 2 _ rfl; rwa [show n2 = true from s3 hk] at h
              subst hk
              clear s3 s4
              go_wp2_with fail
              go_roundw
              case rel => exact ⟨j + 1, by omega, by go_num, HW6.out⟩
              case measure => simp [intOf]; omega
            · have q10 : W6.cell? ⟨G10, 0, none⟩ = some (.bool true) := by have h := HB10.out.cell 0 _ rfl; rwa [show n0 = true from s4 hk] at h
              have k1 : (yk == (0 : Int)) = false := beq_eq_false_iff_ne.2 hk
              have k2 : (yk != (0 : Int)) = true := bne_iff_ne.2 hk
              clear s3 s4 hk
              go_wp2_with fail
              go_roundw
              case rel => exact ⟨j + 1, by omega, by go_num, HW6.out⟩
              case measure => simp [intOf]; omega
        · rcases hb with rfl | rfl | rfl
          · skip
            have q8 : W6.cell? ⟨G8, 2, none⟩ = some (.bool true) := by have h := HB8.out.cell 2 _ rfl; rwa [show e2 = true from s1] at h
            have q9 : W6.cell? ⟨G9, 0, none⟩ = some (.bool true) := by have h := HB9.out.cell 0 _ rfl; rwa [show f0 = true from s2] at h
            clear s1 s2
            by_cases hk : yk = 0
            · have q10 : W6.cell? ⟨G10, 2, none⟩ = some (.bool true) := by have h := HB10.out.cell 2 _ rfl; rwa [show n2 = true from s3 hk] at h
              subst hk
              clear s3 s4
              go_wp2_with fail
              go_roundw
              case rel => exact ⟨j + 1, by omega, by go_num, HW6.out⟩
              case measure => simp [intOf]; omega
            · have q10 : W6.cell? ⟨G10, 0, none⟩ = some (.bool true) := by have h := HB10.out.cell 0 _ rfl; rwa [show n0 = true from s4 hk] at h
              have k1 : (yk == (0 : Int)) = false := beq_eq_false_iff_ne.2 hk
              have k2 : (yk != (0 : Int)) = true := bne_iff_ne.2 hk
              clear s3 s4 hk
              go_wp2_with fail
              go_roundw
              case rel => exact ⟨j + 1, by omega, by go_num, HW6.out⟩
              case measure => simp [intOf]; omega
          · skip
            have q8 : W6.cell? ⟨G8, 2, none⟩ = some (.bool true) := by have h := HB8.out.cell 2 _ rfl; rwa [show e2 = true from s1] at h
            have q9 : W6.cell? ⟨G9, 1, none⟩ = some (.bool true) := by have h := HB9.out.cell 1 _ rfl; rwa [show f1 = true from s2] at h
            clear s1 s2
            by_cases hk : yk = 0
            · have q10 : W6.cell? ⟨G10, 2, none⟩ = some (.bool true) := by have h := HB10.out.cell 2 _ rfl; rwa [show n2 = true from s3 hk] at h
              subst hk
              clear s3 s4
              go_wp2_with fail
              go_roundw
              case rel => exact ⟨j + 1, by omega, by go_num, HW6.out⟩
              case measure => simp [intOf]; omega
            · have q10 : W6.cell? ⟨G10, 0, none⟩ = some (.bool true) := by have h := HB10.out.cell 0 _ rfl; rwa [show n0 = true from s4 hk] at h
              have k1 : (yk == (0 : Int)) = false := beq_eq_false_iff_ne.2 hk
              have k2 : (yk != (0 : Int)) = true := bne_iff_ne.2 hk
              clear s3 s4 hk
              go_wp2_with fail
              go_roundw
              case rel => exact ⟨j + 1, by omega, by go_num, HW6.out⟩
              case measure => simp [intOf]; omega
          · skip
            have q8 : W6.cell? ⟨G8, 2, none⟩ = some (.bool true) := by have h := HB8.out.cell 2 _ rfl; rwa [show e2 = true from s1] at h
            have q9 : W6.cell? ⟨G9, 2, none⟩ = some (.bool true) := by have h := HB9.out.cell 2 _ rfl; rwa [show f2 = true from s2] at h
            clear s1 s2
            by_cases hk : yk = 0
            · have q10 : W6.cell? ⟨G10, 2, none⟩ = some (.bool true) := by have h := HB10.out.cell 2 _ rfl; rwa [show n2 = true from s3 hk] at h
              subst hk
              clear s3 s4
              go_wp2_with fail
              go_roundw
              case rel => exact ⟨j + 1, by omega, by go_num, HW6.out⟩
              case measure => simp [intOf]; omega
            · have q10 : W6.cell? ⟨G10, 0, none⟩ = some (.bool true) := by have h := HB10.out.cell 0 _ rfl; rwa [show n0 = true from s4 hk] at h
              have k1 : (yk == (0 : Int)) = false := beq_eq_false_iff_ne.2 hk
              have k2 : (yk != (0 : Int)) = true := bne_iff_ne.2 hk
              clear s3 s4 hk
              go_wp2_with fail
              go_roundw
              case rel => exact ⟨j + 1, by omega, by go_num, HW6.out⟩
              case measure => simp [intOf]; omega
      · skip
        have hjN : N = j := by omega
        have HXE := Lib.hid (Ext.trans (Ext.trans HX1.out HXW.out) HX.out)
        have HB8 := Lib.hid (HA8.out.ext HX.out)
        have HB9 := Lib.hid (HA9.out.ext HX.out)
        have HB10 := Lib.hid (HA10.out.ext HX.out)
        by_cases hN0 : 0 < N
        · have d1 : decide (0 < (N : Int)) = true := decide_eq_true (by omega)
          go_wp2_with fail
          go_ret
          exact ⟨rfl, HXE.out⟩
        · have hx0 : x = [] := List.length_eq_zero_iff.1 (by have := HNN.out; omega)
          obtain ⟨h1, h2, h3⟩ := HNONE.out hx0
          simp only [Prod.mk.injEq] at h1 h2 h3
          obtain ⟨rfl, rfl, rfl⟩ := h1
          obtain ⟨rfl, rfl, rfl⟩ := h2
          obtain ⟨rfl, rfl, rfl⟩ := h3
          obtain rfl : N = 0 := by omega
          obtain rfl : j = 0 := by omega
          clear hx0
          have hq := eq_trip_self3 false false false
          have hg : Try.prog.eqGuardType Try.prog.depth 40 = false := by kernel_rfl
          have p0 : wr.cell? ⟨G8, 0, none⟩ = some (.bool false) := HB8.out.cell 0 _ rfl
          have p1 : wr.cell? ⟨G8, 1, none⟩ = some (.bool false) := HB8.out.cell 1 _ rfl
          have p2 : wr.cell? ⟨G8, 2, none⟩ = some (.bool false) := HB8.out.cell 2 _ rfl
          have q0 : wr.cell? ⟨G9, 0, none⟩ = some (.bool false) := HB9.out.cell 0 _ rfl
          have q1 : wr.cell? ⟨G9, 1, none⟩ = some (.bool false) := HB9.out.cell 1 _ rfl
          have q2 : wr.cell? ⟨G9, 2, none⟩ = some (.bool false) := HB9.out.cell 2 _ rfl
          have r0 : wr.cell? ⟨G10, 0, none⟩ = some (.bool false) := HB10.out.cell 0 _ rfl
          have r1 : wr.cell? ⟨G10, 1, none⟩ = some (.bool false) := HB10.out.cell 1 _ rfl
          have r2 : wr.cell? ⟨G10, 2, none⟩ = some (.bool false) := HB10.out.cell 2 _ rfl
          go_wp2_with fail
          go_ret
          exact ⟨rfl, HXE.out⟩

end Go.Proofs.Ytlbilmmjcfiokaa
