/-
  The program's contracts of zones: what may come of a condition.
-/
import Derived.Test.YtlbilmmjcfiokaaZoneP2
import Derived.Test.YtlbilmmjcfiokaaZoneRef2
namespace Go.Proofs.Ytlbilmmjcfiokaa
open Go.RowKit Go.BigFrame

set_option maxRecDepth 100000 in
theorem pNullZ_any (z : Zo) (w : World) :
    Calls Try.prog 26 #[z.val] w fun e w' => e = .returned (tripV (nullZ z)) ∧ Ext w w' := by
  obtain ⟨⟨ak, an, as'⟩, ⟨bk, bn, bs⟩, pn, pm⟩ := z
  unfold Zo.val nullZ tripV
  simp only
  have HR := Lib.hid (fun (o : Obj) (xs : List Value) (t : TypeId) => (show Blk ((w.alloc o).alloc (.cells xs.toArray t)) (w.heap.size + 1) xs t by
    have h := Blk.new (w.alloc o) xs t
    simp only [World.alloc, Array.size_push] at h
    exact h))
  go_enter Try.func26, Try.ntmps26
  go_wp2_with fail
  refine bodyPost_ret (results_cell_row (P := Try.prog) (fn := Try.f26) rfl _ _ (w.heap.size + 1) 40 _ (0, 0) _ rfl (HR.out _ [_, _, _] _) Try.underlying40 rfl (by kernel_rfl)) rfl ?_
  exact ⟨rfl, Ext.trans (ext_new _ _) (ext_new _ _)⟩

set_option maxRecDepth 100000 in
theorem pUnknownZ_any (z : Zo) (v : V) (w : World) :
    Calls Try.prog 48 #[z.val, v.val] w fun e w' => e = .returned (.bool (unkZ z v)) ∧ Ext w w' := by
  obtain ⟨⟨ak, an, as'⟩, ⟨bk, bn, bs⟩, pn, pm⟩ := z
  obtain ⟨vk, vn, vs⟩ := v
  unfold Zo.val V.val
  simp only
  have HX := Lib.hid (Ext.trans (ext_new w (.cells #[.int .u8 ak, .int .i64 an, .string ⟨as'.toArray⟩, .int .u8 bk, .int .i64 bn, .string ⟨bs.toArray⟩, .int .i64 pn, .int .i64 pm] 26)) (ext_new _ (.cells #[.int .u8 vk, .int .i64 vn, .string ⟨vs.toArray⟩] 24)))
  obtain ⟨x, hx⟩ : ∃ x, unkZ ⟨⟨ak, an, as'⟩, ⟨bk, bn, bs⟩, pn, pm⟩ ⟨vk, vn, vs⟩ = x := ⟨_, rfl⟩
  rw [hx]
  unfold unkZ at hx
  simp only at hx
  have HQ0 := Lib.hid hx
  clear hx
  by_cases h1 : 0 < pn
  · have d1 : decide (0 < pn) = true := decide_eq_true h1
    have HQ := Lib.hid (show x = true by rw [← HQ0.out, d1]; rfl)
    clear h1
    go_enter Try.func48, Try.ntmps48
    go_wp2_with fail
    go_ret
    exact ⟨by rw [HQ.out]; rfl, HX.out⟩
  · have d1 : decide (0 < pn) = false := decide_eq_false h1
    clear h1
    by_cases h2 : vk = 0
    · subst h2
      have HQ := Lib.hid (show x = decide (0 < pm) by rw [← HQ0.out, d1]; simp)
      go_enter Try.func48, Try.ntmps48
      go_wp2_with fail
      go_ret
      exact ⟨by rw [HQ.out]; rfl, HX.out⟩
    · have q : (vk == (0 : Int)) = false := beq_eq_false_iff_ne.2 h2
      have HQ := Lib.hid (show x = false by rw [← HQ0.out, d1, decide_eq_false h2]; rfl)
      clear h2
      go_enter Try.func48, Try.ntmps48
      go_wp2_with fail
      go_ret
      exact ⟨by rw [HQ.out]; rfl, HX.out⟩

set_option maxRecDepth 100000 in
theorem pKnownZ_any (z : Zo) (v : V) (w : World) :
    Calls Try.prog 49 #[z.val, v.val] w fun e w' => e = .returned (.bool (hasZ z v)) ∧ Ext w w' := by
  obtain ⟨⟨ak, an, as'⟩, ⟨bk, bn, bs⟩, pn, pm⟩ := z
  obtain ⟨vk, vn, vs⟩ := v
  unfold Zo.val V.val
  simp only
  have HX := Lib.hid (Ext.trans (ext_new w (.cells #[.int .u8 ak, .int .i64 an, .string ⟨as'.toArray⟩, .int .u8 bk, .int .i64 bn, .string ⟨bs.toArray⟩, .int .i64 pn, .int .i64 pm] 26)) (ext_new _ (.cells #[.int .u8 vk, .int .i64 vn, .string ⟨vs.toArray⟩] 24)))
  obtain ⟨x, hx⟩ : ∃ x, hasZ ⟨⟨ak, an, as'⟩, ⟨bk, bn, bs⟩, pn, pm⟩ ⟨vk, vn, vs⟩ = x := ⟨_, rfl⟩
  rw [hx]
  unfold hasZ at hx
  simp only at hx
  have HQ0 := Lib.hid hx
  clear hx
  by_cases h1 : pn < pm
  · have d1 : decide (pn < pm) = true := decide_eq_true h1
    clear h1
    by_cases h2 : vk = 0
    · have q : (vk != (0 : Int)) = false := by simp [h2]
      have HQ := Lib.hid (show x = false by rw [← HQ0.out, d1, decide_eq_true h2]; rfl)
      clear h2
      go_enter Try.func49, Try.ntmps49
      go_wp2_with fail
      go_ret
      exact ⟨by rw [HQ.out]; rfl, HX.out⟩
    · have q : (vk != (0 : Int)) = true := bne_iff_ne.2 h2
      have HQ := Lib.hid (show x = true by rw [← HQ0.out, d1, decide_eq_false h2]; rfl)
      clear h2
      go_enter Try.func49, Try.ntmps49
      go_wp2_with fail
      go_ret
      exact ⟨by rw [HQ.out]; rfl, HX.out⟩
  · have d1 : decide (pn < pm) = false := decide_eq_false h1
    have HQ := Lib.hid (show x = false by rw [← HQ0.out, d1]; rfl)
    clear h1
    go_enter Try.func49, Try.ntmps49
    go_wp2_with fail
    go_ret
    exact ⟨by rw [HQ.out]; rfl, HX.out⟩

set_option maxRecDepth 100000 in
set_option maxHeartbeats 4000000 in
theorem pLessZ_any (z : Zo) (v : V) (w : World) (hz : z.fits) (hv : v.fits) (hs : z.small 5000) (hl : v.s.length ≤ 5000) :
    Calls Try.prog 24 #[z.val, v.val] w fun e w' => e = .returned (tripV (lessZ z v)) ∧ Ext w w' := by
  have HU := Lib.hid (pUnknownZ_any z v)
  have HK := Lib.hid (pKnownZ_any z v)
  have HA := Lib.hid (fun W => Compare_any z.a v hz.a hv hs.1 hl W)
  have HB := Lib.hid (fun W => Compare_any z.b v hz.b hv hs.2 hl W)
  rw [show lessZ z v = (hasZ z v && decide (0 ≤ cmpV z.b v), unkZ z v, hasZ z v && decide (cmpV z.a v < 0)) from rfl]
  generalize unkZ z v = x1 at HU ⊢
  generalize hasZ z v = c at HK ⊢
  generalize cmpV z.a v = CA at HA ⊢
  generalize cmpV z.b v = CB at HB ⊢
  obtain ⟨⟨ak, an, as'⟩, ⟨bk, bn, bs⟩, pn, pm⟩ := z
  obtain ⟨vk, vn, vs⟩ := v
  unfold Zo.val V.val at HU HK
  unfold V.val at HA HB
  unfold Zo.val V.val tripV
  simp only at HU HK HA HB ⊢
  clear hz hv hs hl
  go_enter Try.func24, Try.ntmps24
  go_wp2_with fail
  refine (HU.out _).mono ?_
  rintro e w1 ⟨rfl, hx⟩
  have HE := Lib.hid (EZ.start (w := w) (z := ⟨⟨ak, an, as'⟩, ⟨bk, bn, bs⟩, pn, pm⟩) (v := ⟨vk, vn, vs⟩) false x1 false hx)
  obtain ⟨g, hg⟩ : ∃ g, w1.heap.size = g := ⟨_, rfl⟩
  clear hx HU
  have z0 : (w1.alloc (.cells #[.bool false, .bool x1, .bool false] 40)).cell? ⟨w.heap.size, 0, none⟩ = some (.int .u8 ak) := HE.out.z.cell 0 _ rfl
  have z1 : (w1.alloc (.cells #[.bool false, .bool x1, .bool false] 40)).cell? ⟨w.heap.size, 1, none⟩ = some (.int .i64 an) := HE.out.z.cell 1 _ rfl
  have z2 : (w1.alloc (.cells #[.bool false, .bool x1, .bool false] 40)).cell? ⟨w.heap.size, 2, none⟩ = some (.string ⟨as'.toArray⟩) := HE.out.z.cell 2 _ rfl
  have z3 : (w1.alloc (.cells #[.bool false, .bool x1, .bool false] 40)).cell? ⟨w.heap.size, 3, none⟩ = some (.int .u8 bk) := HE.out.z.cell 3 _ rfl
  have z4 : (w1.alloc (.cells #[.bool false, .bool x1, .bool false] 40)).cell? ⟨w.heap.size, 4, none⟩ = some (.int .i64 bn) := HE.out.z.cell 4 _ rfl
  have z5 : (w1.alloc (.cells #[.bool false, .bool x1, .bool false] 40)).cell? ⟨w.heap.size, 5, none⟩ = some (.string ⟨bs.toArray⟩) := HE.out.z.cell 5 _ rfl
  have z6 : (w1.alloc (.cells #[.bool false, .bool x1, .bool false] 40)).cell? ⟨w.heap.size, 6, none⟩ = some (.int .i64 pn) := HE.out.z.cell 6 _ rfl
  have z7 : (w1.alloc (.cells #[.bool false, .bool x1, .bool false] 40)).cell? ⟨w.heap.size, 7, none⟩ = some (.int .i64 pm) := HE.out.z.cell 7 _ rfl
  have v0 : (w1.alloc (.cells #[.bool false, .bool x1, .bool false] 40)).cell? ⟨w.heap.size + 1, 0, none⟩ = some (.int .u8 vk) := HE.out.v.cell 0 _ rfl
  have v1 : (w1.alloc (.cells #[.bool false, .bool x1, .bool false] 40)).cell? ⟨w.heap.size + 1, 1, none⟩ = some (.int .i64 vn) := HE.out.v.cell 1 _ rfl
  have v2 : (w1.alloc (.cells #[.bool false, .bool x1, .bool false] 40)).cell? ⟨w.heap.size + 1, 2, none⟩ = some (.string ⟨vs.toArray⟩) := HE.out.v.cell 2 _ rfl
  go_wp2_with fail
  rw [hg] at HE
  try rw [hg]
  refine (HK.out _).mono ?_
  rintro e w2 ⟨rfl, hx⟩
  have HE2 := Lib.hid (HE.out.ext hx)
  clear hx hg HE z0 z1 z2 z3 z4 z5 z6 z7 v0 v1 v2
  cases c with
  | false =>
    have HR := Lib.hid HE2.out.told
    have o0 : w2.cell? ⟨g, 0, none⟩ = some (.bool false) := HE2.out.o.cell 0 _ rfl
    have o1 : w2.cell? ⟨g, 1, none⟩ = some (.bool x1) := HE2.out.o.cell 1 _ rfl
    have o2 : w2.cell? ⟨g, 2, none⟩ = some (.bool false) := HE2.out.o.cell 2 _ rfl
    have r0 : w2.cell? ⟨w.heap.size + 1 + 1, 0, none⟩ = some (.bool false) := HE2.out.r.cell 0 _ rfl
    have r1 : w2.cell? ⟨w.heap.size + 1 + 1, 1, none⟩ = some (.bool false) := HE2.out.r.cell 1 _ rfl
    have r2 : w2.cell? ⟨w.heap.size + 1 + 1, 2, none⟩ = some (.bool false) := HE2.out.r.cell 2 _ rfl
    have rf0 : w2.frozen? ⟨w.heap.size + 1 + 1, 0, none⟩ = false := HE2.out.r.free 0
    have rf1 : w2.frozen? ⟨w.heap.size + 1 + 1, 1, none⟩ = false := HE2.out.r.free 1
    have rf2 : w2.frozen? ⟨w.heap.size + 1 + 1, 2, none⟩ = false := HE2.out.r.free 2
    go_wp2_with fail
    refine bodyPost_ret (results_cell_row (P := Try.prog) (fn := Try.f24) rfl _ _ (w.heap.size + 1 + 1) 40 _ (0, 0) _ rfl HR.out.1 Try.underlying40 rfl (by kernel_rfl)) rfl ?_
    exact ⟨rfl, HR.out.2⟩
  | true =>
    have z0 : w2.cell? ⟨w.heap.size, 0, none⟩ = some (.int .u8 ak) := HE2.out.z.cell 0 _ rfl
    have z1 : w2.cell? ⟨w.heap.size, 1, none⟩ = some (.int .i64 an) := HE2.out.z.cell 1 _ rfl
    have z2 : w2.cell? ⟨w.heap.size, 2, none⟩ = some (.string ⟨as'.toArray⟩) := HE2.out.z.cell 2 _ rfl
    have z3 : w2.cell? ⟨w.heap.size, 3, none⟩ = some (.int .u8 bk) := HE2.out.z.cell 3 _ rfl
    have z4 : w2.cell? ⟨w.heap.size, 4, none⟩ = some (.int .i64 bn) := HE2.out.z.cell 4 _ rfl
    have z5 : w2.cell? ⟨w.heap.size, 5, none⟩ = some (.string ⟨bs.toArray⟩) := HE2.out.z.cell 5 _ rfl
    have z6 : w2.cell? ⟨w.heap.size, 6, none⟩ = some (.int .i64 pn) := HE2.out.z.cell 6 _ rfl
    have z7 : w2.cell? ⟨w.heap.size, 7, none⟩ = some (.int .i64 pm) := HE2.out.z.cell 7 _ rfl
    have v0 : w2.cell? ⟨w.heap.size + 1, 0, none⟩ = some (.int .u8 vk) := HE2.out.v.cell 0 _ rfl
    have v1 : w2.cell? ⟨w.heap.size + 1, 1, none⟩ = some (.int .i64 vn) := HE2.out.v.cell 1 _ rfl
    have v2 : w2.cell? ⟨w.heap.size + 1, 2, none⟩ = some (.string ⟨vs.toArray⟩) := HE2.out.v.cell 2 _ rfl
    go_wp2_with fail
    refine (HA.out _).mono ?_
    rintro e w3 ⟨rfl, hx⟩
    have HE3 := Lib.hid (HE2.out.ext hx)
    clear hx z0 z1 z2 z3 z4 z5 z6 z7 v0 v1 v2
    have o2 : w3.cell? ⟨g, 2, none⟩ = some (.bool false) := HE3.out.o.cell 2 _ rfl
    have of2 : w3.frozen? ⟨g, 2, none⟩ = false := HE3.out.o.free 2
    have HE4 := Lib.hid (HE3.out.set2 (decide (CA < 0)))
    have z3 : (w3.setCell ⟨g, 2, none⟩ (.bool (decide (CA < 0)))).cell? ⟨w.heap.size, 3, none⟩ = some (.int .u8 bk) := HE4.out.z.cell 3 _ rfl
    have z4 : (w3.setCell ⟨g, 2, none⟩ (.bool (decide (CA < 0)))).cell? ⟨w.heap.size, 4, none⟩ = some (.int .i64 bn) := HE4.out.z.cell 4 _ rfl
    have z5 : (w3.setCell ⟨g, 2, none⟩ (.bool (decide (CA < 0)))).cell? ⟨w.heap.size, 5, none⟩ = some (.string ⟨bs.toArray⟩) := HE4.out.z.cell 5 _ rfl
    have v0 : (w3.setCell ⟨g, 2, none⟩ (.bool (decide (CA < 0)))).cell? ⟨w.heap.size + 1, 0, none⟩ = some (.int .u8 vk) := HE4.out.v.cell 0 _ rfl
    have v1 : (w3.setCell ⟨g, 2, none⟩ (.bool (decide (CA < 0)))).cell? ⟨w.heap.size + 1, 1, none⟩ = some (.int .i64 vn) := HE4.out.v.cell 1 _ rfl
    have v2 : (w3.setCell ⟨g, 2, none⟩ (.bool (decide (CA < 0)))).cell? ⟨w.heap.size + 1, 2, none⟩ = some (.string ⟨vs.toArray⟩) := HE4.out.v.cell 2 _ rfl
    go_wp2_with fail
    refine (HB.out _).mono ?_
    rintro e w4 ⟨rfl, hx⟩
    have HE5 := Lib.hid (HE4.out.ext hx)
    clear hx o2 of2 z3 z4 z5 v0 v1 v2
    have HE6 := Lib.hid (HE5.out.set0 (decide (0 ≤ CB)))
    have p0 : w4.cell? ⟨g, 0, none⟩ = some (.bool false) := HE5.out.o.cell 0 _ rfl
    have pf0 : w4.frozen? ⟨g, 0, none⟩ = false := HE5.out.o.free 0
    have HR := Lib.hid HE6.out.told
    have o0 : (w4.setCell ⟨g, 0, none⟩ (.bool (decide (0 ≤ CB)))).cell? ⟨g, 0, none⟩ = some (.bool (decide (0 ≤ CB))) := HE6.out.o.cell 0 _ rfl
    have o1 : (w4.setCell ⟨g, 0, none⟩ (.bool (decide (0 ≤ CB)))).cell? ⟨g, 1, none⟩ = some (.bool x1) := HE6.out.o.cell 1 _ rfl
    have o2 : (w4.setCell ⟨g, 0, none⟩ (.bool (decide (0 ≤ CB)))).cell? ⟨g, 2, none⟩ = some (.bool (decide (CA < 0))) := HE6.out.o.cell 2 _ rfl
    have r0 : (w4.setCell ⟨g, 0, none⟩ (.bool (decide (0 ≤ CB)))).cell? ⟨w.heap.size + 1 + 1, 0, none⟩ = some (.bool false) := HE6.out.r.cell 0 _ rfl
    have r1 : (w4.setCell ⟨g, 0, none⟩ (.bool (decide (0 ≤ CB)))).cell? ⟨w.heap.size + 1 + 1, 1, none⟩ = some (.bool false) := HE6.out.r.cell 1 _ rfl
    have r2 : (w4.setCell ⟨g, 0, none⟩ (.bool (decide (0 ≤ CB)))).cell? ⟨w.heap.size + 1 + 1, 2, none⟩ = some (.bool false) := HE6.out.r.cell 2 _ rfl
    have rf0 : (w4.setCell ⟨g, 0, none⟩ (.bool (decide (0 ≤ CB)))).frozen? ⟨w.heap.size + 1 + 1, 0, none⟩ = false := HE6.out.r.free 0
    have rf1 : (w4.setCell ⟨g, 0, none⟩ (.bool (decide (0 ≤ CB)))).frozen? ⟨w.heap.size + 1 + 1, 1, none⟩ = false := HE6.out.r.free 1
    have rf2 : (w4.setCell ⟨g, 0, none⟩ (.bool (decide (0 ≤ CB)))).frozen? ⟨w.heap.size + 1 + 1, 2, none⟩ = false := HE6.out.r.free 2
    go_wp2_with fail
    refine bodyPost_ret (results_cell_row (P := Try.prog) (fn := Try.f24) rfl _ _ (w.heap.size + 1 + 1) 40 _ (0, 0) _ rfl HR.out.1 Try.underlying40 rfl (by kernel_rfl)) rfl ?_
    exact ⟨rfl, HR.out.2⟩

set_option maxRecDepth 100000 in
set_option maxHeartbeats 4000000 in
theorem pEqualZ_any (z : Zo) (v : V) (w : World) (hz : z.fits) (hv : v.fits) (hs : z.small 5000) (hl : v.s.length ≤ 5000) :
    Calls Try.prog 22 #[z.val, v.val] w fun e w' => e = .returned (tripV (equalZ z v)) ∧ Ext w w' := by
  have HU := Lib.hid (pUnknownZ_any z v)
  have HK := Lib.hid (pKnownZ_any z v)
  have HA := Lib.hid (fun W => Compare_any v z.a hv hz.a hl hs.1 W)
  have HB := Lib.hid (fun W => Compare_any v z.b hv hz.b hl hs.2 W)
  have HNA := Lib.hid (fun W => neq_val z.a v W)
  have HNB := Lib.hid (fun W => neq_val z.b v W)
  rw [show equalZ z v = (hasZ z v && (!decide (z.a = v) || !decide (z.b = v)), unkZ z v, hasZ z v && (decide (0 ≤ cmpV v z.a) && decide (cmpV v z.b ≤ 0))) from rfl]
  generalize unkZ z v = x1 at HU ⊢
  generalize hasZ z v = c at HK ⊢
  generalize cmpV v z.a = CA at HA ⊢
  generalize cmpV v z.b = CB at HB ⊢
  generalize decide (z.a = v) = NA at HNA ⊢
  generalize decide (z.b = v) = NB at HNB ⊢
  obtain ⟨⟨ak, an, as'⟩, ⟨bk, bn, bs⟩, pn, pm⟩ := z
  obtain ⟨vk, vn, vs⟩ := v
  unfold Zo.val V.val at HU HK
  unfold V.val at HA HB HNA HNB
  unfold Zo.val V.val tripV
  simp only at HU HK HA HB HNA HNB ⊢
  clear hz hv hs hl
  go_enter Try.func22, Try.ntmps22
  go_wp2_with fail
  refine (HU.out _).mono ?_
  rintro e w1 ⟨rfl, hx⟩
  have HE := Lib.hid (EZ.start (w := w) (z := ⟨⟨ak, an, as'⟩, ⟨bk, bn, bs⟩, pn, pm⟩) (v := ⟨vk, vn, vs⟩) false x1 false hx)
  obtain ⟨g, hg⟩ : ∃ g, w1.heap.size = g := ⟨_, rfl⟩
  clear hx HU
  have z0 : (w1.alloc (.cells #[.bool false, .bool x1, .bool false] 40)).cell? ⟨w.heap.size, 0, none⟩ = some (.int .u8 ak) := HE.out.z.cell 0 _ rfl
  have z1 : (w1.alloc (.cells #[.bool false, .bool x1, .bool false] 40)).cell? ⟨w.heap.size, 1, none⟩ = some (.int .i64 an) := HE.out.z.cell 1 _ rfl
  have z2 : (w1.alloc (.cells #[.bool false, .bool x1, .bool false] 40)).cell? ⟨w.heap.size, 2, none⟩ = some (.string ⟨as'.toArray⟩) := HE.out.z.cell 2 _ rfl
  have z3 : (w1.alloc (.cells #[.bool false, .bool x1, .bool false] 40)).cell? ⟨w.heap.size, 3, none⟩ = some (.int .u8 bk) := HE.out.z.cell 3 _ rfl
  have z4 : (w1.alloc (.cells #[.bool false, .bool x1, .bool false] 40)).cell? ⟨w.heap.size, 4, none⟩ = some (.int .i64 bn) := HE.out.z.cell 4 _ rfl
  have z5 : (w1.alloc (.cells #[.bool false, .bool x1, .bool false] 40)).cell? ⟨w.heap.size, 5, none⟩ = some (.string ⟨bs.toArray⟩) := HE.out.z.cell 5 _ rfl
  have z6 : (w1.alloc (.cells #[.bool false, .bool x1, .bool false] 40)).cell? ⟨w.heap.size, 6, none⟩ = some (.int .i64 pn) := HE.out.z.cell 6 _ rfl
  have z7 : (w1.alloc (.cells #[.bool false, .bool x1, .bool false] 40)).cell? ⟨w.heap.size, 7, none⟩ = some (.int .i64 pm) := HE.out.z.cell 7 _ rfl
  have v0 : (w1.alloc (.cells #[.bool false, .bool x1, .bool false] 40)).cell? ⟨w.heap.size + 1, 0, none⟩ = some (.int .u8 vk) := HE.out.v.cell 0 _ rfl
  have v1 : (w1.alloc (.cells #[.bool false, .bool x1, .bool false] 40)).cell? ⟨w.heap.size + 1, 1, none⟩ = some (.int .i64 vn) := HE.out.v.cell 1 _ rfl
  have v2 : (w1.alloc (.cells #[.bool false, .bool x1, .bool false] 40)).cell? ⟨w.heap.size + 1, 2, none⟩ = some (.string ⟨vs.toArray⟩) := HE.out.v.cell 2 _ rfl
  go_wp2_with fail
  rw [hg] at HE
  try rw [hg]
  refine (HK.out _).mono ?_
  rintro e w2 ⟨rfl, hx⟩
  have HE2 := Lib.hid (HE.out.ext hx)
  clear hx hg HE z0 z1 z2 z3 z4 z5 z6 z7 v0 v1 v2
  cases c with
  | false =>
    have HR := Lib.hid HE2.out.told
    have o0 : w2.cell? ⟨g, 0, none⟩ = some (.bool false) := HE2.out.o.cell 0 _ rfl
    have o1 : w2.cell? ⟨g, 1, none⟩ = some (.bool x1) := HE2.out.o.cell 1 _ rfl
    have o2 : w2.cell? ⟨g, 2, none⟩ = some (.bool false) := HE2.out.o.cell 2 _ rfl
    have r0 : w2.cell? ⟨w.heap.size + 1 + 1, 0, none⟩ = some (.bool false) := HE2.out.r.cell 0 _ rfl
    have r1 : w2.cell? ⟨w.heap.size + 1 + 1, 1, none⟩ = some (.bool false) := HE2.out.r.cell 1 _ rfl
    have r2 : w2.cell? ⟨w.heap.size + 1 + 1, 2, none⟩ = some (.bool false) := HE2.out.r.cell 2 _ rfl
    have rf0 : w2.frozen? ⟨w.heap.size + 1 + 1, 0, none⟩ = false := HE2.out.r.free 0
    have rf1 : w2.frozen? ⟨w.heap.size + 1 + 1, 1, none⟩ = false := HE2.out.r.free 1
    have rf2 : w2.frozen? ⟨w.heap.size + 1 + 1, 2, none⟩ = false := HE2.out.r.free 2
    go_wp2_with fail
    refine bodyPost_ret (results_cell_row (P := Try.prog) (fn := Try.f22) rfl _ _ (w.heap.size + 1 + 1) 40 _ (0, 0) _ rfl HR.out.1 Try.underlying40 rfl (by kernel_rfl)) rfl ?_
    exact ⟨rfl, HR.out.2⟩
  | true =>
    have z0 : w2.cell? ⟨w.heap.size, 0, none⟩ = some (.int .u8 ak) := HE2.out.z.cell 0 _ rfl
    have z1 : w2.cell? ⟨w.heap.size, 1, none⟩ = some (.int .i64 an) := HE2.out.z.cell 1 _ rfl
    have z2 : w2.cell? ⟨w.heap.size, 2, none⟩ = some (.string ⟨as'.toArray⟩) := HE2.out.z.cell 2 _ rfl
    have z3 : w2.cell? ⟨w.heap.size, 3, none⟩ = some (.int .u8 bk) := HE2.out.z.cell 3 _ rfl
    have z4 : w2.cell? ⟨w.heap.size, 4, none⟩ = some (.int .i64 bn) := HE2.out.z.cell 4 _ rfl
    have z5 : w2.cell? ⟨w.heap.size, 5, none⟩ = some (.string ⟨bs.toArray⟩) := HE2.out.z.cell 5 _ rfl
    have z6 : w2.cell? ⟨w.heap.size, 6, none⟩ = some (.int .i64 pn) := HE2.out.z.cell 6 _ rfl
    have z7 : w2.cell? ⟨w.heap.size, 7, none⟩ = some (.int .i64 pm) := HE2.out.z.cell 7 _ rfl
    have v0 : w2.cell? ⟨w.heap.size + 1, 0, none⟩ = some (.int .u8 vk) := HE2.out.v.cell 0 _ rfl
    have v1 : w2.cell? ⟨w.heap.size + 1, 1, none⟩ = some (.int .i64 vn) := HE2.out.v.cell 1 _ rfl
    have v2 : w2.cell? ⟨w.heap.size + 1, 2, none⟩ = some (.string ⟨vs.toArray⟩) := HE2.out.v.cell 2 _ rfl
    go_wp2_with fail
    refine (HA.out _).mono ?_
    rintro e w3 ⟨rfl, hx⟩
    have HE3 := Lib.hid (HE2.out.ext hx)
    clear hx z0 z1 z2 z3 z4 z5 z6 z7 v0 v1 v2
    have HFIN := Lib.hid (show ∀ (W : World) (y2 : Bool), EZ w ⟨⟨ak, an, as'⟩, ⟨bk, bn, bs⟩, pn, pm⟩ ⟨vk, vn, vs⟩ g false x1 y2 W → ∀ b, EZ w ⟨⟨ak, an, as'⟩, ⟨bk, bn, bs⟩, pn, pm⟩ ⟨vk, vn, vs⟩ g b x1 y2 (W.setCell ⟨g, 0, none⟩ (.bool b)) from fun W y2 h b => h.set0 b)
    have na := HNA.out
    have nb := HNB.out
    cases hca : decide (0 ≤ CA) with
    | false =>
      have HCA := Lib.hid hca
      have o2 : w3.cell? ⟨g, 2, none⟩ = some (.bool false) := HE3.out.o.cell 2 _ rfl
      have of2 : w3.frozen? ⟨g, 2, none⟩ = false := HE3.out.o.free 2
      have HE4 := Lib.hid (HE3.out.set2 false)
      have z0 : (w3.setCell ⟨g, 2, none⟩ (.bool false)).cell? ⟨w.heap.size, 0, none⟩ = some (.int .u8 ak) := HE4.out.z.cell 0 _ rfl
      have z1 : (w3.setCell ⟨g, 2, none⟩ (.bool false)).cell? ⟨w.heap.size, 1, none⟩ = some (.int .i64 an) := HE4.out.z.cell 1 _ rfl
      have z2 : (w3.setCell ⟨g, 2, none⟩ (.bool false)).cell? ⟨w.heap.size, 2, none⟩ = some (.string ⟨as'.toArray⟩) := HE4.out.z.cell 2 _ rfl
      have z3 : (w3.setCell ⟨g, 2, none⟩ (.bool false)).cell? ⟨w.heap.size, 3, none⟩ = some (.int .u8 bk) := HE4.out.z.cell 3 _ rfl
      have z4 : (w3.setCell ⟨g, 2, none⟩ (.bool false)).cell? ⟨w.heap.size, 4, none⟩ = some (.int .i64 bn) := HE4.out.z.cell 4 _ rfl
      have z5 : (w3.setCell ⟨g, 2, none⟩ (.bool false)).cell? ⟨w.heap.size, 5, none⟩ = some (.string ⟨bs.toArray⟩) := HE4.out.z.cell 5 _ rfl
      have v0 : (w3.setCell ⟨g, 2, none⟩ (.bool false)).cell? ⟨w.heap.size + 1, 0, none⟩ = some (.int .u8 vk) := HE4.out.v.cell 0 _ rfl
      have v1 : (w3.setCell ⟨g, 2, none⟩ (.bool false)).cell? ⟨w.heap.size + 1, 1, none⟩ = some (.int .i64 vn) := HE4.out.v.cell 1 _ rfl
      have v2 : (w3.setCell ⟨g, 2, none⟩ (.bool false)).cell? ⟨w.heap.size + 1, 2, none⟩ = some (.string ⟨vs.toArray⟩) := HE4.out.v.cell 2 _ rfl
      have p0 : (w3.setCell ⟨g, 2, none⟩ (.bool false)).cell? ⟨g, 0, none⟩ = some (.bool false) := HE4.out.o.cell 0 _ rfl
      have pf0 : (w3.setCell ⟨g, 2, none⟩ (.bool false)).frozen? ⟨g, 0, none⟩ = false := HE4.out.o.free 0
      cases NA with
      | false =>
        simp only [Bool.not_false] at na ⊢
        have HE5 := Lib.hid (HFIN.out _ _ HE4.out true)
        have HR := Lib.hid HE5.out.told
        have o0 : ((w3.setCell ⟨g, 2, none⟩ (.bool false)).setCell ⟨g, 0, none⟩ (.bool true)).cell? ⟨g, 0, none⟩ = some (.bool true) := HE5.out.o.cell 0 _ rfl
        have o1 : ((w3.setCell ⟨g, 2, none⟩ (.bool false)).setCell ⟨g, 0, none⟩ (.bool true)).cell? ⟨g, 1, none⟩ = some (.bool x1) := HE5.out.o.cell 1 _ rfl
        have o2 : ((w3.setCell ⟨g, 2, none⟩ (.bool false)).setCell ⟨g, 0, none⟩ (.bool true)).cell? ⟨g, 2, none⟩ = some (.bool false) := HE5.out.o.cell 2 _ rfl
        have r0 : ((w3.setCell ⟨g, 2, none⟩ (.bool false)).setCell ⟨g, 0, none⟩ (.bool true)).cell? ⟨w.heap.size + 1 + 1, 0, none⟩ = some (.bool false) := HE5.out.r.cell 0 _ rfl
        have r1 : ((w3.setCell ⟨g, 2, none⟩ (.bool false)).setCell ⟨g, 0, none⟩ (.bool true)).cell? ⟨w.heap.size + 1 + 1, 1, none⟩ = some (.bool false) := HE5.out.r.cell 1 _ rfl
        have r2 : ((w3.setCell ⟨g, 2, none⟩ (.bool false)).setCell ⟨g, 0, none⟩ (.bool true)).cell? ⟨w.heap.size + 1 + 1, 2, none⟩ = some (.bool false) := HE5.out.r.cell 2 _ rfl
        have rf0 : ((w3.setCell ⟨g, 2, none⟩ (.bool false)).setCell ⟨g, 0, none⟩ (.bool true)).frozen? ⟨w.heap.size + 1 + 1, 0, none⟩ = false := HE5.out.r.free 0
        have rf1 : ((w3.setCell ⟨g, 2, none⟩ (.bool false)).setCell ⟨g, 0, none⟩ (.bool true)).frozen? ⟨w.heap.size + 1 + 1, 1, none⟩ = false := HE5.out.r.free 1
        have rf2 : ((w3.setCell ⟨g, 2, none⟩ (.bool false)).setCell ⟨g, 0, none⟩ (.bool true)).frozen? ⟨w.heap.size + 1 + 1, 2, none⟩ = false := HE5.out.r.free 2
        go_wp2_with fail
        refine bodyPost_ret (results_cell_row (P := Try.prog) (fn := Try.f22) rfl _ _ (w.heap.size + 1 + 1) 40 _ (0, 0) _ rfl HR.out.1 Try.underlying40 rfl (by kernel_rfl)) rfl ?_
        exact ⟨by rw [HCA.out]; rfl, HR.out.2⟩
      | true =>
        simp only [Bool.not_true] at na ⊢
        have HE5 := Lib.hid (HFIN.out _ _ HE4.out (!NB))
        have HR := Lib.hid HE5.out.told
        have o0 : ((w3.setCell ⟨g, 2, none⟩ (.bool false)).setCell ⟨g, 0, none⟩ (.bool (!NB))).cell? ⟨g, 0, none⟩ = some (.bool (!NB)) := HE5.out.o.cell 0 _ rfl
        have o1 : ((w3.setCell ⟨g, 2, none⟩ (.bool false)).setCell ⟨g, 0, none⟩ (.bool (!NB))).cell? ⟨g, 1, none⟩ = some (.bool x1) := HE5.out.o.cell 1 _ rfl
        have o2 : ((w3.setCell ⟨g, 2, none⟩ (.bool false)).setCell ⟨g, 0, none⟩ (.bool (!NB))).cell? ⟨g, 2, none⟩ = some (.bool false) := HE5.out.o.cell 2 _ rfl
        have r0 : ((w3.setCell ⟨g, 2, none⟩ (.bool false)).setCell ⟨g, 0, none⟩ (.bool (!NB))).cell? ⟨w.heap.size + 1 + 1, 0, none⟩ = some (.bool false) := HE5.out.r.cell 0 _ rfl
        have r1 : ((w3.setCell ⟨g, 2, none⟩ (.bool false)).setCell ⟨g, 0, none⟩ (.bool (!NB))).cell? ⟨w.heap.size + 1 + 1, 1, none⟩ = some (.bool false) := HE5.out.r.cell 1 _ rfl
        have r2 : ((w3.setCell ⟨g, 2, none⟩ (.bool false)).setCell ⟨g, 0, none⟩ (.bool (!NB))).cell? ⟨w.heap.size + 1 + 1, 2, none⟩ = some (.bool false) := HE5.out.r.cell 2 _ rfl
        have rf0 : ((w3.setCell ⟨g, 2, none⟩ (.bool false)).setCell ⟨g, 0, none⟩ (.bool (!NB))).frozen? ⟨w.heap.size + 1 + 1, 0, none⟩ = false := HE5.out.r.free 0
        have rf1 : ((w3.setCell ⟨g, 2, none⟩ (.bool false)).setCell ⟨g, 0, none⟩ (.bool (!NB))).frozen? ⟨w.heap.size + 1 + 1, 1, none⟩ = false := HE5.out.r.free 1
        have rf2 : ((w3.setCell ⟨g, 2, none⟩ (.bool false)).setCell ⟨g, 0, none⟩ (.bool (!NB))).frozen? ⟨w.heap.size + 1 + 1, 2, none⟩ = false := HE5.out.r.free 2
        go_wp2_with fail
        refine bodyPost_ret (results_cell_row (P := Try.prog) (fn := Try.f22) rfl _ _ (w.heap.size + 1 + 1) 40 _ (0, 0) _ rfl HR.out.1 Try.underlying40 rfl (by kernel_rfl)) rfl ?_
        exact ⟨by rw [HCA.out]; rfl, HR.out.2⟩
    | true =>
      have HCA := Lib.hid hca
      have z3 : w3.cell? ⟨w.heap.size, 3, none⟩ = some (.int .u8 bk) := HE3.out.z.cell 3 _ rfl
      have z4 : w3.cell? ⟨w.heap.size, 4, none⟩ = some (.int .i64 bn) := HE3.out.z.cell 4 _ rfl
      have z5 : w3.cell? ⟨w.heap.size, 5, none⟩ = some (.string ⟨bs.toArray⟩) := HE3.out.z.cell 5 _ rfl
      have v0 : w3.cell? ⟨w.heap.size + 1, 0, none⟩ = some (.int .u8 vk) := HE3.out.v.cell 0 _ rfl
      have v1 : w3.cell? ⟨w.heap.size + 1, 1, none⟩ = some (.int .i64 vn) := HE3.out.v.cell 1 _ rfl
      have v2 : w3.cell? ⟨w.heap.size + 1, 2, none⟩ = some (.string ⟨vs.toArray⟩) := HE3.out.v.cell 2 _ rfl
      go_wp2_with fail
      refine (HB.out _).mono ?_
      rintro e w4 ⟨rfl, hx⟩
      have HE3' := Lib.hid (HE3.out.ext hx)
      clear hx z3 z4 z5 v0 v1 v2
      have o2 : w4.cell? ⟨g, 2, none⟩ = some (.bool false) := HE3'.out.o.cell 2 _ rfl
      have of2 : w4.frozen? ⟨g, 2, none⟩ = false := HE3'.out.o.free 2
      have HE4 := Lib.hid (HE3'.out.set2 (decide (CB ≤ 0)))
      have z0 : (w4.setCell ⟨g, 2, none⟩ (.bool (decide (CB ≤ 0)))).cell? ⟨w.heap.size, 0, none⟩ = some (.int .u8 ak) := HE4.out.z.cell 0 _ rfl
      have z1 : (w4.setCell ⟨g, 2, none⟩ (.bool (decide (CB ≤ 0)))).cell? ⟨w.heap.size, 1, none⟩ = some (.int .i64 an) := HE4.out.z.cell 1 _ rfl
      have z2 : (w4.setCell ⟨g, 2, none⟩ (.bool (decide (CB ≤ 0)))).cell? ⟨w.heap.size, 2, none⟩ = some (.string ⟨as'.toArray⟩) := HE4.out.z.cell 2 _ rfl
      have z3 : (w4.setCell ⟨g, 2, none⟩ (.bool (decide (CB ≤ 0)))).cell? ⟨w.heap.size, 3, none⟩ = some (.int .u8 bk) := HE4.out.z.cell 3 _ rfl
      have z4 : (w4.setCell ⟨g, 2, none⟩ (.bool (decide (CB ≤ 0)))).cell? ⟨w.heap.size, 4, none⟩ = some (.int .i64 bn) := HE4.out.z.cell 4 _ rfl
      have z5 : (w4.setCell ⟨g, 2, none⟩ (.bool (decide (CB ≤ 0)))).cell? ⟨w.heap.size, 5, none⟩ = some (.string ⟨bs.toArray⟩) := HE4.out.z.cell 5 _ rfl
      have v0 : (w4.setCell ⟨g, 2, none⟩ (.bool (decide (CB ≤ 0)))).cell? ⟨w.heap.size + 1, 0, none⟩ = some (.int .u8 vk) := HE4.out.v.cell 0 _ rfl
      have v1 : (w4.setCell ⟨g, 2, none⟩ (.bool (decide (CB ≤ 0)))).cell? ⟨w.heap.size + 1, 1, none⟩ = some (.int .i64 vn) := HE4.out.v.cell 1 _ rfl
      have v2 : (w4.setCell ⟨g, 2, none⟩ (.bool (decide (CB ≤ 0)))).cell? ⟨w.heap.size + 1, 2, none⟩ = some (.string ⟨vs.toArray⟩) := HE4.out.v.cell 2 _ rfl
      have p0 : (w4.setCell ⟨g, 2, none⟩ (.bool (decide (CB ≤ 0)))).cell? ⟨g, 0, none⟩ = some (.bool false) := HE4.out.o.cell 0 _ rfl
      have pf0 : (w4.setCell ⟨g, 2, none⟩ (.bool (decide (CB ≤ 0)))).frozen? ⟨g, 0, none⟩ = false := HE4.out.o.free 0
      cases NA with
      | false =>
        simp only [Bool.not_false] at na ⊢
        have HE5 := Lib.hid (HFIN.out _ _ HE4.out true)
        have HR := Lib.hid HE5.out.told
        have o0 : ((w4.setCell ⟨g, 2, none⟩ (.bool (decide (CB ≤ 0)))).setCell ⟨g, 0, none⟩ (.bool true)).cell? ⟨g, 0, none⟩ = some (.bool true) := HE5.out.o.cell 0 _ rfl
        have o1 : ((w4.setCell ⟨g, 2, none⟩ (.bool (decide (CB ≤ 0)))).setCell ⟨g, 0, none⟩ (.bool true)).cell? ⟨g, 1, none⟩ = some (.bool x1) := HE5.out.o.cell 1 _ rfl
        have o2 : ((w4.setCell ⟨g, 2, none⟩ (.bool (decide (CB ≤ 0)))).setCell ⟨g, 0, none⟩ (.bool true)).cell? ⟨g, 2, none⟩ = some (.bool (decide (CB ≤ 0))) := HE5.out.o.cell 2 _ rfl
        have r0 : ((w4.setCell ⟨g, 2, none⟩ (.bool (decide (CB ≤ 0)))).setCell ⟨g, 0, none⟩ (.bool true)).cell? ⟨w.heap.size + 1 + 1, 0, none⟩ = some (.bool false) := HE5.out.r.cell 0 _ rfl
        have r1 : ((w4.setCell ⟨g, 2, none⟩ (.bool (decide (CB ≤ 0)))).setCell ⟨g, 0, none⟩ (.bool true)).cell? ⟨w.heap.size + 1 + 1, 1, none⟩ = some (.bool false) := HE5.out.r.cell 1 _ rfl
        have r2 : ((w4.setCell ⟨g, 2, none⟩ (.bool (decide (CB ≤ 0)))).setCell ⟨g, 0, none⟩ (.bool true)).cell? ⟨w.heap.size + 1 + 1, 2, none⟩ = some (.bool false) := HE5.out.r.cell 2 _ rfl
        have rf0 : ((w4.setCell ⟨g, 2, none⟩ (.bool (decide (CB ≤ 0)))).setCell ⟨g, 0, none⟩ (.bool true)).frozen? ⟨w.heap.size + 1 + 1, 0, none⟩ = false := HE5.out.r.free 0
        have rf1 : ((w4.setCell ⟨g, 2, none⟩ (.bool (decide (CB ≤ 0)))).setCell ⟨g, 0, none⟩ (.bool true)).frozen? ⟨w.heap.size + 1 + 1, 1, none⟩ = false := HE5.out.r.free 1
        have rf2 : ((w4.setCell ⟨g, 2, none⟩ (.bool (decide (CB ≤ 0)))).setCell ⟨g, 0, none⟩ (.bool true)).frozen? ⟨w.heap.size + 1 + 1, 2, none⟩ = false := HE5.out.r.free 2
        go_wp2_with fail
        refine bodyPost_ret (results_cell_row (P := Try.prog) (fn := Try.f22) rfl _ _ (w.heap.size + 1 + 1) 40 _ (0, 0) _ rfl HR.out.1 Try.underlying40 rfl (by kernel_rfl)) rfl ?_
        exact ⟨by rw [HCA.out]; rfl, HR.out.2⟩
      | true =>
        simp only [Bool.not_true] at na ⊢
        have HE5 := Lib.hid (HFIN.out _ _ HE4.out (!NB))
        have HR := Lib.hid HE5.out.told
        have o0 : ((w4.setCell ⟨g, 2, none⟩ (.bool (decide (CB ≤ 0)))).setCell ⟨g, 0, none⟩ (.bool (!NB))).cell? ⟨g, 0, none⟩ = some (.bool (!NB)) := HE5.out.o.cell 0 _ rfl
        have o1 : ((w4.setCell ⟨g, 2, none⟩ (.bool (decide (CB ≤ 0)))).setCell ⟨g, 0, none⟩ (.bool (!NB))).cell? ⟨g, 1, none⟩ = some (.bool x1) := HE5.out.o.cell 1 _ rfl
        have o2 : ((w4.setCell ⟨g, 2, none⟩ (.bool (decide (CB ≤ 0)))).setCell ⟨g, 0, none⟩ (.bool (!NB))).cell? ⟨g, 2, none⟩ = some (.bool (decide (CB ≤ 0))) := HE5.out.o.cell 2 _ rfl
        have r0 : ((w4.setCell ⟨g, 2, none⟩ (.bool (decide (CB ≤ 0)))).setCell ⟨g, 0, none⟩ (.bool (!NB))).cell? ⟨w.heap.size + 1 + 1, 0, none⟩ = some (.bool false) := HE5.out.r.cell 0 _ rfl
        have r1 : ((w4.setCell ⟨g, 2, none⟩ (.bool (decide (CB ≤ 0)))).setCell ⟨g, 0, none⟩ (.bool (!NB))).cell? ⟨w.heap.size + 1 + 1, 1, none⟩ = some (.bool false) := HE5.out.r.cell 1 _ rfl
        have r2 : ((w4.setCell ⟨g, 2, none⟩ (.bool (decide (CB ≤ 0)))).setCell ⟨g, 0, none⟩ (.bool (!NB))).cell? ⟨w.heap.size + 1 + 1, 2, none⟩ = some (.bool false) := HE5.out.r.cell 2 _ rfl
        have rf0 : ((w4.setCell ⟨g, 2, none⟩ (.bool (decide (CB ≤ 0)))).setCell ⟨g, 0, none⟩ (.bool (!NB))).frozen? ⟨w.heap.size + 1 + 1, 0, none⟩ = false := HE5.out.r.free 0
        have rf1 : ((w4.setCell ⟨g, 2, none⟩ (.bool (decide (CB ≤ 0)))).setCell ⟨g, 0, none⟩ (.bool (!NB))).frozen? ⟨w.heap.size + 1 + 1, 1, none⟩ = false := HE5.out.r.free 1
        have rf2 : ((w4.setCell ⟨g, 2, none⟩ (.bool (decide (CB ≤ 0)))).setCell ⟨g, 0, none⟩ (.bool (!NB))).frozen? ⟨w.heap.size + 1 + 1, 2, none⟩ = false := HE5.out.r.free 2
        go_wp2_with fail
        refine bodyPost_ret (results_cell_row (P := Try.prog) (fn := Try.f22) rfl _ _ (w.heap.size + 1 + 1) 40 _ (0, 0) _ rfl HR.out.1 Try.underlying40 rfl (by kernel_rfl)) rfl ?_
        exact ⟨by rw [HCA.out]; rfl, HR.out.2⟩

end Go.Proofs.Ytlbilmmjcfiokaa
