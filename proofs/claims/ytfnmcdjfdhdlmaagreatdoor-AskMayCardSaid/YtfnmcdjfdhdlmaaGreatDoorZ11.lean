/-
  Texts of this proof, merged: ZoneRef2, ZoneP5.
-/
import Derived.Test.YtfnmcdjfdhdlmaaGreatDoorZ3
import Derived.Test.YtfnmcdjfdhdlmaaGreatDoorZ10
/-
  The contracts of the document's own zones: what may come of it.
-/
namespace Go.Proofs.YtfnmcdjfdhdlmaaGreatDoor
open Go.RowKit Go.BigFrame

theorem neq_val (a b : V) (w : World) : (binOp .neq 36 a.val b.val).run Tryz.prog w = .ok (.bool (!decide (a = b))) w := by
  obtain ⟨k, n, s⟩ := a
  obtain ⟨k', n', s'⟩ := b
  unfold V.val
  simp only [V.mk.injEq]
  simp [go_sem]
  by_cases h1 : k = k' <;> by_cases h2 : n = n' <;> by_cases h3 : s = s' <;> simp [h1, h2, h3]
theorem blk_1 (w : World) (o o' : Obj) (xs : List Value) (t : TypeId) : Blk (((w.alloc o).alloc (.cells xs.toArray t)).alloc o') (w.heap.size + 1) xs t := by
  have h := Blk.new (w.alloc o) xs t
  simp only [World.alloc, Array.size_push] at h
  exact Blk.ext h (ext_new _ _)
theorem blk_2 (w : World) (o o' o2 : Obj) (xs : List Value) (t : TypeId) : Blk ((((w.alloc o).alloc o').alloc (.cells xs.toArray t)).alloc o2) (w.heap.size + 1 + 1) xs t := by
  have h := Blk.new ((w.alloc o).alloc o') xs t
  simp only [World.alloc, Array.size_push] at h
  exact Blk.ext h (ext_new _ _)
theorem ext_3 (w : World) (a b c : Obj) : Ext w (((w.alloc a).alloc b).alloc c) := Ext.trans (Ext.trans (ext_new _ _) (ext_new _ _)) (ext_new _ _)
theorem ext_4 (w : World) (a b c d : Obj) : Ext w ((((w.alloc a).alloc b).alloc c).alloc d) := Ext.trans (ext_3 w a b c) (ext_new _ _)

set_option maxRecDepth 100000 in
theorem refNullZ_any (z : Zo) (w : World) :
    Calls Tryz.prog 56 #[z.val] w fun e w' => e = .returned (tripV (nullZ z)) ∧ Ext w w' := by
  obtain ⟨⟨ak, an, as'⟩, ⟨bk, bn, bs⟩, pn, pm⟩ := z
  unfold Zo.val nullZ tripV
  simp only
  go_enter Tryz.func56, Tryz.ntmps56
  go_wp2_with fail
  refine bodyPost_ret (results_cell_row (P := Tryz.prog) (fn := Tryz.f56) rfl _ _ (w.heap.size + 1) 32 _ (0, 0) _ rfl (blk_1 w _ _ [_, _, _] _) Tryz.underlying32 rfl (by kernel_rfl)) rfl ?_
  exact ⟨rfl, ext_3 w _ _ _⟩

set_option maxRecDepth 100000 in
theorem refUnknownZ_any (z : Zo) (v : V) (w : World) :
    Calls Tryz.prog 80 #[z.val, v.val] w fun e w' => e = .returned (tripV (false, unkZ z v, false)) ∧ Ext w w' := by
  obtain ⟨⟨ak, an, as'⟩, ⟨bk, bn, bs⟩, pn, pm⟩ := z
  obtain ⟨vk, vn, vs⟩ := v
  unfold Zo.val V.val tripV
  simp only
  obtain ⟨x, hx⟩ : ∃ x, unkZ ⟨⟨ak, an, as'⟩, ⟨bk, bn, bs⟩, pn, pm⟩ ⟨vk, vn, vs⟩ = x := ⟨_, rfl⟩
  rw [hx]
  unfold unkZ at hx
  simp only at hx
  have HX := Lib.hid hx
  clear hx
  by_cases h1 : 0 < pn
  · have d1 : decide (0 < pn) = true := decide_eq_true h1
    have HQ := Lib.hid (show x = true by rw [← HX.out, d1]; rfl)
    clear h1
    go_enter Tryz.func80, Tryz.ntmps80
    go_wp2_with fail
    refine bodyPost_ret (results_cell_row (P := Tryz.prog) (fn := Tryz.f80) rfl _ _ (w.heap.size + 1 + 1) 32 _ (0, 0) _ rfl (blk_2 w _ _ _ [_, _, _] _) Tryz.underlying32 rfl (by kernel_rfl)) rfl ?_
    exact ⟨by rw [HQ.out], ext_4 w _ _ _ _⟩
  · have d1 : decide (0 < pn) = false := decide_eq_false h1
    clear h1
    by_cases h2 : vk = 0
    · subst h2
      have HQ := Lib.hid (show x = decide (0 < pm) by rw [← HX.out, d1]; simp)
      go_enter Tryz.func80, Tryz.ntmps80
      go_wp2_with fail
      refine bodyPost_ret (results_cell_row (P := Tryz.prog) (fn := Tryz.f80) rfl _ _ (w.heap.size + 1 + 1) 32 _ (0, 0) _ rfl (blk_2 w _ _ _ [_, _, _] _) Tryz.underlying32 rfl (by kernel_rfl)) rfl ?_
      exact ⟨by rw [HQ.out], ext_4 w _ _ _ _⟩
    · have q : (vk == (0 : Int)) = false := beq_eq_false_iff_ne.2 h2
      have HQ := Lib.hid (show x = false by rw [← HX.out, d1, decide_eq_false h2]; rfl)
      clear h2
      go_enter Tryz.func80, Tryz.ntmps80
      go_wp2_with fail
      refine bodyPost_ret (results_cell_row (P := Tryz.prog) (fn := Tryz.f80) rfl _ _ (w.heap.size + 1 + 1) 32 _ (0, 0) _ rfl (blk_2 w _ _ _ [_, _, _] _) Tryz.underlying32 rfl (by kernel_rfl)) rfl ?_
      exact ⟨by rw [HQ.out], ext_4 w _ _ _ _⟩

/-- Where Equal and Less stand: the zone, the value, the answer's place, the answer under way (block g). -/
structure EZ (w : World) (z : Zo) (v : V) (g : Nat) (x0 x1 x2 : Bool) (W : World) : Prop where
  z : Blk W w.heap.size z.cells 47
  v : Blk W (w.heap.size + 1) v.cells 36
  r : Blk W (w.heap.size + 1 + 1) [.bool false, .bool false, .bool false] 32
  o : Blk W g [.bool x0, .bool x1, .bool x2] 32
  g : w.heap.size + 1 + 1 < g
  x : Ext w W
theorem EZ.ext {w : World} {z : Zo} {v : V} {g : Nat} {x0 x1 x2 : Bool} {W W' : World} (h : EZ w z v g x0 x1 x2 W) (hx : Ext W W') : EZ w z v g x0 x1 x2 W' := ⟨h.z.ext hx, h.v.ext hx, h.r.ext hx, h.o.ext hx, h.g, Ext.trans h.x hx⟩
theorem EZ.start {w w1 : World} {z : Zo} {v : V} (x0 x1 x2 : Bool) (h : Ext (((w.alloc (.cells z.cells.toArray 47)).alloc (.cells v.cells.toArray 36)).alloc (.cells #[.bool false, .bool false, .bool false] 32)) w1) :
    EZ w z v w1.heap.size x0 x1 x2 (w1.alloc (.cells #[.bool x0, .bool x1, .bool x2] 32)) := by
  have h1 := Blk.new w z.cells 47
  have h2 := Blk.new (w.alloc (.cells z.cells.toArray 47)) v.cells 36
  have h3 := Blk.new ((w.alloc (.cells z.cells.toArray 47)).alloc (.cells v.cells.toArray 36)) [.bool false, .bool false, .bool false] 32
  have hs := h.size
  simp only [World.alloc, Array.size_push] at h2 h3 hs
  exact ⟨(((h1.ext (ext_new _ _)).ext (ext_new _ _)).ext h).ext (ext_new _ _), ((Blk.ext h2 (ext_new _ _)).ext h).ext (ext_new _ _), (Blk.ext h3 h).ext (ext_new _ _), Blk.new w1 [.bool x0, .bool x1, .bool x2] _, by omega,
    Ext.trans (Ext.trans (ext_3 w _ _ _) h) (ext_new _ _)⟩
theorem EZ.set0 {w : World} {z : Zo} {v : V} {g : Nat} {x0 x1 x2 : Bool} {W : World} (h : EZ w z v g x0 x1 x2 W) (y : Bool) : EZ w z v g y x1 x2 (W.setCell ⟨g, 0, none⟩ (.bool y)) := by
  have := h.g
  exact ⟨h.z.beside (by omega) _ _, h.v.beside (by omega) _ _, h.r.beside (by omega) _ _, h.o.set 0 _, h.g, Below.setCell h.x (by show w.heap.size ≤ g; omega) _⟩
theorem EZ.set2 {w : World} {z : Zo} {v : V} {g : Nat} {x0 x1 x2 : Bool} {W : World} (h : EZ w z v g x0 x1 x2 W) (y : Bool) : EZ w z v g x0 x1 y (W.setCell ⟨g, 2, none⟩ (.bool y)) := by
  have := h.g
  exact ⟨h.z.beside (by omega) _ _, h.v.beside (by omega) _ _, h.r.beside (by omega) _ _, h.o.set 2 _, h.g, Below.setCell h.x (by show w.heap.size ≤ g; omega) _⟩
theorem EZ.told {w : World} {z : Zo} {v : V} {g : Nat} {x0 x1 x2 : Bool} {W : World} (h : EZ w z v g x0 x1 x2 W) :
    Blk (((W.setCell ⟨w.heap.size + 1 + 1, 0, none⟩ (.bool x0)).setCell ⟨w.heap.size + 1 + 1, 1, none⟩ (.bool x1)).setCell ⟨w.heap.size + 1 + 1, 2, none⟩ (.bool x2)) (w.heap.size + 1 + 1) [.bool x0, .bool x1, .bool x2] 32 ∧
      Ext w (((W.setCell ⟨w.heap.size + 1 + 1, 0, none⟩ (.bool x0)).setCell ⟨w.heap.size + 1 + 1, 1, none⟩ (.bool x1)).setCell ⟨w.heap.size + 1 + 1, 2, none⟩ (.bool x2)) := by
  have hk : w.heap.size ≤ w.heap.size + 1 + 1 := by omega
  exact ⟨((h.r.set 0 _).set 1 _).set 2 _, Below.setCell (Below.setCell (Below.setCell h.x hk _) hk _) hk _⟩

set_option maxRecDepth 100000 in
set_option maxHeartbeats 4000000 in
theorem refLessZ_any (z : Zo) (v : V) (w : World) (hz : z.fits) (hv : v.fits) :
    Calls Tryz.prog 55 #[z.val, v.val] w fun e w' => e = .returned (tripV (lessZ z v)) ∧ Ext w w' := by
  have HU := Lib.hid (refUnknownZ_any z v)
  have HA := Lib.hid (refCompare_any z.a v hz.a hv)
  have HB := Lib.hid (refCompare_any z.b v hz.b hv)
  obtain ⟨⟨ak, an, as'⟩, ⟨bk, bn, bs⟩, pn, pm⟩ := z
  obtain ⟨vk, vn, vs⟩ := v
  obtain ⟨c, hc⟩ : ∃ c, hasZ ⟨⟨ak, an, as'⟩, ⟨bk, bn, bs⟩, pn, pm⟩ ⟨vk, vn, vs⟩ = c := ⟨_, rfl⟩
  obtain ⟨x1, hx1⟩ : ∃ x, unkZ ⟨⟨ak, an, as'⟩, ⟨bk, bn, bs⟩, pn, pm⟩ ⟨vk, vn, vs⟩ = x := ⟨_, rfl⟩
  have HC := Lib.hid hc
  rw [hx1] at HU
  obtain ⟨e0, he0⟩ : ∃ e, (lessZ ⟨⟨ak, an, as'⟩, ⟨bk, bn, bs⟩, pn, pm⟩ ⟨vk, vn, vs⟩).1 = e := ⟨_, rfl⟩
  obtain ⟨e2, he2⟩ : ∃ e, (lessZ ⟨⟨ak, an, as'⟩, ⟨bk, bn, bs⟩, pn, pm⟩ ⟨vk, vn, vs⟩).2.2 = e := ⟨_, rfl⟩
  have hans : lessZ ⟨⟨ak, an, as'⟩, ⟨bk, bn, bs⟩, pn, pm⟩ ⟨vk, vn, vs⟩ = (e0, x1, e2) := by rw [← he0, ← he2, ← hx1]; rfl
  have HF := Lib.hid (fun (h : c = false) => (show e0 = false ∧ e2 = false from by
    rw [← he0, ← he2]
    unfold lessZ
    rw [hc, h]
    exact ⟨rfl, rfl⟩))
  have HT := Lib.hid (fun (h : c = true) => (show e0 = decide (0 ≤ cmpV ⟨bk, bn, bs⟩ ⟨vk, vn, vs⟩) ∧ e2 = decide (cmpV ⟨ak, an, as'⟩ ⟨vk, vn, vs⟩ < 0) from by
    rw [← he0, ← he2]
    unfold lessZ
    rw [hc, h]
    exact ⟨rfl, rfl⟩))
  rw [hans]
  clear hans he0 he2
  unfold Zo.val V.val tripV at HU ⊢
  unfold V.val at HA HB
  simp only at HA HB
  simp only at HU ⊢
  generalize cmpV ⟨bk, bn, bs⟩ ⟨vk, vn, vs⟩ = CB at HB HT
  generalize cmpV ⟨ak, an, as'⟩ ⟨vk, vn, vs⟩ = CA at HA HT
  clear hz hv hc hx1
  go_enter Tryz.func55, Tryz.ntmps55
  go_wp2_with fail
  refine (HU.out _).mono ?_
  rintro e w1 ⟨rfl, hx⟩
  have HE := Lib.hid (EZ.start (w := w) (z := ⟨⟨ak, an, as'⟩, ⟨bk, bn, bs⟩, pn, pm⟩) (v := ⟨vk, vn, vs⟩) false x1 false hx)
  obtain ⟨g, hg⟩ : ∃ g, w1.heap.size = g := ⟨_, rfl⟩
  clear hx HU
  have z6 : (w1.alloc (.cells #[.bool false, .bool x1, .bool false] 32)).cell? ⟨w.heap.size, 6, none⟩ = some (.int .i64 pn) := HE.out.z.cell 6 _ rfl
  have z7 : (w1.alloc (.cells #[.bool false, .bool x1, .bool false] 32)).cell? ⟨w.heap.size, 7, none⟩ = some (.int .i64 pm) := HE.out.z.cell 7 _ rfl
  have v0 : (w1.alloc (.cells #[.bool false, .bool x1, .bool false] 32)).cell? ⟨w.heap.size + 1, 0, none⟩ = some (.int .u8 vk) := HE.out.v.cell 0 _ rfl
  go_upto_region 2 with fail
  rw [hg] at HE
  try rw [hg]
  go_cut [18] from 6 (fun s18 W => s18 = .bool c ∧ EZ w ⟨⟨ak, an, as'⟩, ⟨bk, bn, bs⟩, pn, pm⟩ ⟨vk, vn, vs⟩ g false x1 false W)
  case first =>
    by_cases h1 : pn < pm
    · have d1 : decide (pn < pm) = true := decide_eq_true h1
      by_cases h2 : vk = 0
      · have HQ := Lib.hid (show c = false by rw [← HC.out]; unfold hasZ; simp only; rw [decide_eq_true h2]; simp)
        have q1 : (vk == (0 : Int)) = true := beq_iff_eq.2 h2
        have q2 : (vk != (0 : Int)) = false := by simp [h2]
        clear h1 h2
        go_wp2_with fail
        go_meet
        exact ⟨by rw [HQ.out], HE.out⟩
      · have HQ := Lib.hid (show c = true by rw [← HC.out]; unfold hasZ; simp only; rw [d1, decide_eq_false h2]; rfl)
        have q1 : (vk == (0 : Int)) = false := beq_eq_false_iff_ne.2 h2
        have q2 : (vk != (0 : Int)) = true := bne_iff_ne.2 h2
        clear h1 h2
        go_wp2_with fail
        go_meet
        exact ⟨by rw [HQ.out], HE.out⟩
    · have d1 : decide (pn < pm) = false := decide_eq_false h1
      have HQ := Lib.hid (show c = false by rw [← HC.out]; unfold hasZ; simp only; rw [d1]; rfl)
      clear h1
      go_wp2_with fail
      go_meet
      exact ⟨by rw [HQ.out], HE.out⟩
  case rest =>
  clear z6 z7 v0 hg
  obtain ⟨rfl, hm⟩ := hcut
  replace HE := Lib.hid hm
  clear hm
  go_upto_if 18 with fail
  go_cut [] from 6 (fun W => EZ w ⟨⟨ak, an, as'⟩, ⟨bk, bn, bs⟩, pn, pm⟩ ⟨vk, vn, vs⟩ g e0 x1 e2 W)
  case first =>
    cases c with
    | false =>
      go_wp2_with fail
      go_meet
      rw [(HF.out (by first | rfl | trivial)).1, (HF.out (by first | rfl | trivial)).2]
      exact HE.out
    | true =>
      have z0 : (wc).cell? ⟨w.heap.size, 0, none⟩ = some (.int .u8 ak) := HE.out.z.cell 0 _ rfl
      have z1 : (wc).cell? ⟨w.heap.size, 1, none⟩ = some (.int .i64 an) := HE.out.z.cell 1 _ rfl
      have z2 : (wc).cell? ⟨w.heap.size, 2, none⟩ = some (.string ⟨Array.mk as'⟩) := HE.out.z.cell 2 _ rfl
      have v0 : (wc).cell? ⟨w.heap.size + 1, 0, none⟩ = some (.int .u8 vk) := HE.out.v.cell 0 _ rfl
      have v1 : (wc).cell? ⟨w.heap.size + 1, 1, none⟩ = some (.int .i64 vn) := HE.out.v.cell 1 _ rfl
      have v2 : (wc).cell? ⟨w.heap.size + 1, 2, none⟩ = some (.string ⟨Array.mk vs⟩) := HE.out.v.cell 2 _ rfl
      go_upto_region 3 with fail
      go_cut [] from 6 (fun W => EZ w ⟨⟨ak, an, as'⟩, ⟨bk, bn, bs⟩, pn, pm⟩ ⟨vk, vn, vs⟩ g false x1 e2 W)
      case first =>
        go_wp2_with fail
        refine (HA.out _).mono ?_
        rintro e w2 ⟨rfl, hx⟩
        have HE2 := Lib.hid (HE.out.ext hx)
        clear hx
        have o2 : w2.cell? ⟨g, 2, none⟩ = some (.bool false) := HE2.out.o.cell 2 _ rfl
        have of2 : w2.frozen? ⟨g, 2, none⟩ = false := HE2.out.o.free 2
        go_wp2_with fail
        go_meet
        rw [(HT.out (by first | rfl | trivial)).2]
        exact HE2.out.set2 _
      case rest =>
      clear z0 z1 z2 v0 v1 v2
      replace HE := Lib.hid hcut
      clear hcut
      have z3 : (wc).cell? ⟨w.heap.size, 3, none⟩ = some (.int .u8 bk) := HE.out.z.cell 3 _ rfl
      have z4 : (wc).cell? ⟨w.heap.size, 4, none⟩ = some (.int .i64 bn) := HE.out.z.cell 4 _ rfl
      have z5 : (wc).cell? ⟨w.heap.size, 5, none⟩ = some (.string ⟨Array.mk bs⟩) := HE.out.z.cell 5 _ rfl
      have v0 : (wc).cell? ⟨w.heap.size + 1, 0, none⟩ = some (.int .u8 vk) := HE.out.v.cell 0 _ rfl
      have v1 : (wc).cell? ⟨w.heap.size + 1, 1, none⟩ = some (.int .i64 vn) := HE.out.v.cell 1 _ rfl
      have v2 : (wc).cell? ⟨w.heap.size + 1, 2, none⟩ = some (.string ⟨Array.mk vs⟩) := HE.out.v.cell 2 _ rfl
      go_wp2_with fail
      refine (HB.out _).mono ?_
      rintro e w2 ⟨rfl, hx⟩
      have HE2 := Lib.hid (HE.out.ext hx)
      clear hx
      have o0 : w2.cell? ⟨g, 0, none⟩ = some (.bool false) := HE2.out.o.cell 0 _ rfl
      have of0 : w2.frozen? ⟨g, 0, none⟩ = false := HE2.out.o.free 0
      go_wp2_with fail
      go_meet
      rw [(HT.out (by first | rfl | trivial)).1]
      exact HE2.out.set0 _
  case rest =>
  replace HE := Lib.hid hcut
  have HR := Lib.hid hcut.told
  clear hcut
  have o0 : wc.cell? ⟨g, 0, none⟩ = some (.bool e0) := HE.out.o.cell 0 _ rfl
  have o1 : wc.cell? ⟨g, 1, none⟩ = some (.bool x1) := HE.out.o.cell 1 _ rfl
  have o2 : wc.cell? ⟨g, 2, none⟩ = some (.bool e2) := HE.out.o.cell 2 _ rfl
  have r0 : wc.cell? ⟨w.heap.size + 1 + 1, 0, none⟩ = some (.bool false) := HE.out.r.cell 0 _ rfl
  have r1 : wc.cell? ⟨w.heap.size + 1 + 1, 1, none⟩ = some (.bool false) := HE.out.r.cell 1 _ rfl
  have r2 : wc.cell? ⟨w.heap.size + 1 + 1, 2, none⟩ = some (.bool false) := HE.out.r.cell 2 _ rfl
  have rf0 : wc.frozen? ⟨w.heap.size + 1 + 1, 0, none⟩ = false := HE.out.r.free 0
  have rf1 : wc.frozen? ⟨w.heap.size + 1 + 1, 1, none⟩ = false := HE.out.r.free 1
  have rf2 : wc.frozen? ⟨w.heap.size + 1 + 1, 2, none⟩ = false := HE.out.r.free 2
  go_wp2_with fail
  refine bodyPost_ret (results_cell_row (P := Tryz.prog) (fn := Tryz.f55) rfl _ _ (w.heap.size + 1 + 1) 32 _ (0, 0) _ rfl HR.out.1 Tryz.underlying32 rfl (by kernel_rfl)) rfl ?_
  exact ⟨rfl, HR.out.2⟩

set_option maxRecDepth 100000 in
set_option maxHeartbeats 4000000 in
theorem refEqualZ_any (z : Zo) (v : V) (w : World) (hz : z.fits) (hv : v.fits) :
    Calls Tryz.prog 54 #[z.val, v.val] w fun e w' => e = .returned (tripV (equalZ z v)) ∧ Ext w w' := by
  have HU := Lib.hid (refUnknownZ_any z v)
  have HA := Lib.hid (refCompare_any v z.a hv hz.a)
  have HB := Lib.hid (refCompare_any v z.b hv hz.b)
  have HNA := Lib.hid (fun W => neq_val z.a v W)
  have HNB := Lib.hid (fun W => neq_val z.b v W)
  obtain ⟨⟨ak, an, as'⟩, ⟨bk, bn, bs⟩, pn, pm⟩ := z
  obtain ⟨vk, vn, vs⟩ := v
  obtain ⟨c, hc⟩ : ∃ c, hasZ ⟨⟨ak, an, as'⟩, ⟨bk, bn, bs⟩, pn, pm⟩ ⟨vk, vn, vs⟩ = c := ⟨_, rfl⟩
  obtain ⟨x1, hx1⟩ : ∃ x, unkZ ⟨⟨ak, an, as'⟩, ⟨bk, bn, bs⟩, pn, pm⟩ ⟨vk, vn, vs⟩ = x := ⟨_, rfl⟩
  have HC := Lib.hid hc
  rw [hx1] at HU
  obtain ⟨e0, he0⟩ : ∃ e, (equalZ ⟨⟨ak, an, as'⟩, ⟨bk, bn, bs⟩, pn, pm⟩ ⟨vk, vn, vs⟩).1 = e := ⟨_, rfl⟩
  obtain ⟨e2, he2⟩ : ∃ e, (equalZ ⟨⟨ak, an, as'⟩, ⟨bk, bn, bs⟩, pn, pm⟩ ⟨vk, vn, vs⟩).2.2 = e := ⟨_, rfl⟩
  have hans : equalZ ⟨⟨ak, an, as'⟩, ⟨bk, bn, bs⟩, pn, pm⟩ ⟨vk, vn, vs⟩ = (e0, x1, e2) := by rw [← he0, ← he2, ← hx1]; rfl
  have HF := Lib.hid (fun (h : c = false) => (show e0 = false ∧ e2 = false from by
    rw [← he0, ← he2]
    unfold equalZ
    rw [hc, h]
    exact ⟨rfl, rfl⟩))
  have HT := Lib.hid (fun (h : c = true) => (show e0 = (!decide ((⟨ak, an, as'⟩ : V) = ⟨vk, vn, vs⟩) || !decide ((⟨bk, bn, bs⟩ : V) = ⟨vk, vn, vs⟩)) ∧ e2 = (decide (0 ≤ cmpV ⟨vk, vn, vs⟩ ⟨ak, an, as'⟩) && decide (cmpV ⟨vk, vn, vs⟩ ⟨bk, bn, bs⟩ ≤ 0)) from by
    rw [← he0, ← he2]
    unfold equalZ
    rw [hc, h]
    exact ⟨rfl, rfl⟩))
  rw [hans]
  clear hans he0 he2
  unfold Zo.val V.val tripV at HU ⊢
  unfold V.val at HA HB HNA HNB
  simp only at HA HB HNA HNB
  simp only at HU ⊢
  generalize cmpV ⟨vk, vn, vs⟩ ⟨bk, bn, bs⟩ = CB at HB HT
  generalize cmpV ⟨vk, vn, vs⟩ ⟨ak, an, as'⟩ = CA at HA HT
  generalize decide ((⟨ak, an, as'⟩ : V) = ⟨vk, vn, vs⟩) = NA at HNA HT
  generalize decide ((⟨bk, bn, bs⟩ : V) = ⟨vk, vn, vs⟩) = NB at HNB HT
  clear hz hv hc hx1
  go_enter Tryz.func54, Tryz.ntmps54
  go_wp2_with fail
  refine (HU.out _).mono ?_
  rintro e w1 ⟨rfl, hx⟩
  have HE := Lib.hid (EZ.start (w := w) (z := ⟨⟨ak, an, as'⟩, ⟨bk, bn, bs⟩, pn, pm⟩) (v := ⟨vk, vn, vs⟩) false x1 false hx)
  obtain ⟨g, hg⟩ : ∃ g, w1.heap.size = g := ⟨_, rfl⟩
  clear hx HU
  have z6 : (w1.alloc (.cells #[.bool false, .bool x1, .bool false] 32)).cell? ⟨w.heap.size, 6, none⟩ = some (.int .i64 pn) := HE.out.z.cell 6 _ rfl
  have z7 : (w1.alloc (.cells #[.bool false, .bool x1, .bool false] 32)).cell? ⟨w.heap.size, 7, none⟩ = some (.int .i64 pm) := HE.out.z.cell 7 _ rfl
  have v0 : (w1.alloc (.cells #[.bool false, .bool x1, .bool false] 32)).cell? ⟨w.heap.size + 1, 0, none⟩ = some (.int .u8 vk) := HE.out.v.cell 0 _ rfl
  go_upto_region 2 with fail
  rw [hg] at HE
  try rw [hg]
  go_cut [18] from 6 (fun s18 W => s18 = .bool c ∧ EZ w ⟨⟨ak, an, as'⟩, ⟨bk, bn, bs⟩, pn, pm⟩ ⟨vk, vn, vs⟩ g false x1 false W)
  case first =>
    by_cases h1 : pn < pm
    · have d1 : decide (pn < pm) = true := decide_eq_true h1
      by_cases h2 : vk = 0
      · have HQ := Lib.hid (show c = false by rw [← HC.out]; unfold hasZ; simp only; rw [decide_eq_true h2]; simp)
        have q1 : (vk == (0 : Int)) = true := beq_iff_eq.2 h2
        have q2 : (vk != (0 : Int)) = false := by simp [h2]
        clear h1 h2
        go_wp2_with fail
        go_meet
        exact ⟨by rw [HQ.out], HE.out⟩
      · have HQ := Lib.hid (show c = true by rw [← HC.out]; unfold hasZ; simp only; rw [d1, decide_eq_false h2]; rfl)
        have q1 : (vk == (0 : Int)) = false := beq_eq_false_iff_ne.2 h2
        have q2 : (vk != (0 : Int)) = true := bne_iff_ne.2 h2
        clear h1 h2
        go_wp2_with fail
        go_meet
        exact ⟨by rw [HQ.out], HE.out⟩
    · have d1 : decide (pn < pm) = false := decide_eq_false h1
      have HQ := Lib.hid (show c = false by rw [← HC.out]; unfold hasZ; simp only; rw [d1]; rfl)
      clear h1
      go_wp2_with fail
      go_meet
      exact ⟨by rw [HQ.out], HE.out⟩
  case rest =>
  clear z6 z7 v0 hg
  obtain ⟨rfl, hm⟩ := hcut
  replace HE := Lib.hid hm
  clear hm
  go_upto_if 18 with fail
  go_cut [] from 6 (fun W => EZ w ⟨⟨ak, an, as'⟩, ⟨bk, bn, bs⟩, pn, pm⟩ ⟨vk, vn, vs⟩ g e0 x1 e2 W)
  case first =>
    cases c with
    | false =>
      go_wp2_with fail
      go_meet
      rw [(HF.out (by first | rfl | trivial)).1, (HF.out (by first | rfl | trivial)).2]
      exact HE.out
    | true =>
      have z0 : (wc).cell? ⟨w.heap.size, 0, none⟩ = some (.int .u8 ak) := HE.out.z.cell 0 _ rfl
      have z1 : (wc).cell? ⟨w.heap.size, 1, none⟩ = some (.int .i64 an) := HE.out.z.cell 1 _ rfl
      have z2 : (wc).cell? ⟨w.heap.size, 2, none⟩ = some (.string ⟨Array.mk as'⟩) := HE.out.z.cell 2 _ rfl
      have v0 : (wc).cell? ⟨w.heap.size + 1, 0, none⟩ = some (.int .u8 vk) := HE.out.v.cell 0 _ rfl
      have v1 : (wc).cell? ⟨w.heap.size + 1, 1, none⟩ = some (.int .i64 vn) := HE.out.v.cell 1 _ rfl
      have v2 : (wc).cell? ⟨w.heap.size + 1, 2, none⟩ = some (.string ⟨Array.mk vs⟩) := HE.out.v.cell 2 _ rfl
      go_upto_region 3 with fail
      go_cut [] from 6 (fun W => EZ w ⟨⟨ak, an, as'⟩, ⟨bk, bn, bs⟩, pn, pm⟩ ⟨vk, vn, vs⟩ g false x1 e2 W)
      case first =>
        cases hd : decide (0 ≤ CA) with
        | false =>
          go_wp2_with fail
          refine (HA.out _).mono ?_
          rintro e w2 ⟨rfl, hx⟩
          have HE2 := Lib.hid (HE.out.ext hx)
          clear hx
          have o2 : w2.cell? ⟨g, 2, none⟩ = some (.bool false) := HE2.out.o.cell 2 _ rfl
          have of2 : w2.frozen? ⟨g, 2, none⟩ = false := HE2.out.o.free 2
          go_wp2_with fail
          go_meet
          rw [(HT.out (by first | rfl | trivial)).2, hd]
          exact HE2.out.set2 _
        | true =>
          go_wp2_with fail
          refine (HA.out _).mono ?_
          rintro e w2 ⟨rfl, hx⟩
          have HE2 := Lib.hid (HE.out.ext hx)
          clear hx
          have y0 : w2.cell? ⟨w.heap.size + 1, 0, none⟩ = some (.int .u8 vk) := HE2.out.v.cell 0 _ rfl
          have y1 : w2.cell? ⟨w.heap.size + 1, 1, none⟩ = some (.int .i64 vn) := HE2.out.v.cell 1 _ rfl
          have y2 : w2.cell? ⟨w.heap.size + 1, 2, none⟩ = some (.string ⟨Array.mk vs⟩) := HE2.out.v.cell 2 _ rfl
          have y3 : w2.cell? ⟨w.heap.size, 3, none⟩ = some (.int .u8 bk) := HE2.out.z.cell 3 _ rfl
          have y4 : w2.cell? ⟨w.heap.size, 4, none⟩ = some (.int .i64 bn) := HE2.out.z.cell 4 _ rfl
          have y5 : w2.cell? ⟨w.heap.size, 5, none⟩ = some (.string ⟨Array.mk bs⟩) := HE2.out.z.cell 5 _ rfl
          go_wp2_with fail
          refine (HB.out _).mono ?_
          rintro e w3 ⟨rfl, hx⟩
          have HE3 := Lib.hid (HE2.out.ext hx)
          clear hx
          have o2 : w3.cell? ⟨g, 2, none⟩ = some (.bool false) := HE3.out.o.cell 2 _ rfl
          have of2 : w3.frozen? ⟨g, 2, none⟩ = false := HE3.out.o.free 2
          go_wp2_with fail
          go_meet
          rw [(HT.out (by first | rfl | trivial)).2, hd, Bool.true_and]
          exact HE3.out.set2 _
      case rest =>
      clear z0 z1 z2 v0 v1 v2
      replace HE := Lib.hid hcut
      clear hcut
      have z0 : (wc).cell? ⟨w.heap.size, 0, none⟩ = some (.int .u8 ak) := HE.out.z.cell 0 _ rfl
      have z1 : (wc).cell? ⟨w.heap.size, 1, none⟩ = some (.int .i64 an) := HE.out.z.cell 1 _ rfl
      have z2 : (wc).cell? ⟨w.heap.size, 2, none⟩ = some (.string ⟨Array.mk as'⟩) := HE.out.z.cell 2 _ rfl
      have z3 : (wc).cell? ⟨w.heap.size, 3, none⟩ = some (.int .u8 bk) := HE.out.z.cell 3 _ rfl
      have z4 : (wc).cell? ⟨w.heap.size, 4, none⟩ = some (.int .i64 bn) := HE.out.z.cell 4 _ rfl
      have z5 : (wc).cell? ⟨w.heap.size, 5, none⟩ = some (.string ⟨Array.mk bs⟩) := HE.out.z.cell 5 _ rfl
      have v0 : (wc).cell? ⟨w.heap.size + 1, 0, none⟩ = some (.int .u8 vk) := HE.out.v.cell 0 _ rfl
      have v1 : (wc).cell? ⟨w.heap.size + 1, 1, none⟩ = some (.int .i64 vn) := HE.out.v.cell 1 _ rfl
      have v2 : (wc).cell? ⟨w.heap.size + 1, 2, none⟩ = some (.string ⟨Array.mk vs⟩) := HE.out.v.cell 2 _ rfl
      have o0 : wc.cell? ⟨g, 0, none⟩ = some (.bool false) := HE.out.o.cell 0 _ rfl
      have of0 : wc.frozen? ⟨g, 0, none⟩ = false := HE.out.o.free 0
      have na := HNA.out
      have nb := HNB.out
      cases NA with
      | false =>
        simp only [Bool.not_false] at na
        go_wp2_with fail
        go_meet
        rw [(HT.out (by first | rfl | trivial)).1]
        exact HE.out.set0 _
      | true =>
        simp only [Bool.not_true] at na
        go_wp2_with fail
        go_meet
        rw [(HT.out (by first | rfl | trivial)).1]
        exact HE.out.set0 _
  case rest =>
  replace HE := Lib.hid hcut
  have HR := Lib.hid hcut.told
  clear hcut
  have o0 : wc.cell? ⟨g, 0, none⟩ = some (.bool e0) := HE.out.o.cell 0 _ rfl
  have o1 : wc.cell? ⟨g, 1, none⟩ = some (.bool x1) := HE.out.o.cell 1 _ rfl
  have o2 : wc.cell? ⟨g, 2, none⟩ = some (.bool e2) := HE.out.o.cell 2 _ rfl
  have r0 : wc.cell? ⟨w.heap.size + 1 + 1, 0, none⟩ = some (.bool false) := HE.out.r.cell 0 _ rfl
  have r1 : wc.cell? ⟨w.heap.size + 1 + 1, 1, none⟩ = some (.bool false) := HE.out.r.cell 1 _ rfl
  have r2 : wc.cell? ⟨w.heap.size + 1 + 1, 2, none⟩ = some (.bool false) := HE.out.r.cell 2 _ rfl
  have rf0 : wc.frozen? ⟨w.heap.size + 1 + 1, 0, none⟩ = false := HE.out.r.free 0
  have rf1 : wc.frozen? ⟨w.heap.size + 1 + 1, 1, none⟩ = false := HE.out.r.free 1
  have rf2 : wc.frozen? ⟨w.heap.size + 1 + 1, 2, none⟩ = false := HE.out.r.free 2
  go_wp2_with fail
  refine bodyPost_ret (results_cell_row (P := Tryz.prog) (fn := Tryz.f54) rfl _ _ (w.heap.size + 1 + 1) 32 _ (0, 0) _ rfl HR.out.1 Tryz.underlying32 rfl (by kernel_rfl)) rfl ?_
  exact ⟨rfl, HR.out.2⟩

end Go.Proofs.YtfnmcdjfdhdlmaaGreatDoor

/-
  The program's contracts of zones: what may come of a condition.
-/
namespace Go.Proofs.YtfnmcdjfdhdlmaaGreatDoor
open Go.RowKit Go.BigFrame

set_option maxRecDepth 100000 in
theorem pNullZ_any (z : Zo) (w : World) :
    Calls Tryz.prog 52 #[z.val] w fun e w' => e = .returned (tripV (nullZ z)) ∧ Ext w w' := by
  obtain ⟨⟨ak, an, as'⟩, ⟨bk, bn, bs⟩, pn, pm⟩ := z
  unfold Zo.val nullZ tripV
  simp only
  have HR := Lib.hid (fun (o : Obj) (xs : List Value) (t : TypeId) => (show Blk ((w.alloc o).alloc (.cells xs.toArray t)) (w.heap.size + 1) xs t by
    have h := Blk.new (w.alloc o) xs t
    simp only [World.alloc, Array.size_push] at h
    exact h))
  go_enter Tryz.func52, Tryz.ntmps52
  go_wp2_with fail
  refine bodyPost_ret (results_cell_row (P := Tryz.prog) (fn := Tryz.f52) rfl _ _ (w.heap.size + 1) 32 _ (0, 0) _ rfl (HR.out _ [_, _, _] _) Tryz.underlying32 rfl (by kernel_rfl)) rfl ?_
  exact ⟨rfl, Ext.trans (ext_new _ _) (ext_new _ _)⟩

set_option maxRecDepth 100000 in
theorem pUnknownZ_any (z : Zo) (v : V) (w : World) :
    Calls Tryz.prog 75 #[z.val, v.val] w fun e w' => e = .returned (.bool (unkZ z v)) ∧ Ext w w' := by
  obtain ⟨⟨ak, an, as'⟩, ⟨bk, bn, bs⟩, pn, pm⟩ := z
  obtain ⟨vk, vn, vs⟩ := v
  unfold Zo.val V.val
  simp only
  have HX := Lib.hid (Ext.trans (ext_new w (.cells #[.int .u8 ak, .int .i64 an, .string ⟨as'.toArray⟩, .int .u8 bk, .int .i64 bn, .string ⟨bs.toArray⟩, .int .i64 pn, .int .i64 pm] 47)) (ext_new _ (.cells #[.int .u8 vk, .int .i64 vn, .string ⟨vs.toArray⟩] 36)))
  obtain ⟨x, hx⟩ : ∃ x, unkZ ⟨⟨ak, an, as'⟩, ⟨bk, bn, bs⟩, pn, pm⟩ ⟨vk, vn, vs⟩ = x := ⟨_, rfl⟩
  rw [hx]
  unfold unkZ at hx
  simp only at hx
  have HQ0 := Lib.hid hx
  clear hx
  by_cases h1 : 0 < pn
  · have d1 : decide (0 < pn) = true := decide_eq_true h1
    have HQ := Lib.hid (show x = true by rw [← HQ0.out, d1]; rfl)
    clear h1
    go_enter Tryz.func75, Tryz.ntmps75
    go_wp2_with fail
    go_ret
    exact ⟨by rw [HQ.out]; rfl, HX.out⟩
  · have d1 : decide (0 < pn) = false := decide_eq_false h1
    clear h1
    by_cases h2 : vk = 0
    · subst h2
      have HQ := Lib.hid (show x = decide (0 < pm) by rw [← HQ0.out, d1]; simp)
      go_enter Tryz.func75, Tryz.ntmps75
      go_wp2_with fail
      go_ret
      exact ⟨by rw [HQ.out]; rfl, HX.out⟩
    · have q : (vk == (0 : Int)) = false := beq_eq_false_iff_ne.2 h2
      have HQ := Lib.hid (show x = false by rw [← HQ0.out, d1, decide_eq_false h2]; rfl)
      clear h2
      go_enter Tryz.func75, Tryz.ntmps75
      go_wp2_with fail
      go_ret
      exact ⟨by rw [HQ.out]; rfl, HX.out⟩

set_option maxRecDepth 100000 in
theorem pKnownZ_any (z : Zo) (v : V) (w : World) :
    Calls Tryz.prog 76 #[z.val, v.val] w fun e w' => e = .returned (.bool (hasZ z v)) ∧ Ext w w' := by
  obtain ⟨⟨ak, an, as'⟩, ⟨bk, bn, bs⟩, pn, pm⟩ := z
  obtain ⟨vk, vn, vs⟩ := v
  unfold Zo.val V.val
  simp only
  have HX := Lib.hid (Ext.trans (ext_new w (.cells #[.int .u8 ak, .int .i64 an, .string ⟨as'.toArray⟩, .int .u8 bk, .int .i64 bn, .string ⟨bs.toArray⟩, .int .i64 pn, .int .i64 pm] 47)) (ext_new _ (.cells #[.int .u8 vk, .int .i64 vn, .string ⟨vs.toArray⟩] 36)))
  obtain ⟨x, hx⟩ : ∃ x, hasZ ⟨⟨ak, an, as'⟩, ⟨bk, bn, bs⟩, pn, pm⟩ ⟨vk, vn, vs⟩ = x := ⟨_, rfl⟩
  rw [hx]
  unfold hasZ at hx
  simp only at hx
  have HQ0 := Lib.hid hx
  clear hx
  by_cases h1 : pn < pm
  · have d1 : decide (pn < pm) = true := decide_eq_true h1
    clear h1
    by_cases h2 : vk = 0
    · have q : (vk != (0 : Int)) = false := by simp [h2]
      have HQ := Lib.hid (show x = false by rw [← HQ0.out, d1, decide_eq_true h2]; rfl)
      clear h2
      go_enter Tryz.func76, Tryz.ntmps76
      go_wp2_with fail
      go_ret
      exact ⟨by rw [HQ.out]; rfl, HX.out⟩
    · have q : (vk != (0 : Int)) = true := bne_iff_ne.2 h2
      have HQ := Lib.hid (show x = true by rw [← HQ0.out, d1, decide_eq_false h2]; rfl)
      clear h2
      go_enter Tryz.func76, Tryz.ntmps76
      go_wp2_with fail
      go_ret
      exact ⟨by rw [HQ.out]; rfl, HX.out⟩
  · have d1 : decide (pn < pm) = false := decide_eq_false h1
    have HQ := Lib.hid (show x = false by rw [← HQ0.out, d1]; rfl)
    clear h1
    go_enter Tryz.func76, Tryz.ntmps76
    go_wp2_with fail
    go_ret
    exact ⟨by rw [HQ.out]; rfl, HX.out⟩

set_option maxRecDepth 100000 in
set_option maxHeartbeats 4000000 in
theorem pLessZ_any (z : Zo) (v : V) (w : World) (hz : z.fits) (hv : v.fits) (hs : z.small 5000) (hl : v.s.length ≤ 5000) :
    Calls Tryz.prog 50 #[z.val, v.val] w fun e w' => e = .returned (tripV (lessZ z v)) ∧ Ext w w' := by
  have HU := Lib.hid (pUnknownZ_any z v)
  have HK := Lib.hid (pKnownZ_any z v)
  have HA := Lib.hid (fun W => Compare_any z.a v hz.a hv hs.1 hl W)
  have HB := Lib.hid (fun W => Compare_any z.b v hz.b hv hs.2 hl W)
  rw [show lessZ z v = (hasZ z v && decide (0 ≤ cmpV z.b v), unkZ z v, hasZ z v && decide (cmpV z.a v < 0)) from rfl]
  generalize unkZ z v = x1 at HU ⊢
  generalize hasZ z v = c at HK ⊢
  generalize cmpV z.a v = CA at HA ⊢
  generalize cmpV z.b v = CB at HB ⊢
  obtain ⟨⟨ak, an, as'⟩, ⟨bk, bn, bs⟩, pn, pm⟩ := z
  obtain ⟨vk, vn, vs⟩ := v
  unfold Zo.val V.val at HU HK
  unfold V.val at HA HB
  unfold Zo.val V.val tripV
  simp only at HU HK HA HB ⊢
  clear hz hv hs hl
  go_enter Tryz.func50, Tryz.ntmps50
  go_wp2_with fail
  refine (HU.out _).mono ?_
  rintro e w1 ⟨rfl, hx⟩
  have HE := Lib.hid (EZ.start (w := w) (z := ⟨⟨ak, an, as'⟩, ⟨bk, bn, bs⟩, pn, pm⟩) (v := ⟨vk, vn, vs⟩) false x1 false hx)
  obtain ⟨g, hg⟩ : ∃ g, w1.heap.size = g := ⟨_, rfl⟩
  clear hx HU
  have z0 : (w1.alloc (.cells #[.bool false, .bool x1, .bool false] 32)).cell? ⟨w.heap.size, 0, none⟩ = some (.int .u8 ak) := HE.out.z.cell 0 _ rfl
  have z1 : (w1.alloc (.cells #[.bool false, .bool x1, .bool false] 32)).cell? ⟨w.heap.size, 1, none⟩ = some (.int .i64 an) := HE.out.z.cell 1 _ rfl
  have z2 : (w1.alloc (.cells #[.bool false, .bool x1, .bool false] 32)).cell? ⟨w.heap.size, 2, none⟩ = some (.string ⟨as'.toArray⟩) := HE.out.z.cell 2 _ rfl
  have z3 : (w1.alloc (.cells #[.bool false, .bool x1, .bool false] 32)).cell? ⟨w.heap.size, 3, none⟩ = some (.int .u8 bk) := HE.out.z.cell 3 _ rfl
  have z4 : (w1.alloc (.cells #[.bool false, .bool x1, .bool false] 32)).cell? ⟨w.heap.size, 4, none⟩ = some (.int .i64 bn) := HE.out.z.cell 4 _ rfl
  have z5 : (w1.alloc (.cells #[.bool false, .bool x1, .bool false] 32)).cell? ⟨w.heap.size, 5, none⟩ = some (.string ⟨bs.toArray⟩) := HE.out.z.cell 5 _ rfl
  have z6 : (w1.alloc (.cells #[.bool false, .bool x1, .bool false] 32)).cell? ⟨w.heap.size, 6, none⟩ = some (.int .i64 pn) := HE.out.z.cell 6 _ rfl
  have z7 : (w1.alloc (.cells #[.bool false, .bool x1, .bool false] 32)).cell? ⟨w.heap.size, 7, none⟩ = some (.int .i64 pm) := HE.out.z.cell 7 _ rfl
  have v0 : (w1.alloc (.cells #[.bool false, .bool x1, .bool false] 32)).cell? ⟨w.heap.size + 1, 0, none⟩ = some (.int .u8 vk) := HE.out.v.cell 0 _ rfl
  have v1 : (w1.alloc (.cells #[.bool false, .bool x1, .bool false] 32)).cell? ⟨w.heap.size + 1, 1, none⟩ = some (.int .i64 vn) := HE.out.v.cell 1 _ rfl
  have v2 : (w1.alloc (.cells #[.bool false, .bool x1, .bool false] 32)).cell? ⟨w.heap.size + 1, 2, none⟩ = some (.string ⟨vs.toArray⟩) := HE.out.v.cell 2 _ rfl
  go_wp2_with fail
  rw [hg] at HE
  try rw [hg]
  refine (HK.out _).mono ?_
  rintro e w2 ⟨rfl, hx⟩
  have HE2 := Lib.hid (HE.out.ext hx)
  clear hx hg HE z0 z1 z2 z3 z4 z5 z6 z7 v0 v1 v2
  cases c with
  | false =>
    have HR := Lib.hid HE2.out.told
    have o0 : w2.cell? ⟨g, 0, none⟩ = some (.bool false) := HE2.out.o.cell 0 _ rfl
    have o1 : w2.cell? ⟨g, 1, none⟩ = some (.bool x1) := HE2.out.o.cell 1 _ rfl
    have o2 : w2.cell? ⟨g, 2, none⟩ = some (.bool false) := HE2.out.o.cell 2 _ rfl
    have r0 : w2.cell? ⟨w.heap.size + 1 + 1, 0, none⟩ = some (.bool false) := HE2.out.r.cell 0 _ rfl
    have r1 : w2.cell? ⟨w.heap.size + 1 + 1, 1, none⟩ = some (.bool false) := HE2.out.r.cell 1 _ rfl
    have r2 : w2.cell? ⟨w.heap.size + 1 + 1, 2, none⟩ = some (.bool false) := HE2.out.r.cell 2 _ rfl
    have rf0 : w2.frozen? ⟨w.heap.size + 1 + 1, 0, none⟩ = false := HE2.out.r.free 0
    have rf1 : w2.frozen? ⟨w.heap.size + 1 + 1, 1, none⟩ = false := HE2.out.r.free 1
    have rf2 : w2.frozen? ⟨w.heap.size + 1 + 1, 2, none⟩ = false := HE2.out.r.free 2
    go_wp2_with fail
    refine bodyPost_ret (results_cell_row (P := Tryz.prog) (fn := Tryz.f50) rfl _ _ (w.heap.size + 1 + 1) 32 _ (0, 0) _ rfl HR.out.1 Tryz.underlying32 rfl (by kernel_rfl)) rfl ?_
    exact ⟨rfl, HR.out.2⟩
  | true =>
    have z0 : w2.cell? ⟨w.heap.size, 0, none⟩ = some (.int .u8 ak) := HE2.out.z.cell 0 _ rfl
    have z1 : w2.cell? ⟨w.heap.size, 1, none⟩ = some (.int .i64 an) := HE2.out.z.cell 1 _ rfl
    have z2 : w2.cell? ⟨w.heap.size, 2, none⟩ = some (.string ⟨as'.toArray⟩) := HE2.out.z.cell 2 _ rfl
    have z3 : w2.cell? ⟨w.heap.size, 3, none⟩ = some (.int .u8 bk) := HE2.out.z.cell 3 _ rfl
    have z4 : w2.cell? ⟨w.heap.size, 4, none⟩ = some (.int .i64 bn) := HE2.out.z.cell 4 _ rfl
    have z5 : w2.cell? ⟨w.heap.size, 5, none⟩ = some (.string ⟨bs.toArray⟩) := HE2.out.z.cell 5 _ rfl
    have z6 : w2.cell? ⟨w.heap.size, 6, none⟩ = some (.int .i64 pn) := HE2.out.z.cell 6 _ rfl
    have z7 : w2.cell? ⟨w.heap.size, 7, none⟩ = some (.int .i64 pm) := HE2.out.z.cell 7 _ rfl
    have v0 : w2.cell? ⟨w.heap.size + 1, 0, none⟩ = some (.int .u8 vk) := HE2.out.v.cell 0 _ rfl
    have v1 : w2.cell? ⟨w.heap.size + 1, 1, none⟩ = some (.int .i64 vn) := HE2.out.v.cell 1 _ rfl
    have v2 : w2.cell? ⟨w.heap.size + 1, 2, none⟩ = some (.string ⟨vs.toArray⟩) := HE2.out.v.cell 2 _ rfl
    go_wp2_with fail
    refine (HA.out _).mono ?_
    rintro e w3 ⟨rfl, hx⟩
    have HE3 := Lib.hid (HE2.out.ext hx)
    clear hx z0 z1 z2 z3 z4 z5 z6 z7 v0 v1 v2
    have o2 : w3.cell? ⟨g, 2, none⟩ = some (.bool false) := HE3.out.o.cell 2 _ rfl
    have of2 : w3.frozen? ⟨g, 2, none⟩ = false := HE3.out.o.free 2
    have HE4 := Lib.hid (HE3.out.set2 (decide (CA < 0)))
    have z3 : (w3.setCell ⟨g, 2, none⟩ (.bool (decide (CA < 0)))).cell? ⟨w.heap.size, 3, none⟩ = some (.int .u8 bk) := HE4.out.z.cell 3 _ rfl
    have z4 : (w3.setCell ⟨g, 2, none⟩ (.bool (decide (CA < 0)))).cell? ⟨w.heap.size, 4, none⟩ = some (.int .i64 bn) := HE4.out.z.cell 4 _ rfl
    have z5 : (w3.setCell ⟨g, 2, none⟩ (.bool (decide (CA < 0)))).cell? ⟨w.heap.size, 5, none⟩ = some (.string ⟨bs.toArray⟩) := HE4.out.z.cell 5 _ rfl
    have v0 : (w3.setCell ⟨g, 2, none⟩ (.bool (decide (CA < 0)))).cell? ⟨w.heap.size + 1, 0, none⟩ = some (.int .u8 vk) := HE4.out.v.cell 0 _ rfl
    have v1 : (w3.setCell ⟨g, 2, none⟩ (.bool (decide (CA < 0)))).cell? ⟨w.heap.size + 1, 1, none⟩ = some (.int .i64 vn) := HE4.out.v.cell 1 _ rfl
    have v2 : (w3.setCell ⟨g, 2, none⟩ (.bool (decide (CA < 0)))).cell? ⟨w.heap.size + 1, 2, none⟩ = some (.string ⟨vs.toArray⟩) := HE4.out.v.cell 2 _ rfl
    go_wp2_with fail
    refine (HB.out _).mono ?_
    rintro e w4 ⟨rfl, hx⟩
    have HE5 := Lib.hid (HE4.out.ext hx)
    clear hx o2 of2 z3 z4 z5 v0 v1 v2
    have HE6 := Lib.hid (HE5.out.set0 (decide (0 ≤ CB)))
    have p0 : w4.cell? ⟨g, 0, none⟩ = some (.bool false) := HE5.out.o.cell 0 _ rfl
    have pf0 : w4.frozen? ⟨g, 0, none⟩ = false := HE5.out.o.free 0
    have HR := Lib.hid HE6.out.told
    have o0 : (w4.setCell ⟨g, 0, none⟩ (.bool (decide (0 ≤ CB)))).cell? ⟨g, 0, none⟩ = some (.bool (decide (0 ≤ CB))) := HE6.out.o.cell 0 _ rfl
    have o1 : (w4.setCell ⟨g, 0, none⟩ (.bool (decide (0 ≤ CB)))).cell? ⟨g, 1, none⟩ = some (.bool x1) := HE6.out.o.cell 1 _ rfl
    have o2 : (w4.setCell ⟨g, 0, none⟩ (.bool (decide (0 ≤ CB)))).cell? ⟨g, 2, none⟩ = some (.bool (decide (CA < 0))) := HE6.out.o.cell 2 _ rfl
    have r0 : (w4.setCell ⟨g, 0, none⟩ (.bool (decide (0 ≤ CB)))).cell? ⟨w.heap.size + 1 + 1, 0, none⟩ = some (.bool false) := HE6.out.r.cell 0 _ rfl
    have r1 : (w4.setCell ⟨g, 0, none⟩ (.bool (decide (0 ≤ CB)))).cell? ⟨w.heap.size + 1 + 1, 1, none⟩ = some (.bool false) := HE6.out.r.cell 1 _ rfl
    have r2 : (w4.setCell ⟨g, 0, none⟩ (.bool (decide (0 ≤ CB)))).cell? ⟨w.heap.size + 1 + 1, 2, none⟩ = some (.bool false) := HE6.out.r.cell 2 _ rfl
    have rf0 : (w4.setCell ⟨g, 0, none⟩ (.bool (decide (0 ≤ CB)))).frozen? ⟨w.heap.size + 1 + 1, 0, none⟩ = false := HE6.out.r.free 0
    have rf1 : (w4.setCell ⟨g, 0, none⟩ (.bool (decide (0 ≤ CB)))).frozen? ⟨w.heap.size + 1 + 1, 1, none⟩ = false := HE6.out.r.free 1
    have rf2 : (w4.setCell ⟨g, 0, none⟩ (.bool (decide (0 ≤ CB)))).frozen? ⟨w.heap.size + 1 + 1, 2, none⟩ = false := HE6.out.r.free 2
    go_wp2_with fail
    refine bodyPost_ret (results_cell_row (P := Tryz.prog) (fn := Tryz.f50) rfl _ _ (w.heap.size + 1 + 1) 32 _ (0, 0) _ rfl HR.out.1 Tryz.underlying32 rfl (by kernel_rfl)) rfl ?_
    exact ⟨rfl, HR.out.2⟩

set_option maxRecDepth 100000 in
set_option maxHeartbeats 4000000 in
theorem pEqualZ_any (z : Zo) (v : V) (w : World) (hz : z.fits) (hv : v.fits) (hs : z.small 5000) (hl : v.s.length ≤ 5000) :
    Calls Tryz.prog 49 #[z.val, v.val] w fun e w' => e = .returned (tripV (equalZ z v)) ∧ Ext w w' := by
  have HU := Lib.hid (pUnknownZ_any z v)
  have HK := Lib.hid (pKnownZ_any z v)
  have HA := Lib.hid (fun W => Compare_any v z.a hv hz.a hl hs.1 W)
  have HB := Lib.hid (fun W => Compare_any v z.b hv hz.b hl hs.2 W)
  have HNA := Lib.hid (fun W => neq_val z.a v W)
  have HNB := Lib.hid (fun W => neq_val z.b v W)
  rw [show equalZ z v = (hasZ z v && (!decide (z.a = v) || !decide (z.b = v)), unkZ z v, hasZ z v && (decide (0 ≤ cmpV v z.a) && decide (cmpV v z.b ≤ 0))) from rfl]
  generalize unkZ z v = x1 at HU ⊢
  generalize hasZ z v = c at HK ⊢
  generalize cmpV v z.a = CA at HA ⊢
  generalize cmpV v z.b = CB at HB ⊢
  generalize decide (z.a = v) = NA at HNA ⊢
  generalize decide (z.b = v) = NB at HNB ⊢
  obtain ⟨⟨ak, an, as'⟩, ⟨bk, bn, bs⟩, pn, pm⟩ := z
  obtain ⟨vk, vn, vs⟩ := v
  unfold Zo.val V.val at HU HK
  unfold V.val at HA HB HNA HNB
  unfold Zo.val V.val tripV
  simp only at HU HK HA HB HNA HNB ⊢
  clear hz hv hs hl
  go_enter Tryz.func49, Tryz.ntmps49
  go_wp2_with fail
  refine (HU.out _).mono ?_
  rintro e w1 ⟨rfl, hx⟩
  have HE := Lib.hid (EZ.start (w := w) (z := ⟨⟨ak, an, as'⟩, ⟨bk, bn, bs⟩, pn, pm⟩) (v := ⟨vk, vn, vs⟩) false x1 false hx)
  obtain ⟨g, hg⟩ : ∃ g, w1.heap.size = g := ⟨_, rfl⟩
  clear hx HU
  have z0 : (w1.alloc (.cells #[.bool false, .bool x1, .bool false] 32)).cell? ⟨w.heap.size, 0, none⟩ = some (.int .u8 ak) := HE.out.z.cell 0 _ rfl
  have z1 : (w1.alloc (.cells #[.bool false, .bool x1, .bool false] 32)).cell? ⟨w.heap.size, 1, none⟩ = some (.int .i64 an) := HE.out.z.cell 1 _ rfl
  have z2 : (w1.alloc (.cells #[.bool false, .bool x1, .bool false] 32)).cell? ⟨w.heap.size, 2, none⟩ = some (.string ⟨as'.toArray⟩) := HE.out.z.cell 2 _ rfl
  have z3 : (w1.alloc (.cells #[.bool false, .bool x1, .bool false] 32)).cell? ⟨w.heap.size, 3, none⟩ = some (.int .u8 bk) := HE.out.z.cell 3 _ rfl
  have z4 : (w1.alloc (.cells #[.bool false, .bool x1, .bool false] 32)).cell? ⟨w.heap.size, 4, none⟩ = some (.int .i64 bn) := HE.out.z.cell 4 _ rfl
  have z5 : (w1.alloc (.cells #[.bool false, .bool x1, .bool false] 32)).cell? ⟨w.heap.size, 5, none⟩ = some (.string ⟨bs.toArray⟩) := HE.out.z.cell 5 _ rfl
  have z6 : (w1.alloc (.cells #[.bool false, .bool x1, .bool false] 32)).cell? ⟨w.heap.size, 6, none⟩ = some (.int .i64 pn) := HE.out.z.cell 6 _ rfl
  have z7 : (w1.alloc (.cells #[.bool false, .bool x1, .bool false] 32)).cell? ⟨w.heap.size, 7, none⟩ = some (.int .i64 pm) := HE.out.z.cell 7 _ rfl
  have v0 : (w1.alloc (.cells #[.bool false, .bool x1, .bool false] 32)).cell? ⟨w.heap.size + 1, 0, none⟩ = some (.int .u8 vk) := HE.out.v.cell 0 _ rfl
  have v1 : (w1.alloc (.cells #[.bool false, .bool x1, .bool false] 32)).cell? ⟨w.heap.size + 1, 1, none⟩ = some (.int .i64 vn) := HE.out.v.cell 1 _ rfl
  have v2 : (w1.alloc (.cells #[.bool false, .bool x1, .bool false] 32)).cell? ⟨w.heap.size + 1, 2, none⟩ = some (.string ⟨vs.toArray⟩) := HE.out.v.cell 2 _ rfl
  go_wp2_with fail
  rw [hg] at HE
  try rw [hg]
  refine (HK.out _).mono ?_
  rintro e w2 ⟨rfl, hx⟩
  have HE2 := Lib.hid (HE.out.ext hx)
  clear hx hg HE z0 z1 z2 z3 z4 z5 z6 z7 v0 v1 v2
  cases c with
  | false =>
    have HR := Lib.hid HE2.out.told
    have o0 : w2.cell? ⟨g, 0, none⟩ = some (.bool false) := HE2.out.o.cell 0 _ rfl
    have o1 : w2.cell? ⟨g, 1, none⟩ = some (.bool x1) := HE2.out.o.cell 1 _ rfl
    have o2 : w2.cell? ⟨g, 2, none⟩ = some (.bool false) := HE2.out.o.cell 2 _ rfl
    have r0 : w2.cell? ⟨w.heap.size + 1 + 1, 0, none⟩ = some (.bool false) := HE2.out.r.cell 0 _ rfl
    have r1 : w2.cell? ⟨w.heap.size + 1 + 1, 1, none⟩ = some (.bool false) := HE2.out.r.cell 1 _ rfl
    have r2 : w2.cell? ⟨w.heap.size + 1 + 1, 2, none⟩ = some (.bool false) := HE2.out.r.cell 2 _ rfl
    have rf0 : w2.frozen? ⟨w.heap.size + 1 + 1, 0, none⟩ = false := HE2.out.r.free 0
    have rf1 : w2.frozen? ⟨w.heap.size + 1 + 1, 1, none⟩ = false := HE2.out.r.free 1
    have rf2 : w2.frozen? ⟨w.heap.size + 1 + 1, 2, none⟩ = false := HE2.out.r.free 2
    go_wp2_with fail
    refine bodyPost_ret (results_cell_row (P := Tryz.prog) (fn := Tryz.f49) rfl _ _ (w.heap.size + 1 + 1) 32 _ (0, 0) _ rfl HR.out.1 Tryz.underlying32 rfl (by kernel_rfl)) rfl ?_
    exact ⟨rfl, HR.out.2⟩
  | true =>
    have z0 : w2.cell? ⟨w.heap.size, 0, none⟩ = some (.int .u8 ak) := HE2.out.z.cell 0 _ rfl
    have z1 : w2.cell? ⟨w.heap.size, 1, none⟩ = some (.int .i64 an) := HE2.out.z.cell 1 _ rfl
    have z2 : w2.cell? ⟨w.heap.size, 2, none⟩ = some (.string ⟨as'.toArray⟩) := HE2.out.z.cell 2 _ rfl
    have z3 : w2.cell? ⟨w.heap.size, 3, none⟩ = some (.int .u8 bk) := HE2.out.z.cell 3 _ rfl
    have z4 : w2.cell? ⟨w.heap.size, 4, none⟩ = some (.int .i64 bn) := HE2.out.z.cell 4 _ rfl
    have z5 : w2.cell? ⟨w.heap.size, 5, none⟩ = some (.string ⟨bs.toArray⟩) := HE2.out.z.cell 5 _ rfl
    have z6 : w2.cell? ⟨w.heap.size, 6, none⟩ = some (.int .i64 pn) := HE2.out.z.cell 6 _ rfl
    have z7 : w2.cell? ⟨w.heap.size, 7, none⟩ = some (.int .i64 pm) := HE2.out.z.cell 7 _ rfl
    have v0 : w2.cell? ⟨w.heap.size + 1, 0, none⟩ = some (.int .u8 vk) := HE2.out.v.cell 0 _ rfl
    have v1 : w2.cell? ⟨w.heap.size + 1, 1, none⟩ = some (.int .i64 vn) := HE2.out.v.cell 1 _ rfl
    have v2 : w2.cell? ⟨w.heap.size + 1, 2, none⟩ = some (.string ⟨vs.toArray⟩) := HE2.out.v.cell 2 _ rfl
    go_wp2_with fail
    refine (HA.out _).mono ?_
    rintro e w3 ⟨rfl, hx⟩
    have HE3 := Lib.hid (HE2.out.ext hx)
    clear hx z0 z1 z2 z3 z4 z5 z6 z7 v0 v1 v2
    have HFIN := Lib.hid (show ∀ (W : World) (y2 : Bool), EZ w ⟨⟨ak, an, as'⟩, ⟨bk, bn, bs⟩, pn, pm⟩ ⟨vk, vn, vs⟩ g false x1 y2 W → ∀ b, EZ w ⟨⟨ak, an, as'⟩, ⟨bk, bn, bs⟩, pn, pm⟩ ⟨vk, vn, vs⟩ g b x1 y2 (W.setCell ⟨g, 0, none⟩ (.bool b)) from fun W y2 h b => h.set0 b)
    have na := HNA.out
    have nb := HNB.out
    cases hca : decide (0 ≤ CA) with
    | false =>
      have HCA := Lib.hid hca
      have o2 : w3.cell? ⟨g, 2, none⟩ = some (.bool false) := HE3.out.o.cell 2 _ rfl
      have of2 : w3.frozen? ⟨g, 2, none⟩ = false := HE3.out.o.free 2
      have HE4 := Lib.hid (HE3.out.set2 false)
      have z0 : (w3.setCell ⟨g, 2, none⟩ (.bool false)).cell? ⟨w.heap.size, 0, none⟩ = some (.int .u8 ak) := HE4.out.z.cell 0 _ rfl
      have z1 : (w3.setCell ⟨g, 2, none⟩ (.bool false)).cell? ⟨w.heap.size, 1, none⟩ = some (.int .i64 an) := HE4.out.z.cell 1 _ rfl
      have z2 : (w3.setCell ⟨g, 2, none⟩ (.bool false)).cell? ⟨w.heap.size, 2, none⟩ = some (.string ⟨as'.toArray⟩) := HE4.out.z.cell 2 _ rfl
      have z3 : (w3.setCell ⟨g, 2, none⟩ (.bool false)).cell? ⟨w.heap.size, 3, none⟩ = some (.int .u8 bk) := HE4.out.z.cell 3 _ rfl
      have z4 : (w3.setCell ⟨g, 2, none⟩ (.bool false)).cell? ⟨w.heap.size, 4, none⟩ = some (.int .i64 bn) := HE4.out.z.cell 4 _ rfl
      have z5 : (w3.setCell ⟨g, 2, none⟩ (.bool false)).cell? ⟨w.heap.size, 5, none⟩ = some (.string ⟨bs.toArray⟩) := HE4.out.z.cell 5 _ rfl
      have v0 : (w3.setCell ⟨g, 2, none⟩ (.bool false)).cell? ⟨w.heap.size + 1, 0, none⟩ = some (.int .u8 vk) := HE4.out.v.cell 0 _ rfl
      have v1 : (w3.setCell ⟨g, 2, none⟩ (.bool false)).cell? ⟨w.heap.size + 1, 1, none⟩ = some (.int .i64 vn) := HE4.out.v.cell 1 _ rfl
      have v2 : (w3.setCell ⟨g, 2, none⟩ (.bool false)).cell? ⟨w.heap.size + 1, 2, none⟩ = some (.string ⟨vs.toArray⟩) := HE4.out.v.cell 2 _ rfl
      have p0 : (w3.setCell ⟨g, 2, none⟩ (.bool false)).cell? ⟨g, 0, none⟩ = some (.bool false) := HE4.out.o.cell 0 _ rfl
      have pf0 : (w3.setCell ⟨g, 2, none⟩ (.bool false)).frozen? ⟨g, 0, none⟩ = false := HE4.out.o.free 0
      cases NA with
      | false =>
        simp only [Bool.not_false] at na ⊢
        have HE5 := Lib.hid (HFIN.out _ _ HE4.out true)
        have HR := Lib.hid HE5.out.told
        have o0 : ((w3.setCell ⟨g, 2, none⟩ (.bool false)).setCell ⟨g, 0, none⟩ (.bool true)).cell? ⟨g, 0, none⟩ = some (.bool true) := HE5.out.o.cell 0 _ rfl
        have o1 : ((w3.setCell ⟨g, 2, none⟩ (.bool false)).setCell ⟨g, 0, none⟩ (.bool true)).cell? ⟨g, 1, none⟩ = some (.bool x1) := HE5.out.o.cell 1 _ rfl
        have o2 : ((w3.setCell ⟨g, 2, none⟩ (.bool false)).setCell ⟨g, 0, none⟩ (.bool true)).cell? ⟨g, 2, none⟩ = some (.bool false) := HE5.out.o.cell 2 _ rfl
        have r0 : ((w3.setCell ⟨g, 2, none⟩ (.bool false)).setCell ⟨g, 0, none⟩ (.bool true)).cell? ⟨w.heap.size + 1 + 1, 0, none⟩ = some (.bool false) := HE5.out.r.cell 0 _ rfl
        have r1 : ((w3.setCell ⟨g, 2, none⟩ (.bool false)).setCell ⟨g, 0, none⟩ (.bool true)).cell? ⟨w.heap.size + 1 + 1, 1, none⟩ = some (.bool false) := HE5.out.r.cell 1 _ rfl
        have r2 : ((w3.setCell ⟨g, 2, none⟩ (.bool false)).setCell ⟨g, 0, none⟩ (.bool true)).cell? ⟨w.heap.size + 1 + 1, 2, none⟩ = some (.bool false) := HE5.out.r.cell 2 _ rfl
        have rf0 : ((w3.setCell ⟨g, 2, none⟩ (.bool false)).setCell ⟨g, 0, none⟩ (.bool true)).frozen? ⟨w.heap.size + 1 + 1, 0, none⟩ = false := HE5.out.r.free 0
        have rf1 : ((w3.setCell ⟨g, 2, none⟩ (.bool false)).setCell ⟨g, 0, none⟩ (.bool true)).frozen? ⟨w.heap.size + 1 + 1, 1, none⟩ = false := HE5.out.r.free 1
        have rf2 : ((w3.setCell ⟨g, 2, none⟩ (.bool false)).setCell ⟨g, 0, none⟩ (.bool true)).frozen? ⟨w.heap.size + 1 + 1, 2, none⟩ = false := HE5.out.r.free 2
        go_wp2_with fail
        refine bodyPost_ret (results_cell_row (P := Tryz.prog) (fn := Tryz.f49) rfl _ _ (w.heap.size + 1 + 1) 32 _ (0, 0) _ rfl HR.out.1 Tryz.underlying32 rfl (by kernel_rfl)) rfl ?_
        exact ⟨by rw [HCA.out]; rfl, HR.out.2⟩
      | true =>
        simp only [Bool.not_true] at na ⊢
        have HE5 := Lib.hid (HFIN.out _ _ HE4.out (!NB))
        have HR := Lib.hid HE5.out.told
        have o0 : ((w3.setCell ⟨g, 2, none⟩ (.bool false)).setCell ⟨g, 0, none⟩ (.bool (!NB))).cell? ⟨g, 0, none⟩ = some (.bool (!NB)) := HE5.out.o.cell 0 _ rfl
        have o1 : ((w3.setCell ⟨g, 2, none⟩ (.bool false)).setCell ⟨g, 0, none⟩ (.bool (!NB))).cell? ⟨g, 1, none⟩ = some (.bool x1) := HE5.out.o.cell 1 _ rfl
        have o2 : ((w3.setCell ⟨g, 2, none⟩ (.bool false)).setCell ⟨g, 0, none⟩ (.bool (!NB))).cell? ⟨g, 2, none⟩ = some (.bool false) := HE5.out.o.cell 2 _ rfl
        have r0 : ((w3.setCell ⟨g, 2, none⟩ (.bool false)).setCell ⟨g, 0, none⟩ (.bool (!NB))).cell? ⟨w.heap.size + 1 + 1, 0, none⟩ = some (.bool false) := HE5.out.r.cell 0 _ rfl
        have r1 : ((w3.setCell ⟨g, 2, none⟩ (.bool false)).setCell ⟨g, 0, none⟩ (.bool (!NB))).cell? ⟨w.heap.size + 1 + 1, 1, none⟩ = some (.bool false) := HE5.out.r.cell 1 _ rfl
        have r2 : ((w3.setCell ⟨g, 2, none⟩ (.bool false)).setCell ⟨g, 0, none⟩ (.bool (!NB))).cell? ⟨w.heap.size + 1 + 1, 2, none⟩ = some (.bool false) := HE5.out.r.cell 2 _ rfl
        have rf0 : ((w3.setCell ⟨g, 2, none⟩ (.bool false)).setCell ⟨g, 0, none⟩ (.bool (!NB))).frozen? ⟨w.heap.size + 1 + 1, 0, none⟩ = false := HE5.out.r.free 0
        have rf1 : ((w3.setCell ⟨g, 2, none⟩ (.bool false)).setCell ⟨g, 0, none⟩ (.bool (!NB))).frozen? ⟨w.heap.size + 1 + 1, 1, none⟩ = false := HE5.out.r.free 1
        have rf2 : ((w3.setCell ⟨g, 2, none⟩ (.bool false)).setCell ⟨g, 0, none⟩ (.bool (!NB))).frozen? ⟨w.heap.size + 1 + 1, 2, none⟩ = false := HE5.out.r.free 2
        go_wp2_with fail
        refine bodyPost_ret (results_cell_row (P := Tryz.prog) (fn := Tryz.f49) rfl _ _ (w.heap.size + 1 + 1) 32 _ (0, 0) _ rfl HR.out.1 Tryz.underlying32 rfl (by kernel_rfl)) rfl ?_
        exact ⟨by rw [HCA.out]; rfl, HR.out.2⟩
    | true =>
      have HCA := Lib.hid hca
      have z3 : w3.cell? ⟨w.heap.size, 3, none⟩ = some (.int .u8 bk) := HE3.out.z.cell 3 _ rfl
      have z4 : w3.cell? ⟨w.heap.size, 4, none⟩ = some (.int .i64 bn) := HE3.out.z.cell 4 _ rfl
      have z5 : w3.cell? ⟨w.heap.size, 5, none⟩ = some (.string ⟨bs.toArray⟩) := HE3.out.z.cell 5 _ rfl
      have v0 : w3.cell? ⟨w.heap.size + 1, 0, none⟩ = some (.int .u8 vk) := HE3.out.v.cell 0 _ rfl
      have v1 : w3.cell? ⟨w.heap.size + 1, 1, none⟩ = some (.int .i64 vn) := HE3.out.v.cell 1 _ rfl
      have v2 : w3.cell? ⟨w.heap.size + 1, 2, none⟩ = some (.string ⟨vs.toArray⟩) := HE3.out.v.cell 2 _ rfl
      go_wp2_with fail
      refine (HB.out _).mono ?_
      rintro e w4 ⟨rfl, hx⟩
      have HE3' := Lib.hid (HE3.out.ext hx)
      clear hx z3 z4 z5 v0 v1 v2
      have o2 : w4.cell? ⟨g, 2, none⟩ = some (.bool false) := HE3'.out.o.cell 2 _ rfl
      have of2 : w4.frozen? ⟨g, 2, none⟩ = false := HE3'.out.o.free 2
      have HE4 := Lib.hid (HE3'.out.set2 (decide (CB ≤ 0)))
      have z0 : (w4.setCell ⟨g, 2, none⟩ (.bool (decide (CB ≤ 0)))).cell? ⟨w.heap.size, 0, none⟩ = some (.int .u8 ak) := HE4.out.z.cell 0 _ rfl
      have z1 : (w4.setCell ⟨g, 2, none⟩ (.bool (decide (CB ≤ 0)))).cell? ⟨w.heap.size, 1, none⟩ = some (.int .i64 an) := HE4.out.z.cell 1 _ rfl
      have z2 : (w4.setCell ⟨g, 2, none⟩ (.bool (decide (CB ≤ 0)))).cell? ⟨w.heap.size, 2, none⟩ = some (.string ⟨as'.toArray⟩) := HE4.out.z.cell 2 _ rfl
      have z3 : (w4.setCell ⟨g, 2, none⟩ (.bool (decide (CB ≤ 0)))).cell? ⟨w.heap.size, 3, none⟩ = some (.int .u8 bk) := HE4.out.z.cell 3 _ rfl
      have z4 : (w4.setCell ⟨g, 2, none⟩ (.bool (decide (CB ≤ 0)))).cell? ⟨w.heap.size, 4, none⟩ = some (.int .i64 bn) := HE4.out.z.cell 4 _ rfl
      have z5 : (w4.setCell ⟨g, 2, none⟩ (.bool (decide (CB ≤ 0)))).cell? ⟨w.heap.size, 5, none⟩ = some (.string ⟨bs.toArray⟩) := HE4.out.z.cell 5 _ rfl
      have v0 : (w4.setCell ⟨g, 2, none⟩ (.bool (decide (CB ≤ 0)))).cell? ⟨w.heap.size + 1, 0, none⟩ = some (.int .u8 vk) := HE4.out.v.cell 0 _ rfl
      have v1 : (w4.setCell ⟨g, 2, none⟩ (.bool (decide (CB ≤ 0)))).cell? ⟨w.heap.size + 1, 1, none⟩ = some (.int .i64 vn) := HE4.out.v.cell 1 _ rfl
      have v2 : (w4.setCell ⟨g, 2, none⟩ (.bool (decide (CB ≤ 0)))).cell? ⟨w.heap.size + 1, 2, none⟩ = some (.string ⟨vs.toArray⟩) := HE4.out.v.cell 2 _ rfl
      have p0 : (w4.setCell ⟨g, 2, none⟩ (.bool (decide (CB ≤ 0)))).cell? ⟨g, 0, none⟩ = some (.bool false) := HE4.out.o.cell 0 _ rfl
      have pf0 : (w4.setCell ⟨g, 2, none⟩ (.bool (decide (CB ≤ 0)))).frozen? ⟨g, 0, none⟩ = false := HE4.out.o.free 0
      cases NA with
      | false =>
        simp only [Bool.not_false] at na ⊢
        have HE5 := Lib.hid (HFIN.out _ _ HE4.out true)
        have HR := Lib.hid HE5.out.told
        have o0 : ((w4.setCell ⟨g, 2, none⟩ (.bool (decide (CB ≤ 0)))).setCell ⟨g, 0, none⟩ (.bool true)).cell? ⟨g, 0, none⟩ = some (.bool true) := HE5.out.o.cell 0 _ rfl
        have o1 : ((w4.setCell ⟨g, 2, none⟩ (.bool (decide (CB ≤ 0)))).setCell ⟨g, 0, none⟩ (.bool true)).cell? ⟨g, 1, none⟩ = some (.bool x1) := HE5.out.o.cell 1 _ rfl
        have o2 : ((w4.setCell ⟨g, 2, none⟩ (.bool (decide (CB ≤ 0)))).setCell ⟨g, 0, none⟩ (.bool true)).cell? ⟨g, 2, none⟩ = some (.bool (decide (CB ≤ 0))) := HE5.out.o.cell 2 _ rfl
        have r0 : ((w4.setCell ⟨g, 2, none⟩ (.bool (decide (CB ≤ 0)))).setCell ⟨g, 0, none⟩ (.bool true)).cell? ⟨w.heap.size + 1 + 1, 0, none⟩ = some (.bool false) := HE5.out.r.cell 0 _ rfl
        have r1 : ((w4.setCell ⟨g, 2, none⟩ (.bool (decide (CB ≤ 0)))).setCell ⟨g, 0, none⟩ (.bool true)).cell? ⟨w.heap.size + 1 + 1, 1, none⟩ = some (.bool false) := HE5.out.r.cell 1 _ rfl
        have r2 : ((w4.setCell ⟨g, 2, none⟩ (.bool (decide (CB ≤ 0)))).setCell ⟨g, 0, none⟩ (.bool true)).cell? ⟨w.heap.size + 1 + 1, 2, none⟩ = some (.bool false) := HE5.out.r.cell 2 _ rfl
        have rf0 : ((w4.setCell ⟨g, 2, none⟩ (.bool (decide (CB ≤ 0)))).setCell ⟨g, 0, none⟩ (.bool true)).frozen? ⟨w.heap.size + 1 + 1, 0, none⟩ = false := HE5.out.r.free 0
        have rf1 : ((w4.setCell ⟨g, 2, none⟩ (.bool (decide (CB ≤ 0)))).setCell ⟨g, 0, none⟩ (.bool true)).frozen? ⟨w.heap.size + 1 + 1, 1, none⟩ = false := HE5.out.r.free 1
        have rf2 : ((w4.setCell ⟨g, 2, none⟩ (.bool (decide (CB ≤ 0)))).setCell ⟨g, 0, none⟩ (.bool true)).frozen? ⟨w.heap.size + 1 + 1, 2, none⟩ = false := HE5.out.r.free 2
        go_wp2_with fail
        refine bodyPost_ret (results_cell_row (P := Tryz.prog) (fn := Tryz.f49) rfl _ _ (w.heap.size + 1 + 1) 32 _ (0, 0) _ rfl HR.out.1 Tryz.underlying32 rfl (by kernel_rfl)) rfl ?_
        exact ⟨by rw [HCA.out]; rfl, HR.out.2⟩
      | true =>
        simp only [Bool.not_true] at na ⊢
        have HE5 := Lib.hid (HFIN.out _ _ HE4.out (!NB))
        have HR := Lib.hid HE5.out.told
        have o0 : ((w4.setCell ⟨g, 2, none⟩ (.bool (decide (CB ≤ 0)))).setCell ⟨g, 0, none⟩ (.bool (!NB))).cell? ⟨g, 0, none⟩ = some (.bool (!NB)) := HE5.out.o.cell 0 _ rfl
        have o1 : ((w4.setCell ⟨g, 2, none⟩ (.bool (decide (CB ≤ 0)))).setCell ⟨g, 0, none⟩ (.bool (!NB))).cell? ⟨g, 1, none⟩ = some (.bool x1) := HE5.out.o.cell 1 _ rfl
        have o2 : ((w4.setCell ⟨g, 2, none⟩ (.bool (decide (CB ≤ 0)))).setCell ⟨g, 0, none⟩ (.bool (!NB))).cell? ⟨g, 2, none⟩ = some (.bool (decide (CB ≤ 0))) := HE5.out.o.cell 2 _ rfl
        have r0 : ((w4.setCell ⟨g, 2, none⟩ (.bool (decide (CB ≤ 0)))).setCell ⟨g, 0, none⟩ (.bool (!NB))).cell? ⟨w.heap.size + 1 + 1, 0, none⟩ = some (.bool false) := HE5.out.r.cell 0 _ rfl
        have r1 : ((w4.setCell ⟨g, 2, none⟩ (.bool (decide (CB ≤ 0)))).setCell ⟨g, 0, none⟩ (.bool (!NB))).cell? ⟨w.heap.size + 1 + 1, 1, none⟩ = some (.bool false) := HE5.out.r.cell 1 _ rfl
        have r2 : ((w4.setCell ⟨g, 2, none⟩ (.bool (decide (CB ≤ 0)))).setCell ⟨g, 0, none⟩ (.bool (!NB))).cell? ⟨w.heap.size + 1 + 1, 2, none⟩ = some (.bool false) := HE5.out.r.cell 2 _ rfl
        have rf0 : ((w4.setCell ⟨g, 2, none⟩ (.bool (decide (CB ≤ 0)))).setCell ⟨g, 0, none⟩ (.bool (!NB))).frozen? ⟨w.heap.size + 1 + 1, 0, none⟩ = false := HE5.out.r.free 0
        have rf1 : ((w4.setCell ⟨g, 2, none⟩ (.bool (decide (CB ≤ 0)))).setCell ⟨g, 0, none⟩ (.bool (!NB))).frozen? ⟨w.heap.size + 1 + 1, 1, none⟩ = false := HE5.out.r.free 1
        have rf2 : ((w4.setCell ⟨g, 2, none⟩ (.bool (decide (CB ≤ 0)))).setCell ⟨g, 0, none⟩ (.bool (!NB))).frozen? ⟨w.heap.size + 1 + 1, 2, none⟩ = false := HE5.out.r.free 2
        go_wp2_with fail
        refine bodyPost_ret (results_cell_row (P := Tryz.prog) (fn := Tryz.f49) rfl _ _ (w.heap.size + 1 + 1) 32 _ (0, 0) _ rfl HR.out.1 Tryz.underlying32 rfl (by kernel_rfl)) rfl ?_
        exact ⟨by rw [HCA.out]; rfl, HR.out.2⟩

end Go.Proofs.YtfnmcdjfdhdlmaaGreatDoor
