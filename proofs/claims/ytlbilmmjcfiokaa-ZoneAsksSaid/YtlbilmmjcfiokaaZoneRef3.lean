/-
  The contracts of the document's own zones: of values, one after another.
-/
import Derived.RegionTactic
import Derived.ChangeAlike
import Derived.Test.YtlbilmmjcfiokaaZoneRef1
import Derived.Test.YtlbilmmjcfiokaaVals
namespace Go.Proofs.Ytlbilmmjcfiokaa
open Go.RowKit Go.BigFrame

/-- A zone, stored into a block. -/
abbrev put8 (W : World) (b : Nat) (z : Zo) : World :=
  (((((((W.setCell ⟨b, 0, none⟩ (.int .u8 z.a.k)).setCell ⟨b, 1, none⟩ (.int .i64 z.a.n)).setCell ⟨b, 2, none⟩ (.string ⟨z.a.s.toArray⟩)).setCell ⟨b, 3, none⟩ (.int .u8 z.b.k)).setCell ⟨b, 4, none⟩ (.int .i64 z.b.n)).setCell ⟨b, 5, none⟩ (.string ⟨z.b.s.toArray⟩)).setCell ⟨b, 6, none⟩ (.int .i64 z.n)).setCell ⟨b, 7, none⟩ (.int .i64 z.m)
theorem Blk.put8 {W : World} {b : Nat} {y : Zo} {t : TypeId} (h : Blk W b y.cells t) (z : Zo) : Blk (put8 W b z) b z.cells t :=
  (((((((h.set 0 _).set 1 _).set 2 _).set 3 _).set 4 _).set 5 _).set 6 _).set 7 _
theorem Blk.put8_beside {W : World} {b b' : Nat} {xs : List Value} {t : TypeId} (h : Blk W b xs t) (hne : b ≠ b') (z : Zo) : Blk (Proofs.Ytlbilmmjcfiokaa.put8 W b' z) b xs t :=
  (((((((h.beside hne 0 _).beside hne 1 _).beside hne 2 _).beside hne 3 _).beside hne 4 _).beside hne 5 _).beside hne 6 _).beside hne 7 _
theorem below_put8 {N : Nat} {w W : World} {b : Nat} (h : Below N w W) (hb : N ≤ b) (z : Zo) : Below N w (put8 W b z) :=
  Below.setCell (Below.setCell (Below.setCell (Below.setCell (Below.setCell (Below.setCell (Below.setCell (Below.setCell h hb _) hb _) hb _) hb _) hb _) hb _) hb _) hb _

/-- Where Of stands: the answer's place, the zone so far. -/
structure OZ (w : World) (z : Zo) (W : World) : Prop where
  r : Blk W w.heap.size Zo.zero.cells 26
  z : Blk W (w.heap.size + 1) z.cells 26
  x : Ext w W
theorem OZ.ext {w : World} {z : Zo} {W W' : World} (h : OZ w z W) (hx : Ext W W') : OZ w z W' := ⟨h.r.ext hx, h.z.ext hx, Ext.trans h.x hx⟩
theorem OZ.start (w : World) : OZ w Zo.zero ((w.alloc (.cells Zo.zero.cells.toArray 26)).alloc (.cells Zo.zero.cells.toArray 26)) := by
  have h1 := Blk.new w Zo.zero.cells 26
  have h2 := Blk.new (w.alloc (.cells Zo.zero.cells.toArray 26)) Zo.zero.cells 26
  simp only [World.alloc, Array.size_push] at h2
  exact ⟨h1.ext (ext_new _ _), h2, Ext.trans (ext_new _ _) (ext_new _ _)⟩
theorem OZ.put {w : World} {z : Zo} {W : World} (h : OZ w z W) (y : Zo) : OZ w y (put8 W (w.heap.size + 1) y) :=
  ⟨h.r.put8_beside (by omega) y, h.z.put8 y, below_put8 h.x (by omega) y⟩

theorem oneZ_no {v : V} (h : v.k = 0) : oneZ v = ⟨V.zero, V.zero, 1, 1⟩ := by unfold oneZ; rw [nz_no h, if_pos h]
theorem oneZ_yes {v : V} (h : v.k ≠ 0) : oneZ v = ⟨v, v, 0, 1⟩ := by unfold oneZ; rw [nz_yes h, if_neg h]

set_option maxRecDepth 100000 in
set_option maxHeartbeats 4000000 in
theorem refOfZ_any (u : Value) (vs : List V) (w : World) (hu : RdVals w u vs) (hf : ∀ v ∈ vs, v.fits) :
    Calls Try.prog 13 #[u] w fun e w' => e = .returned (ofZ vs).val ∧ Ext w w' := by
  obtain ⟨ao, cap, rfl, -, -⟩ := hu.shape
  obtain ⟨-, h1, h2, hc⟩ := hu.plain
  have HC := Lib.hid hc
  have HF := Lib.hid hf
  have HS := Lib.hid (OZ.start w)
  unfold maxLen at h2
  obtain ⟨N, hN⟩ : ∃ N, vs.length = N := ⟨_, rfl⟩
  have HN := Lib.hid hN
  rw [hN] at h1 ⊢
  clear hu hc hf hN
  go_enter Try.func13, Try.ntmps13
  go_wp2_with fail
  go_loopw [4] (fun i wr => ∃ j : Nat, j ≤ N ∧ i = .int .i64 j ∧ OZ w (ofZ (vs.take j)) wr) (fun i _ => N - (intOf i).toNat)
  case atStart => exact ⟨0, Nat.zero_le _, rfl, HS.out⟩
  case round =>
    obtain ⟨j, hj, rfl, ho⟩ := hrel
    have HO := Lib.hid ho
    clear ho
    by_cases hlt : j < N
    · have hjl : j < vs.length := by have := HN.out; omega
      obtain ⟨g, off, rfl, c0, c1, c2⟩ := HC.out j hjl
      have x0 := (HO.out.x.cell (lt_of_cell c0)).trans c0
      have x1 := (HO.out.x.cell (lt_of_cell c1)).trans c1
      have x2 := (HO.out.x.cell (lt_of_cell c2)).trans c2
      have HT := Lib.hid (show ofZ (vs.take (j + 1)) = mergeZ (ofZ (vs.take j)) (oneZ vs[j]) by rw [List.take_succ_eq_append_getElem hjl, ofZ_snoc])
      have HFP := Lib.hid (ofZ_fits (l := vs.take j) fun v hv => HF.out v (List.mem_of_mem_take hv))
      have HFV := Lib.hid (oneZ_fits (HF.out _ (List.getElem_mem hjl)))
      have HM := Lib.hid (refMergeZ_any (ofZ (vs.take j)) (oneZ vs[j]))
      generalize vs[j] = v at x0 x1 x2 HT HFV HM
      generalize ofZ (vs.take j) = z at HO HT HFP HM
      obtain ⟨k, n, s⟩ := v
      clear c0 c1 c2
      simp only at x0 x1 x2
      have x0b := fun o => ((ext_new wr o).cell (lt_of_cell x0)).trans x0
      have x1b := fun o => ((ext_new wr o).cell (lt_of_cell x1)).trans x1
      have x2b := fun o => ((ext_new wr o).cell (lt_of_cell x2)).trans x2
      have HU := Lib.hid (wrapZ_fits 0)
      obtain ⟨⟨ak, an, as'⟩, ⟨bk, bn, bs⟩, zn, zm⟩ := z
      unfold Zo.val at HM
      simp only at HM
      have z0 : ∀ o, (wr.alloc o).cell? ⟨w.heap.size + 1, 0, none⟩ = some (.int .u8 ak) := fun o => (HO.out.z.ext (ext_new wr o)).cell 0 _ rfl
      have z1 : ∀ o, (wr.alloc o).cell? ⟨w.heap.size + 1, 1, none⟩ = some (.int .i64 an) := fun o => (HO.out.z.ext (ext_new wr o)).cell 1 _ rfl
      have z2 : ∀ o, (wr.alloc o).cell? ⟨w.heap.size + 1, 2, none⟩ = some (.string ⟨as'.toArray⟩) := fun o => (HO.out.z.ext (ext_new wr o)).cell 2 _ rfl
      have z3 : ∀ o, (wr.alloc o).cell? ⟨w.heap.size + 1, 3, none⟩ = some (.int .u8 bk) := fun o => (HO.out.z.ext (ext_new wr o)).cell 3 _ rfl
      have z4 : ∀ o, (wr.alloc o).cell? ⟨w.heap.size + 1, 4, none⟩ = some (.int .i64 bn) := fun o => (HO.out.z.ext (ext_new wr o)).cell 4 _ rfl
      have z5 : ∀ o, (wr.alloc o).cell? ⟨w.heap.size + 1, 5, none⟩ = some (.string ⟨bs.toArray⟩) := fun o => (HO.out.z.ext (ext_new wr o)).cell 5 _ rfl
      have z6 : ∀ o, (wr.alloc o).cell? ⟨w.heap.size + 1, 6, none⟩ = some (.int .i64 zn) := fun o => (HO.out.z.ext (ext_new wr o)).cell 6 _ rfl
      have z7 : ∀ o, (wr.alloc o).cell? ⟨w.heap.size + 1, 7, none⟩ = some (.int .i64 zm) := fun o => (HO.out.z.ext (ext_new wr o)).cell 7 _ rfl
      by_cases hk : k = 0
      · rw [oneZ_no (v := ⟨k, n, s⟩) hk] at HT HFV HM
        subst hk
        go_wp2_with fail
        go_region
        go_wp2_with fail
        refine (HM.out _ HFP.out HFV.out).mono ?_
        rintro e w1 ⟨rfl, hx⟩
        have HO1 := Lib.hid (HO.out.ext (Ext.trans (Ext.trans (ext_new wr _) (Ext.drew _)) hx))
        clear hx x0b x1b x2b z0 z1 z2 z3 z4 z5 z6 z7
        rw [← HT.out]
        have HP := Lib.hid (HO1.out.put (ofZ (vs.take (j + 1))))
        obtain ⟨y, hy⟩ : ∃ y, ofZ (vs.take (j + 1)) = y := ⟨_, rfl⟩
        have HY := Lib.hid hy
        rw [hy] at HP ⊢
        clear hy
        obtain ⟨⟨ck, cn, cs⟩, ⟨dk, dn, ds⟩, yn, ym⟩ := y
        simp only
        have y0 : w1.cell? ⟨w.heap.size + 1, 0, none⟩ = some (.int .u8 ak) := HO1.out.z.cell 0 _ rfl
        have y1 : w1.cell? ⟨w.heap.size + 1, 1, none⟩ = some (.int .i64 an) := HO1.out.z.cell 1 _ rfl
        have y2 : w1.cell? ⟨w.heap.size + 1, 2, none⟩ = some (.string ⟨as'.toArray⟩) := HO1.out.z.cell 2 _ rfl
        have y3 : w1.cell? ⟨w.heap.size + 1, 3, none⟩ = some (.int .u8 bk) := HO1.out.z.cell 3 _ rfl
        have y4 : w1.cell? ⟨w.heap.size + 1, 4, none⟩ = some (.int .i64 bn) := HO1.out.z.cell 4 _ rfl
        have y5 : w1.cell? ⟨w.heap.size + 1, 5, none⟩ = some (.string ⟨bs.toArray⟩) := HO1.out.z.cell 5 _ rfl
        have y6 : w1.cell? ⟨w.heap.size + 1, 6, none⟩ = some (.int .i64 zn) := HO1.out.z.cell 6 _ rfl
        have y7 : w1.cell? ⟨w.heap.size + 1, 7, none⟩ = some (.int .i64 zm) := HO1.out.z.cell 7 _ rfl
        have f0 : w1.frozen? ⟨w.heap.size + 1, 0, none⟩ = false := HO1.out.z.free 0
        have f1 : w1.frozen? ⟨w.heap.size + 1, 1, none⟩ = false := HO1.out.z.free 1
        have f2 : w1.frozen? ⟨w.heap.size + 1, 2, none⟩ = false := HO1.out.z.free 2
        have f3 : w1.frozen? ⟨w.heap.size + 1, 3, none⟩ = false := HO1.out.z.free 3
        have f4 : w1.frozen? ⟨w.heap.size + 1, 4, none⟩ = false := HO1.out.z.free 4
        have f5 : w1.frozen? ⟨w.heap.size + 1, 5, none⟩ = false := HO1.out.z.free 5
        have f6 : w1.frozen? ⟨w.heap.size + 1, 6, none⟩ = false := HO1.out.z.free 6
        have f7 : w1.frozen? ⟨w.heap.size + 1, 7, none⟩ = false := HO1.out.z.free 7
        go_wp2_with fail
        go_roundw
        case rel => exact ⟨j + 1, by omega, by go_num, by rw [HY.out]; exact HP.out⟩
        case measure => simp [intOf]; omega
      · rw [oneZ_yes (v := ⟨k, n, s⟩) hk] at HT HFV HM
        have q : (k == (0 : Int)) = false := beq_eq_false_iff_ne.2 hk
        clear hk
        go_wp2_with fail
        go_region
        go_wp2_with fail
        refine (HM.out _ HFP.out HFV.out).mono ?_
        rintro e w1 ⟨rfl, hx⟩
        have HO1 := Lib.hid (HO.out.ext (Ext.trans (Ext.trans (ext_new wr _) (Ext.drew _)) hx))
        clear hx x0b x1b x2b z0 z1 z2 z3 z4 z5 z6 z7
        rw [← HT.out]
        have HP := Lib.hid (HO1.out.put (ofZ (vs.take (j + 1))))
        obtain ⟨y, hy⟩ : ∃ y, ofZ (vs.take (j + 1)) = y := ⟨_, rfl⟩
        have HY := Lib.hid hy
        rw [hy] at HP ⊢
        clear hy
        obtain ⟨⟨ck, cn, cs⟩, ⟨dk, dn, ds⟩, yn, ym⟩ := y
        simp only
        have y0 : w1.cell? ⟨w.heap.size + 1, 0, none⟩ = some (.int .u8 ak) := HO1.out.z.cell 0 _ rfl
        have y1 : w1.cell? ⟨w.heap.size + 1, 1, none⟩ = some (.int .i64 an) := HO1.out.z.cell 1 _ rfl
        have y2 : w1.cell? ⟨w.heap.size + 1, 2, none⟩ = some (.string ⟨as'.toArray⟩) := HO1.out.z.cell 2 _ rfl
        have y3 : w1.cell? ⟨w.heap.size + 1, 3, none⟩ = some (.int .u8 bk) := HO1.out.z.cell 3 _ rfl
        have y4 : w1.cell? ⟨w.heap.size + 1, 4, none⟩ = some (.int .i64 bn) := HO1.out.z.cell 4 _ rfl
        have y5 : w1.cell? ⟨w.heap.size + 1, 5, none⟩ = some (.string ⟨bs.toArray⟩) := HO1.out.z.cell 5 _ rfl
        have y6 : w1.cell? ⟨w.heap.size + 1, 6, none⟩ = some (.int .i64 zn) := HO1.out.z.cell 6 _ rfl
        have y7 : w1.cell? ⟨w.heap.size + 1, 7, none⟩ = some (.int .i64 zm) := HO1.out.z.cell 7 _ rfl
        have f0 : w1.frozen? ⟨w.heap.size + 1, 0, none⟩ = false := HO1.out.z.free 0
        have f1 : w1.frozen? ⟨w.heap.size + 1, 1, none⟩ = false := HO1.out.z.free 1
        have f2 : w1.frozen? ⟨w.heap.size + 1, 2, none⟩ = false := HO1.out.z.free 2
        have f3 : w1.frozen? ⟨w.heap.size + 1, 3, none⟩ = false := HO1.out.z.free 3
        have f4 : w1.frozen? ⟨w.heap.size + 1, 4, none⟩ = false := HO1.out.z.free 4
        have f5 : w1.frozen? ⟨w.heap.size + 1, 5, none⟩ = false := HO1.out.z.free 5
        have f6 : w1.frozen? ⟨w.heap.size + 1, 6, none⟩ = false := HO1.out.z.free 6
        have f7 : w1.frozen? ⟨w.heap.size + 1, 7, none⟩ = false := HO1.out.z.free 7
        go_wp2_with fail
        go_roundw
        case rel => exact ⟨j + 1, by omega, by go_num, by rw [HY.out]; exact HP.out⟩
        case measure => simp [intOf]; omega
    · have hjN : N = j := by omega
      have HE := Lib.hid (show vs.take j = vs by rw [← hjN, ← HN.out]; exact List.take_of_length_le (Nat.le_refl _))
      rw [HE.out] at HO
      have HR := Lib.hid (show Blk (put8 wr w.heap.size (ofZ vs)) w.heap.size (ofZ vs).cells 26 from HO.out.r.put8 (ofZ vs))
      have HX := Lib.hid (show Ext w (put8 wr w.heap.size (ofZ vs)) from below_put8 HO.out.x (Nat.le_refl _) (ofZ vs))
      obtain ⟨z, hz⟩ : ∃ z, ofZ vs = z := ⟨_, rfl⟩
      have HZ := Lib.hid hz
      rw [hz] at HO HR HX
      clear hz
      obtain ⟨⟨ak, an, as'⟩, ⟨bk, bn, bs⟩, zn, zm⟩ := z
      subst hjN
      have z0 : wr.cell? ⟨w.heap.size + 1, 0, none⟩ = some (.int .u8 ak) := HO.out.z.cell 0 _ rfl
      have z1 : wr.cell? ⟨w.heap.size + 1, 1, none⟩ = some (.int .i64 an) := HO.out.z.cell 1 _ rfl
      have z2 : wr.cell? ⟨w.heap.size + 1, 2, none⟩ = some (.string ⟨as'.toArray⟩) := HO.out.z.cell 2 _ rfl
      have z3 : wr.cell? ⟨w.heap.size + 1, 3, none⟩ = some (.int .u8 bk) := HO.out.z.cell 3 _ rfl
      have z4 : wr.cell? ⟨w.heap.size + 1, 4, none⟩ = some (.int .i64 bn) := HO.out.z.cell 4 _ rfl
      have z5 : wr.cell? ⟨w.heap.size + 1, 5, none⟩ = some (.string ⟨bs.toArray⟩) := HO.out.z.cell 5 _ rfl
      have z6 : wr.cell? ⟨w.heap.size + 1, 6, none⟩ = some (.int .i64 zn) := HO.out.z.cell 6 _ rfl
      have z7 : wr.cell? ⟨w.heap.size + 1, 7, none⟩ = some (.int .i64 zm) := HO.out.z.cell 7 _ rfl
      have r0 : wr.cell? ⟨w.heap.size, 0, none⟩ = some (.int .u8 0) := HO.out.r.cell 0 _ rfl
      have r1 : wr.cell? ⟨w.heap.size, 1, none⟩ = some (.int .i64 0) := HO.out.r.cell 1 _ rfl
      have r2 : wr.cell? ⟨w.heap.size, 2, none⟩ = some (.string ⟨#[]⟩) := HO.out.r.cell 2 _ rfl
      have r3 : wr.cell? ⟨w.heap.size, 3, none⟩ = some (.int .u8 0) := HO.out.r.cell 3 _ rfl
      have r4 : wr.cell? ⟨w.heap.size, 4, none⟩ = some (.int .i64 0) := HO.out.r.cell 4 _ rfl
      have r5 : wr.cell? ⟨w.heap.size, 5, none⟩ = some (.string ⟨#[]⟩) := HO.out.r.cell 5 _ rfl
      have r6 : wr.cell? ⟨w.heap.size, 6, none⟩ = some (.int .i64 0) := HO.out.r.cell 6 _ rfl
      have r7 : wr.cell? ⟨w.heap.size, 7, none⟩ = some (.int .i64 0) := HO.out.r.cell 7 _ rfl
      have f0 : wr.frozen? ⟨w.heap.size, 0, none⟩ = false := HO.out.r.free 0
      have f1 : wr.frozen? ⟨w.heap.size, 1, none⟩ = false := HO.out.r.free 1
      have f2 : wr.frozen? ⟨w.heap.size, 2, none⟩ = false := HO.out.r.free 2
      have f3 : wr.frozen? ⟨w.heap.size, 3, none⟩ = false := HO.out.r.free 3
      have f4 : wr.frozen? ⟨w.heap.size, 4, none⟩ = false := HO.out.r.free 4
      have f5 : wr.frozen? ⟨w.heap.size, 5, none⟩ = false := HO.out.r.free 5
      have f6 : wr.frozen? ⟨w.heap.size, 6, none⟩ = false := HO.out.r.free 6
      have f7 : wr.frozen? ⟨w.heap.size, 7, none⟩ = false := HO.out.r.free 7
      go_wp2_with fail
      refine bodyPost_ret (results_cell_row (P := Try.prog) (fn := Try.f13) rfl _ _ w.heap.size 26 _ (0, 0) _ rfl HR.out Try.underlying26 rfl (by kernel_rfl)) rfl ?_
      exact ⟨by rw [HZ.out]; rfl, HX.out⟩

end Go.Proofs.Ytlbilmmjcfiokaa
