/-
  The contracts of the document's own zones: what may be, and bytes.
-/
import Derived.RegionTactic
import Derived.ChangeAlike
import Derived.Test.YtlbilmmjcfiokaaZoneRef1
import Derived.Test.YtlbilmmjcfiokaaVals
import Derived.Test.YtlbilmmjcfiokaaCellRefPut
import Derived.Test.YtlbilmmjcfiokaaAnswers
import Derived.Test.YtlbilmmjcfiokaaCellEq
namespace Go.Proofs.Ytlbilmmjcfiokaa
section
open Go.RowKit Go.BigFrame

/-- A zone, stored into a block. -/
abbrev put8 (W : World) (b : Nat) (z : Zo) : World :=
  (((((((W.setCell ⟨b, 0, none⟩ (.int .u8 z.a.k)).setCell ⟨b, 1, none⟩ (.int .i64 z.a.n)).setCell ⟨b, 2, none⟩ (.string ⟨z.a.s.toArray⟩)).setCell ⟨b, 3, none⟩ (.int .u8 z.b.k)).setCell ⟨b, 4, none⟩ (.int .i64 z.b.n)).setCell ⟨b, 5, none⟩ (.string ⟨z.b.s.toArray⟩)).setCell ⟨b, 6, none⟩ (.int .i64 z.n)).setCell ⟨b, 7, none⟩ (.int .i64 z.m)
theorem Blk.put8 {W : World} {b : Nat} {y : Zo} {t : TypeId} (h : Blk W b y.cells t) (z : Zo) : Blk (put8 W b z) b z.cells t :=
  (((((((h.set 0 _).set 1 _).set 2 _).set 3 _).set 4 _).set 5 _).set 6 _).set 7 _
theorem Blk.put8_beside {W : World} {b b' : Nat} {xs : List Value} {t : TypeId} (h : Blk W b xs t) (hne : b ≠ b') (z : Zo) : Blk (Proofs.Ytlbilmmjcfiokaa.put8 W b' z) b xs t :=
  (((((((h.beside hne 0 _).beside hne 1 _).beside hne 2 _).beside hne 3 _).beside hne 4 _).beside hne 5 _).beside hne 6 _).beside hne 7 _
theorem below_put8 {N : Nat} {w W : World} {b : Nat} (h : Below N w W) (hb : N ≤ b) (z : Zo) : Below N w (put8 W b z) :=
  Below.setCell (Below.setCell (Below.setCell (Below.setCell (Below.setCell (Below.setCell (Below.setCell (Below.setCell h hb _) hb _) hb _) hb _) hb _) hb _) hb _) hb _

/-- Where Of stands: the answer's place, the zone so far. -/
structure OZ (w : World) (z : Zo) (W : World) : Prop where
  r : Blk W w.heap.size Zo.zero.cells 26
  z : Blk W (w.heap.size + 1) z.cells 26
  x : Ext w W
theorem OZ.ext {w : World} {z : Zo} {W W' : World} (h : OZ w z W) (hx : Ext W W') : OZ w z W' := ⟨h.r.ext hx, h.z.ext hx, Ext.trans h.x hx⟩
theorem OZ.start (w : World) : OZ w Zo.zero ((w.alloc (.cells Zo.zero.cells.toArray 26)).alloc (.cells Zo.zero.cells.toArray 26)) := by
  have h1 := Blk.new w Zo.zero.cells 26
  have h2 := Blk.new (w.alloc (.cells Zo.zero.cells.toArray 26)) Zo.zero.cells 26
  simp only [World.alloc, Array.size_push] at h2
  exact ⟨h1.ext (ext_new _ _), h2, Ext.trans (ext_new _ _) (ext_new _ _)⟩
theorem OZ.put {w : World} {z : Zo} {W : World} (h : OZ w z W) (y : Zo) : OZ w y (put8 W (w.heap.size + 1) y) :=
  ⟨h.r.put8_beside (by omega) y, h.z.put8 y, below_put8 h.x (by omega) y⟩

theorem oneZ_no {v : V} (h : v.k = 0) : oneZ v = ⟨V.zero, V.zero, 1, 1⟩ := by unfold oneZ; rw [nz_no h, if_pos h]
theorem oneZ_yes {v : V} (h : v.k ≠ 0) : oneZ v = ⟨v, v, 0, 1⟩ := by unfold oneZ; rw [nz_yes h, if_neg h]

set_option maxRecDepth 100000 in
set_option maxHeartbeats 4000000 in
theorem refOfZ_any (u : Value) (vs : List V) (w : World) (hu : RdVals w u vs) (hf : ∀ v ∈ vs, v.fits) :
    Calls Try.prog 13 #[u] w fun e w' => e = .returned (ofZ vs).val ∧ Ext w w' := by
  obtain ⟨ao, cap, rfl, -, -⟩ := hu.shape
  obtain ⟨-, h1, h2, hc⟩ := hu.plain
  have HC := Lib.hid hc
  have HF := Lib.hid hf
  have HS := Lib.hid (OZ.start w)
  unfold maxLen at h2
  obtain ⟨N, hN⟩ : ∃ N, vs.length = N := ⟨_, rfl⟩
  have HN := Lib.hid hN
  rw [hN] at h1 ⊢
  clear hu hc hf hN
  go_enter Try.func13, Try.ntmps13
  go_wp2_with fail
  go_loopw [4] (fun i wr => ∃ j : Nat, j ≤ N ∧ i = .int .i64 j ∧ OZ w (ofZ (vs.take j)) wr) (fun i _ => N - (intOf i).toNat)
  case atStart => exact ⟨0, Nat.zero_le _, rfl, HS.out⟩
  case round =>
    obtain ⟨j, hj, rfl, ho⟩ := hrel
    have HO := Lib.hid ho
    clear ho
    by_cases hlt : j < N
    · have hjl : j < vs.length := by have := HN.out; omega
      obtain ⟨g, off, rfl, c0, c1, c2⟩ := HC.out j hjl
      have x0 := (HO.out.x.cell (lt_of_cell c0)).trans c0
      have x1 := (HO.out.x.cell (lt_of_cell c1)).trans c1
      have x2 := (HO.out.x.cell (lt_of_cell c2)).trans c2
      have HT := Lib.hid (show ofZ (vs.take (j + 1)) = mergeZ (ofZ (vs.take j)) (oneZ vs[j]) by rw [List.take_succ_eq_append_getElem hjl, ofZ_snoc])
      have HFP := Lib.hid (ofZ_fits (l := vs.take j) fun v hv => HF.out v (List.mem_of_mem_take hv))
      have HFV := Lib.hid (oneZ_fits (HF.out _ (List.getElem_mem hjl)))
      have HM := Lib.hid (refMergeZ_any (ofZ (vs.take j)) (oneZ vs[j]))
      generalize vs[j] = v at x0 x1 x2 HT HFV HM
      generalize ofZ (vs.take j) = z at HO HT HFP HM
      obtain ⟨k, n, s⟩ := v
      clear c0 c1 c2
      simp only at x0 x1 x2
      have x0b := fun o => ((ext_new wr o).cell (lt_of_cell x0)).trans x0
      have x1b := fun o => ((ext_new wr o).cell (lt_of_cell x1)).trans x1
      have x2b := fun o => ((ext_new wr o).cell (lt_of_cell x2)).trans x2
      have HU := Lib.hid (wrapZ_fits 0)
      obtain ⟨⟨ak, an, as'⟩, ⟨bk, bn, bs⟩, zn, zm⟩ := z
      unfold Zo.val at HM
      simp only at HM
      have z0 : ∀ o, (wr.alloc o).cell? ⟨w.heap.size + 1, 0, none⟩ = some (.int .u8 ak) := fun o => (HO.out.z.ext (ext_new wr o)).cell 0 _ rfl
      have z1 : ∀ o, (wr.alloc o).cell? ⟨w.heap.size + 1, 1, none⟩ = some (.int .i64 an) := fun o => (HO.out.z.ext (ext_new wr o)).cell 1 _ rfl
      have z2 : ∀ o, (wr.alloc o).cell? ⟨w.heap.size + 1, 2, none⟩ = some (.string ⟨as'.toArray⟩) := fun o => (HO.out.z.ext (ext_new wr o)).cell 2 _ rfl
      have z3 : ∀ o, (wr.alloc o).cell? ⟨w.heap.size + 1, 3, none⟩ = some (.int .u8 bk) := fun o => (HO.out.z.ext (ext_new wr o)).cell 3 _ rfl
      have z4 : ∀ o, (wr.alloc o).cell? ⟨w.heap.size + 1, 4, none⟩ = some (.int .i64 bn) := fun o => (HO.out.z.ext (ext_new wr o)).cell 4 _ rfl
      have z5 : ∀ o, (wr.alloc o).cell? ⟨w.heap.size + 1, 5, none⟩ = some (.string ⟨bs.toArray⟩) := fun o => (HO.out.z.ext (ext_new wr o)).cell 5 _ rfl
      have z6 : ∀ o, (wr.alloc o).cell? ⟨w.heap.size + 1, 6, none⟩ = some (.int .i64 zn) := fun o => (HO.out.z.ext (ext_new wr o)).cell 6 _ rfl
      have z7 : ∀ o, (wr.alloc o).cell? ⟨w.heap.size + 1, 7, none⟩ = some (.int .i64 zm) := fun o => (HO.out.z.ext (ext_new wr o)).cell 7 _ rfl
      by_cases hk : k = 0
      · rw [oneZ_no (v := ⟨k, n, s⟩) hk] at HT HFV HM
        subst hk
        go_wp2_with fail
        go_region
        go_wp2_with fail
        refine (HM.out _ HFP.out HFV.out).mono ?_
        rintro e w1 ⟨rfl, hx⟩
        have HO1 := Lib.hid (HO.out.ext (Ext.trans (Ext.trans (ext_new wr _) (Ext.drew _)) hx))
        clear hx x0b x1b x2b z0 z1 z2 z3 z4 z5 z6 z7
        rw [← HT.out]
        have HP := Lib.hid (HO1.out.put (ofZ (vs.take (j + 1))))
        obtain ⟨y, hy⟩ : ∃ y, ofZ (vs.take (j + 1)) = y := ⟨_, rfl⟩
        have HY := Lib.hid hy
        rw [hy] at HP ⊢
        clear hy
        obtain ⟨⟨ck, cn, cs⟩, ⟨dk, dn, ds⟩, yn, ym⟩ := y
        simp only
        have y0 : w1.cell? ⟨w.heap.size + 1, 0, none⟩ = some (.int .u8 ak) := HO1.out.z.cell 0 _ rfl
        have y1 : w1.cell? ⟨w.heap.size + 1, 1, none⟩ = some (.int .i64 an) := HO1.out.z.cell 1 _ rfl
        have y2 : w1.cell? ⟨w.heap.size + 1, 2, none⟩ = some (.string ⟨as'.toArray⟩) := HO1.out.z.cell 2 _ rfl
        have y3 : w1.cell? ⟨w.heap.size + 1, 3, none⟩ = some (.int .u8 bk) := HO1.out.z.cell 3 _ rfl
        have y4 : w1.cell? ⟨w.heap.size + 1, 4, none⟩ = some (.int .i64 bn) := HO1.out.z.cell 4 _ rfl
        have y5 : w1.cell? ⟨w.heap.size + 1, 5, none⟩ = some (.string ⟨bs.toArray⟩) := HO1.out.z.cell 5 _ rfl
        have y6 : w1.cell? ⟨w.heap.size + 1, 6, none⟩ = some (.int .i64 zn) := HO1.out.z.cell 6 _ rfl
        have y7 : w1.cell? ⟨w.heap.size + 1, 7, none⟩ = some (.int .i64 zm) := HO1.out.z.cell 7 _ rfl
        have f0 : w1.frozen? ⟨w.heap.size + 1, 0, none⟩ = false := HO1.out.z.free 0
        have f1 : w1.frozen? ⟨w.heap.size + 1, 1, none⟩ = false := HO1.out.z.free 1
        have f2 : w1.frozen? ⟨w.heap.size + 1, 2, none⟩ = false := HO1.out.z.free 2
        have f3 : w1.frozen? ⟨w.heap.size + 1, 3, none⟩ = false := HO1.out.z.free 3
        have f4 : w1.frozen? ⟨w.heap.size + 1, 4, none⟩ = false := HO1.out.z.free 4
        have f5 : w1.frozen? ⟨w.heap.size + 1, 5, none⟩ = false := HO1.out.z.free 5
        have f6 : w1.frozen? ⟨w.heap.size + 1, 6, none⟩ = false := HO1.out.z.free 6
        have f7 : w1.frozen? ⟨w.heap.size + 1, 7, none⟩ = false := HO1.out.z.free 7
        go_wp2_with fail
        go_roundw
        case rel => exact ⟨j + 1, by omega, by go_num, by rw [HY.out]; exact HP.out⟩
        case measure => simp [intOf]; omega
      · rw [oneZ_yes (v := ⟨k, n, s⟩) hk] at HT HFV HM
        have q : (k == (0 : Int)) = false := beq_eq_false_iff_ne.2 hk
        clear hk
        go_wp2_with fail
        go_region
        go_wp2_with fail
        refine (HM.out _ HFP.out HFV.out).mono ?_
        rintro e w1 ⟨rfl, hx⟩
        have HO1 := Lib.hid (HO.out.ext (Ext.trans (Ext.trans (ext_new wr _) (Ext.drew _)) hx))
        clear hx x0b x1b x2b z0 z1 z2 z3 z4 z5 z6 z7
        rw [← HT.out]
        have HP := Lib.hid (HO1.out.put (ofZ (vs.take (j + 1))))
        obtain ⟨y, hy⟩ : ∃ y, ofZ (vs.take (j + 1)) = y := ⟨_, rfl⟩
        have HY := Lib.hid hy
        rw [hy] at HP ⊢
        clear hy
        obtain ⟨⟨ck, cn, cs⟩, ⟨dk, dn, ds⟩, yn, ym⟩ := y
        simp only
        have y0 : w1.cell? ⟨w.heap.size + 1, 0, none⟩ = some (.int .u8 ak) := HO1.out.z.cell 0 _ rfl
        have y1 : w1.cell? ⟨w.heap.size + 1, 1, none⟩ = some (.int .i64 an) := HO1.out.z.cell 1 _ rfl
        have y2 : w1.cell? ⟨w.heap.size + 1, 2, none⟩ = some (.string ⟨as'.toArray⟩) := HO1.out.z.cell 2 _ rfl
        have y3 : w1.cell? ⟨w.heap.size + 1, 3, none⟩ = some (.int .u8 bk) := HO1.out.z.cell 3 _ rfl
        have y4 : w1.cell? ⟨w.heap.size + 1, 4, none⟩ = some (.int .i64 bn) := HO1.out.z.cell 4 _ rfl
        have y5 : w1.cell? ⟨w.heap.size + 1, 5, none⟩ = some (.string ⟨bs.toArray⟩) := HO1.out.z.cell 5 _ rfl
        have y6 : w1.cell? ⟨w.heap.size + 1, 6, none⟩ = some (.int .i64 zn) := HO1.out.z.cell 6 _ rfl
        have y7 : w1.cell? ⟨w.heap.size + 1, 7, none⟩ = some (.int .i64 zm) := HO1.out.z.cell 7 _ rfl
        have f0 : w1.frozen? ⟨w.heap.size + 1, 0, none⟩ = false := HO1.out.z.free 0
        have f1 : w1.frozen? ⟨w.heap.size + 1, 1, none⟩ = false := HO1.out.z.free 1
        have f2 : w1.frozen? ⟨w.heap.size + 1, 2, none⟩ = false := HO1.out.z.free 2
        have f3 : w1.frozen? ⟨w.heap.size + 1, 3, none⟩ = false := HO1.out.z.free 3
        have f4 : w1.frozen? ⟨w.heap.size + 1, 4, none⟩ = false := HO1.out.z.free 4
        have f5 : w1.frozen? ⟨w.heap.size + 1, 5, none⟩ = false := HO1.out.z.free 5
        have f6 : w1.frozen? ⟨w.heap.size + 1, 6, none⟩ = false := HO1.out.z.free 6
        have f7 : w1.frozen? ⟨w.heap.size + 1, 7, none⟩ = false := HO1.out.z.free 7
        go_wp2_with fail
        go_roundw
        case rel => exact ⟨j + 1, by omega, by go_num, by rw [HY.out]; exact HP.out⟩
        case measure => simp [intOf]; omega
    · have hjN : N = j := by omega
      have HE := Lib.hid (show vs.take j = vs by rw [← hjN, ← HN.out]; exact List.take_of_length_le (Nat.le_refl _))
      rw [HE.out] at HO
      have HR := Lib.hid (show Blk (put8 wr w.heap.size (ofZ vs)) w.heap.size (ofZ vs).cells 26 from HO.out.r.put8 (ofZ vs))
      have HX := Lib.hid (show Ext w (put8 wr w.heap.size (ofZ vs)) from below_put8 HO.out.x (Nat.le_refl _) (ofZ vs))
      obtain ⟨z, hz⟩ : ∃ z, ofZ vs = z := ⟨_, rfl⟩
      have HZ := Lib.hid hz
      rw [hz] at HO HR HX
      clear hz
      obtain ⟨⟨ak, an, as'⟩, ⟨bk, bn, bs⟩, zn, zm⟩ := z
      subst hjN
      have z0 : wr.cell? ⟨w.heap.size + 1, 0, none⟩ = some (.int .u8 ak) := HO.out.z.cell 0 _ rfl
      have z1 : wr.cell? ⟨w.heap.size + 1, 1, none⟩ = some (.int .i64 an) := HO.out.z.cell 1 _ rfl
      have z2 : wr.cell? ⟨w.heap.size + 1, 2, none⟩ = some (.string ⟨as'.toArray⟩) := HO.out.z.cell 2 _ rfl
      have z3 : wr.cell? ⟨w.heap.size + 1, 3, none⟩ = some (.int .u8 bk) := HO.out.z.cell 3 _ rfl
      have z4 : wr.cell? ⟨w.heap.size + 1, 4, none⟩ = some (.int .i64 bn) := HO.out.z.cell 4 _ rfl
      have z5 : wr.cell? ⟨w.heap.size + 1, 5, none⟩ = some (.string ⟨bs.toArray⟩) := HO.out.z.cell 5 _ rfl
      have z6 : wr.cell? ⟨w.heap.size + 1, 6, none⟩ = some (.int .i64 zn) := HO.out.z.cell 6 _ rfl
      have z7 : wr.cell? ⟨w.heap.size + 1, 7, none⟩ = some (.int .i64 zm) := HO.out.z.cell 7 _ rfl
      have r0 : wr.cell? ⟨w.heap.size, 0, none⟩ = some (.int .u8 0) := HO.out.r.cell 0 _ rfl
      have r1 : wr.cell? ⟨w.heap.size, 1, none⟩ = some (.int .i64 0) := HO.out.r.cell 1 _ rfl
      have r2 : wr.cell? ⟨w.heap.size, 2, none⟩ = some (.string ⟨#[]⟩) := HO.out.r.cell 2 _ rfl
      have r3 : wr.cell? ⟨w.heap.size, 3, none⟩ = some (.int .u8 0) := HO.out.r.cell 3 _ rfl
      have r4 : wr.cell? ⟨w.heap.size, 4, none⟩ = some (.int .i64 0) := HO.out.r.cell 4 _ rfl
      have r5 : wr.cell? ⟨w.heap.size, 5, none⟩ = some (.string ⟨#[]⟩) := HO.out.r.cell 5 _ rfl
      have r6 : wr.cell? ⟨w.heap.size, 6, none⟩ = some (.int .i64 0) := HO.out.r.cell 6 _ rfl
      have r7 : wr.cell? ⟨w.heap.size, 7, none⟩ = some (.int .i64 0) := HO.out.r.cell 7 _ rfl
      have f0 : wr.frozen? ⟨w.heap.size, 0, none⟩ = false := HO.out.r.free 0
      have f1 : wr.frozen? ⟨w.heap.size, 1, none⟩ = false := HO.out.r.free 1
      have f2 : wr.frozen? ⟨w.heap.size, 2, none⟩ = false := HO.out.r.free 2
      have f3 : wr.frozen? ⟨w.heap.size, 3, none⟩ = false := HO.out.r.free 3
      have f4 : wr.frozen? ⟨w.heap.size, 4, none⟩ = false := HO.out.r.free 4
      have f5 : wr.frozen? ⟨w.heap.size, 5, none⟩ = false := HO.out.r.free 5
      have f6 : wr.frozen? ⟨w.heap.size, 6, none⟩ = false := HO.out.r.free 6
      have f7 : wr.frozen? ⟨w.heap.size, 7, none⟩ = false := HO.out.r.free 7
      go_wp2_with fail
      refine bodyPost_ret (results_cell_row (P := Try.prog) (fn := Try.f13) rfl _ _ w.heap.size 26 _ (0, 0) _ rfl HR.out Try.underlying26 rfl (by kernel_rfl)) rfl ?_
      exact ⟨by rw [HZ.out]; rfl, HX.out⟩
end
section
open Go.RowKit Go.BigFrame

theorem refKind_any (k : Int) (w : World) (_hk : 0 ≤ k ∧ k ≤ 255) :
    Calls Try.prog 37 #[.int .u8 k] w fun e w' => e = .returned (.bool (decide (1 ≤ k ∧ k ≤ 3))) ∧ w = w' := by
  by_cases h1 : 1 ≤ k
  · by_cases h3 : k ≤ 3
    · rw [decide_eq_true ⟨h1, h3⟩]
      go_enter Try.func37, Try.ntmps37
      go_wp2_with fail
      go_ret
      exact ⟨by simp, rfl⟩
    · rw [decide_eq_false (fun h => h3 h.2)]
      go_enter Try.func37, Try.ntmps37
      go_wp2_with fail
      go_ret
      exact ⟨by simp, rfl⟩
  · rw [decide_eq_false (fun h => h1 h.1)]
    go_enter Try.func37, Try.ntmps37
    go_wp2_with fail
    go_ret
    exact ⟨by simp, rfl⟩

set_option maxRecDepth 100000 in
theorem refSomeZ_any (k : Int) (v : V) (w : World) (hv : v.fits) (hl : v.s.length ≤ 9223372036854775807) :
    Calls Try.prog 43 #[.int .u8 k, v.val] w fun e w' => e = .returned (.bool (decide (someV k v))) ∧ Ext w w' := by
  have HR := Lib.hid (fun W => refRight_any v hv hl W)
  have hd : decide (someV k v) = (rightV v && decide (v.k = k)) := by unfold someV; by_cases h1 : rightV v = true <;> by_cases h2 : v.k = k <;> simp [h1, h2]
  rw [hd]
  generalize rightV v = c at HR
  obtain ⟨vk, vn, vs⟩ := v
  unfold V.val at HR ⊢
  simp only at HR ⊢
  have HB := Lib.hid (Blk.new w [.int .u8 vk, .int .i64 vn, .string ⟨vs.toArray⟩] 24)
  clear hv hl hd
  go_enter Try.func43, Try.ntmps43
  go_wp2_with fail
  refine (HR.out _).mono ?_
  rintro e w1 ⟨rfl, hx⟩
  have k0 : w1.cell? ⟨w.heap.size, 0, none⟩ = some (.int .u8 vk) := (HB.out.ext hx).cell 0 _ rfl
  have HX := Lib.hid (Ext.trans (ext_new w _) hx)
  clear hx HR
  cases c with
  | false =>
    go_wp2_with fail
    go_ret
    exact ⟨by simp, HX.out⟩
  | true =>
    by_cases hq : vk = k
    · subst hq
      go_wp2_with fail
      go_ret
      exact ⟨by simp, HX.out⟩
    · have q1 : (vk == k) = false := beq_eq_false_iff_ne.2 hq
      have HN := Lib.hid hq
      clear hq
      go_wp2_with fail
      go_ret
      exact ⟨by simp [HN.out], HX.out⟩

set_option maxRecDepth 100000 in
set_option maxHeartbeats 4000000 in
theorem refPutZ_any (z : Zo) (w : World) (hz : z.fits) (hs : z.small 5000) :
    Calls Try.prog 21 #[z.val] w (Fresh 5 w ((putZ z).map bv)) := by
  have HP1 := Lib.hid (fun b l W hr hl => refPut_any b l z.a W hr hl hz.a hs.1)
  have HP2 := Lib.hid (fun b l W hr hl => refPut_any b l z.b W hr hl hz.b hs.2)
  have HI1 := Lib.hid (fun v l W hr hl => refInt_any v l z.n W hr hl hz.n0 hz.n1)
  have HI2 := Lib.hid (fun v l W hr hl => refInt_any v l z.m W hr hl hz.m0 hz.m1)
  have HE1 := Lib.hid (encV_le z.a)
  have HE2 := Lib.hid (encV_le z.b)
  have HE3 := Lib.hid (enc_length (zig z.n))
  unfold putZ
  obtain ⟨⟨ak, an, as'⟩, ⟨bk, bn, bs⟩, pn, pm⟩ := z
  have HB := Lib.hid (Blk.new w [.int .u8 ak, .int .i64 an, .string ⟨as'.toArray⟩, .int .u8 bk, .int .i64 bn, .string ⟨bs.toArray⟩, .int .i64 pn, .int .i64 pm] 26)
  unfold V.val at HP1 HP2
  unfold Zo.val
  simp only at HP1 HP2 HI1 HI2 HE1 HE2 HE3 ⊢
  generalize encV ⟨ak, an, as'⟩ = A at HP1 HE1 ⊢
  generalize encV ⟨bk, bn, bs⟩ = B at HP2 HE2 ⊢
  generalize enc (zig pn) = C at HI1 HE3 ⊢
  generalize enc (zig pm) = D at HI2 ⊢
  clear hz hs
  go_enter Try.func21, Try.ntmps21
  go_wp2_with fail
  refine (HP1.out _ [] _ (Rd.nil _) (Nat.zero_le _)).mono ?_
  rintro e w1 ⟨r1, rfl, ho1, hb1⟩
  rw [List.nil_append] at ho1
  have HR1 := Lib.hid (RdV.of_owns ho1)
  have HB1 := Lib.hid (HB.out.ext hb1)
  have HX1 := Lib.hid (Ext.trans (ext_new w _) hb1)
  have k3 : w1.cell? ⟨w.heap.size, 3, none⟩ = some (.int .u8 bk) := HB1.out.cell 3 _ rfl
  have k4 : w1.cell? ⟨w.heap.size, 4, none⟩ = some (.int .i64 bn) := HB1.out.cell 4 _ rfl
  have k5 : w1.cell? ⟨w.heap.size, 5, none⟩ = some (.string ⟨bs.toArray⟩) := HB1.out.cell 5 _ rfl
  clear ho1 hb1
  go_wp2_with fail
  refine (HP2.out _ A _ HR1.out (by have := HE1.out; omega)).mono ?_
  rintro e w2 ⟨r2, rfl, ho2, hb2⟩
  have HR2 := Lib.hid (RdV.of_owns ho2)
  have HB2 := Lib.hid (HB1.out.ext hb2)
  have HX2 := Lib.hid (Ext.trans HX1.out hb2)
  have j6 : w2.cell? ⟨w.heap.size, 6, none⟩ = some (.int .i64 pn) := HB2.out.cell 6 _ rfl
  clear ho2 hb2 k3 k4 k5
  go_wp2_with fail
  refine (HI1.out _ (A ++ B) _ HR2.out (by have := HE1.out; have := HE2.out; rw [List.length_append]; omega)).mono ?_
  rintro e w3 ⟨r3, rfl, ho3, hb3⟩
  have HR3 := Lib.hid (RdV.of_owns ho3)
  have HB3 := Lib.hid (HB2.out.ext hb3)
  have HX3 := Lib.hid (Ext.trans HX2.out hb3)
  have i7 : w3.cell? ⟨w.heap.size, 7, none⟩ = some (.int .i64 pm) := HB3.out.cell 7 _ rfl
  clear ho3 hb3 j6
  go_wp2_with fail
  refine (HI2.out _ (A ++ B ++ C) _ HR3.out (by have := HE1.out; have := HE2.out; have := HE3.out; simp only [List.length_append]; omega)).mono ?_
  rintro e w4 ⟨r4, rfl, ho4, hb4⟩
  have HO4 := Lib.hid ho4
  have HX4 := Lib.hid (Ext.trans HX3.out hb4)
  have HX3' := Lib.hid HX3.out.size
  clear ho4 hb4 i7
  go_wp2_with fail
  go_ret
  exact ⟨_, rfl, owns_base HO4.out HX3'.out, HX4.out⟩

set_option maxRecDepth 100000 in
set_option maxHeartbeats 4000000 in
theorem refRightZ_any (k : Int) (z : Zo) (w : World) (hk : 0 ≤ k ∧ k ≤ 255) (hz : z.fits) (hs : z.small 9223372036854775807) :
    Calls Try.prog 19 #[.int .u8 k, z.val] w fun e w' => e = .returned (.bool (decide (rightZ k z))) ∧ Ext w w' := by
  have HK := Lib.hid (fun W => refKind_any k W hk)
  have HSA := Lib.hid (fun W => refSomeZ_any k z.a W hz.a hs.1)
  have HSB := Lib.hid (fun W => refSomeZ_any k z.b W hz.b hs.2)
  have HC := Lib.hid (fun W => refCompare_any z.a z.b hz.a hz.b W)
  have HNE := Lib.hid (fun W => eq_val z.a z.b W)
  obtain ⟨x, hx⟩ : ∃ x, decide (rightZ k z) = x := ⟨_, rfl⟩
  have HZ : rightZ k z ↔ x = true := by rw [← hx, decide_eq_true_iff]
  unfold rightZ at HZ
  rw [hx]
  obtain ⟨⟨ak, an, as'⟩, ⟨bk, bn, bs⟩, pn, pm⟩ := z
  have HB := Lib.hid (Blk.new w [.int .u8 ak, .int .i64 an, .string ⟨as'.toArray⟩, .int .u8 bk, .int .i64 bn, .string ⟨bs.toArray⟩, .int .i64 pn, .int .i64 pm] 26)
  have HNA := Lib.hid (show ∀ W, (binOp .eql 24 (.agg #[.int .u8 ak, .int .i64 an, .string ⟨as'.toArray⟩]) (.agg #[.int .u8 0, .int .i64 0, .string ⟨#[]⟩])).run Try.prog W = .ok (.bool (decide ((⟨ak, an, as'⟩ : V) = V.zero))) W from fun W => eq_val ⟨ak, an, as'⟩ V.zero W)
  have HNB := Lib.hid (show ∀ W, (binOp .eql 24 (.agg #[.int .u8 bk, .int .i64 bn, .string ⟨bs.toArray⟩]) (.agg #[.int .u8 0, .int .i64 0, .string ⟨#[]⟩])).run Try.prog W = .ok (.bool (decide ((⟨bk, bn, bs⟩ : V) = V.zero))) W from fun W => eq_val ⟨bk, bn, bs⟩ V.zero W)
  have HX0 := Lib.hid (ext_new w (.cells #[.int .u8 ak, .int .i64 an, .string ⟨as'.toArray⟩, .int .u8 bk, .int .i64 bn, .string ⟨bs.toArray⟩, .int .i64 pn, .int .i64 pm] 26))
  unfold V.val at HSA HSB HC HNE
  unfold Zo.val
  simp only at HSA HSB HC HZ HNE ⊢
  generalize cmpV ⟨ak, an, as'⟩ ⟨bk, bn, bs⟩ = CA at HC HZ
  generalize hna : decide ((⟨ak, an, as'⟩ : V) = V.zero) = NA at HNA
  generalize hnb : decide ((⟨bk, bn, bs⟩ : V) = V.zero) = NB at HNB
  generalize hne : decide ((⟨ak, an, as'⟩ : V) = ⟨bk, bn, bs⟩) = NE at HNE
  generalize hsa : decide (someV k ⟨ak, an, as'⟩) = SA at HSA
  generalize hsb : decide (someV k ⟨bk, bn, bs⟩) = SB at HSB
  rw [show ((⟨ak, an, as'⟩ : V) = V.zero) ↔ NA = true by rw [← hna, decide_eq_true_iff], show ((⟨bk, bn, bs⟩ : V) = V.zero) ↔ NB = true by rw [← hnb, decide_eq_true_iff], show ((⟨ak, an, as'⟩ : V) = ⟨bk, bn, bs⟩) ↔ NE = true by rw [← hne, decide_eq_true_iff], show someV k ⟨ak, an, as'⟩ ↔ SA = true by rw [← hsa, decide_eq_true_iff], show someV k ⟨bk, bn, bs⟩ ↔ SB = true by rw [← hsb, decide_eq_true_iff]] at HZ
  have hn0 : -9223372036854775808 ≤ pn := hz.n0
  have hn1 : pn ≤ 9223372036854775807 := hz.n1
  have hm0 : -9223372036854775808 ≤ pm := hz.m0
  have hm1 : pm ≤ 9223372036854775807 := hz.m1
  have HZ := Lib.hid HZ
  clear hz hs hx hna hnb hne hsa hsb
  by_cases h1 : 1 ≤ k ∧ k ≤ 3
  · rw [decide_eq_true h1] at HK
    by_cases h2 : pm < 0
    · have HQ := Lib.hid (show x = false from by
        cases x with
        | false => rfl
        | true => exact absurd (HZ.out.2 rfl).2.1.1 (by omega))
      have d2 : decide (pm < 0) = true := decide_eq_true h2
      clear hn0 hn1 hm0 hm1 h1 h2
      go_enter Try.func19, Try.ntmps19
      go_wp2_with fail
      refine (HK.out _).mono ?_
      rintro e w1 ⟨rfl, rfl⟩
      go_wp2_with fail
      go_ret
      exact ⟨by rw [HQ.out]; rfl, HX0.out⟩
    · have d2 : decide (pm < 0) = false := decide_eq_false h2
      by_cases h3 : 4096 < pm
      · have HQ := Lib.hid (show x = false from by
          cases x with
          | false => rfl
          | true => exact absurd (HZ.out.2 rfl).2.1.2 (by omega))
        have d3 : decide (4096 < pm) = true := decide_eq_true h3
        clear hn0 hn1 hm0 hm1 h1 h2 h3
        go_enter Try.func19, Try.ntmps19
        go_wp2_with fail
        refine (HK.out _).mono ?_
        rintro e w1 ⟨rfl, rfl⟩
        go_wp2_with fail
        go_ret
        exact ⟨by rw [HQ.out]; rfl, HX0.out⟩
      · have d3 : decide (4096 < pm) = false := decide_eq_false h3
        by_cases h4 : pn < 0
        · have HQ := Lib.hid (show x = false from by
            cases x with
            | false => rfl
            | true => exact absurd (HZ.out.2 rfl).2.2.1.1 (by omega))
          have d4 : decide (pn < 0) = true := decide_eq_true h4
          clear hn0 hn1 hm0 hm1 h1 h2 h3 h4
          go_enter Try.func19, Try.ntmps19
          go_wp2_with fail
          refine (HK.out _).mono ?_
          rintro e w1 ⟨rfl, rfl⟩
          go_wp2_with fail
          go_ret
          exact ⟨by rw [HQ.out]; rfl, HX0.out⟩
        · have d4 : decide (pn < 0) = false := decide_eq_false h4
          by_cases h5 : pm < pn
          · have HQ := Lib.hid (show x = false from by
              cases x with
              | false => rfl
              | true => exact absurd (HZ.out.2 rfl).2.2.1.2 (by omega))
            have d5 : decide (pm < pn) = true := decide_eq_true h5
            clear hn0 hn1 hm0 hm1 h1 h2 h3 h4 h5
            go_enter Try.func19, Try.ntmps19
            go_wp2_with fail
            refine (HK.out _).mono ?_
            rintro e w1 ⟨rfl, rfl⟩
            go_wp2_with fail
            go_ret
            exact ⟨by rw [HQ.out]; rfl, HX0.out⟩
          · have d5 : decide (pm < pn) = false := decide_eq_false h5
            have HZ2 := Lib.hid (show ((pn = pm ∧ NA = true ∧ NB = true) ∨ (pn ≠ pm ∧ SA = true ∧ SB = true ∧ CA ≤ 0 ∧ (pn + 1 < pm ∨ NE = true))) ↔ x = true from
              ⟨fun h => HZ.out.1 ⟨h1, ⟨by omega, by omega⟩, ⟨by omega, by omega⟩, h⟩, fun h => (HZ.out.2 h).2.2.2⟩)
            clear HZ hn0 hn1 hm0 hm1
            go_enter Try.func19, Try.ntmps19
            go_wp2_with fail
            refine (HK.out _).mono ?_
            rintro e w1 ⟨rfl, rfl⟩
            by_cases h6 : pn = pm
            · have HQ := Lib.hid (show x = (NA && NB) from by
                have := HZ2.out
                cases x <;> cases NA <;> cases NB <;> simp_all)
              have q6 : (pn == pm) = true := beq_iff_eq.2 h6
              have HX1 := Lib.hid (fun o => Ext.trans HX0.out (ext_new _ o))
              clear h1 h2 h3 h4 h5 h6
              have na := HNA.out
              have nb := HNB.out
              cases NA with
              | false =>
                go_wp2_with fail
                go_ret
                exact ⟨by rw [HQ.out]; simp, HX1.out _⟩
              | true =>
                go_wp2_with fail
                go_ret
                exact ⟨by rw [HQ.out]; simp, HX1.out _⟩
            · have q6 : (pn == pm) = false := beq_eq_false_iff_ne.2 h6
              have HC0 := Lib.hid (show ∀ W o, Ext w W → Blk W w.heap.size [.int .u8 ak, .int .i64 an, .string ⟨as'.toArray⟩, .int .u8 bk, .int .i64 bn, .string ⟨bs.toArray⟩, .int .i64 pn, .int .i64 pm] 26 → Blk (W.alloc o) w.heap.size [.int .u8 ak, .int .i64 an, .string ⟨as'.toArray⟩, .int .u8 bk, .int .i64 bn, .string ⟨bs.toArray⟩, .int .i64 pn, .int .i64 pm] 26 ∧ Ext w (W.alloc o) from fun W o h1 h2 => ⟨h2.ext (ext_new _ _), Ext.trans h1 (ext_new _ _)⟩)
              have HQ := Lib.hid (show x = (SA && SB && decide (CA ≤ 0) && (decide (pn + 1 < pm) || NE)) from by
                have e := HZ2.out
                cases x <;> cases SA <;> cases SB <;> cases NE <;> by_cases hca : CA ≤ 0 <;> by_cases hnm : pn + 1 < pm <;> simp_all)
              clear HZ2
              have W0 := Lib.hid (HC0.out _ (.cells #[.int .u8 0, .int .i64 0, .string ⟨#[]⟩] 24) HX0.out HB.out)
              have ne := HNE.out
              go_wp2_with fail
              refine (HSA.out _).mono ?_
              rintro e w1 ⟨rfl, hx⟩
              have HB1 := Lib.hid (W0.out.1.ext hx)
              have HX1 := Lib.hid (Ext.trans W0.out.2 hx)
              clear hx
              have e3 : w1.cell? ⟨w.heap.size, 3, none⟩ = some (.int .u8 bk) := HB1.out.cell 3 _ rfl
              have e4 : w1.cell? ⟨w.heap.size, 4, none⟩ = some (.int .i64 bn) := HB1.out.cell 4 _ rfl
              have e5 : w1.cell? ⟨w.heap.size, 5, none⟩ = some (.string ⟨bs.toArray⟩) := HB1.out.cell 5 _ rfl
              cases SA with
              | false =>
                go_wp2_with fail
                go_ret
                exact ⟨by rw [HQ.out]; simp, HX1.out⟩
              | true =>
              go_wp2_with fail
              refine (HSB.out _).mono ?_
              rintro e w2 ⟨rfl, hx⟩
              have HB2 := Lib.hid (HB1.out.ext hx)
              have HX2 := Lib.hid (Ext.trans HX1.out hx)
              clear hx e3 e4 e5
              have e0 : w2.cell? ⟨w.heap.size, 0, none⟩ = some (.int .u8 ak) := HB2.out.cell 0 _ rfl
              have e1 : w2.cell? ⟨w.heap.size, 1, none⟩ = some (.int .i64 an) := HB2.out.cell 1 _ rfl
              have e2 : w2.cell? ⟨w.heap.size, 2, none⟩ = some (.string ⟨as'.toArray⟩) := HB2.out.cell 2 _ rfl
              have e3 : w2.cell? ⟨w.heap.size, 3, none⟩ = some (.int .u8 bk) := HB2.out.cell 3 _ rfl
              have e4 : w2.cell? ⟨w.heap.size, 4, none⟩ = some (.int .i64 bn) := HB2.out.cell 4 _ rfl
              have e5 : w2.cell? ⟨w.heap.size, 5, none⟩ = some (.string ⟨bs.toArray⟩) := HB2.out.cell 5 _ rfl
              cases SB with
              | false =>
                go_wp2_with fail
                go_ret
                exact ⟨by rw [HQ.out]; simp, HX2.out⟩
              | true =>
              go_wp2_with fail
              refine (HC.out _).mono ?_
              rintro e w3 ⟨rfl, hx⟩
              have HB3 := Lib.hid (HB2.out.ext hx)
              have HX3 := Lib.hid (Ext.trans HX2.out hx)
              clear hx e0 e1 e2 e3 e4 e5
              have e0 : w3.cell? ⟨w.heap.size, 0, none⟩ = some (.int .u8 ak) := HB3.out.cell 0 _ rfl
              have e1 : w3.cell? ⟨w.heap.size, 1, none⟩ = some (.int .i64 an) := HB3.out.cell 1 _ rfl
              have e2 : w3.cell? ⟨w.heap.size, 2, none⟩ = some (.string ⟨as'.toArray⟩) := HB3.out.cell 2 _ rfl
              have e3 : w3.cell? ⟨w.heap.size, 3, none⟩ = some (.int .u8 bk) := HB3.out.cell 3 _ rfl
              have e4 : w3.cell? ⟨w.heap.size, 4, none⟩ = some (.int .i64 bn) := HB3.out.cell 4 _ rfl
              have e5 : w3.cell? ⟨w.heap.size, 5, none⟩ = some (.string ⟨bs.toArray⟩) := HB3.out.cell 5 _ rfl
              have e6 : w3.cell? ⟨w.heap.size, 6, none⟩ = some (.int .i64 pn) := HB3.out.cell 6 _ rfl
              have e7 : w3.cell? ⟨w.heap.size, 7, none⟩ = some (.int .i64 pm) := HB3.out.cell 7 _ rfl
              by_cases h7 : 0 < CA
              · have d7 : decide (0 < CA) = true := decide_eq_true h7
                have HD7 := Lib.hid (show decide (CA ≤ 0) = false from decide_eq_false (by omega))
                clear h7
                go_wp2_with fail
                go_ret
                exact ⟨by rw [HQ.out, HD7.out]; simp, HX3.out⟩
              · have d7 : decide (0 < CA) = false := decide_eq_false h7
                have HD7 := Lib.hid (show decide (CA ≤ 0) = true from decide_eq_true (by omega))
                clear h7
                by_cases h8 : pn + 1 < pm
                · have d8 : decide (pn + 1 < pm) = true := decide_eq_true h8
                  have HD8 := Lib.hid d8
                  clear h8
                  go_wp2_with fail
                  go_ret
                  exact ⟨by rw [HQ.out, HD7.out, HD8.out]; simp, HX3.out⟩
                · have d8 : decide (pn + 1 < pm) = false := decide_eq_false h8
                  have HD8 := Lib.hid d8
                  clear h8
                  go_wp2_with fail
                  go_ret
                  exact ⟨by rw [HQ.out, HD7.out, HD8.out]; simp, HX3.out⟩
  · rw [decide_eq_false h1] at HK
    have HQ := Lib.hid (show x = false from by
      cases x with
      | false => rfl
      | true => exact absurd (HZ.out.2 rfl).1 h1)
    clear hn0 hn1 hm0 hm1 h1
    go_enter Try.func19, Try.ntmps19
    go_wp2_with fail
    refine (HK.out _).mono ?_
    rintro e w1 ⟨rfl, rfl⟩
    go_wp2_with fail
    go_ret
    exact ⟨by rw [HQ.out]; rfl, HX0.out⟩
end
end Go.Proofs.Ytlbilmmjcfiokaa
