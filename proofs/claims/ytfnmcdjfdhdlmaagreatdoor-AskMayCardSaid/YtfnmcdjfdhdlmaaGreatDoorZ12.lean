/-
  Texts of this proof, merged: MayP1.
-/
import Derived.RegionTactic
import Derived.ChangeAlike
import Derived.Test.YtfnmcdjfdhdlmaaGreatDoorZ9
import Derived.Test.YtfnmcdjfdhdlmaaGreatDoorZ11
import Derived.Test.YtfnmcdjfdhdlmaaGreatDoorZ5
import Derived.Test.YtfnmcdjfdhdlmaaGreatDoorZ8
import Derived.Test.YtfnmcdjfdhdlmaaGreatDoorZ7
/-
  The program's contracts of what may come of conditions: a pattern.
-/
namespace Go.Proofs.YtfnmcdjfdhdlmaaGreatDoor
open Go.ChangeAt Go.RowKit Go.BigFrame

theorem tL_val (t : T3) : Value.agg (tL t).toArray = tripV t := rfl
theorem likeZ_no {z : Zo} {p : List UInt8} (h : ¬ z.n < z.m) : likeZ z p = (false, decide (0 < z.n), false) := by
  unfold likeZ
  rw [decide_eq_false h]
  rfl
theorem likeZ_yes {z : Zo} {p : List UInt8} (h : z.n < z.m) : likeZ z p = (!decide (p = [37]), decide (0 < z.n), !Op.bytesLess z.b.s (fixS p) && (!Op.bytesLess (fixS p) z.a.s || (fixS p).isPrefixOf z.a.s)) := by
  unfold likeZ
  rw [decide_eq_true h]
  rfl
theorem text3 (a b : List UInt8) : (Op.bytesLess a b = true ∧ (a == b) = false ∧ Op.bytesLess b a = false) ∨ (a = b ∧ Op.bytesLess b b = false) ∨ (Op.bytesLess a b = false ∧ (a == b) = false ∧ Op.bytesLess b a = true) := by
  have key : ∀ x y : List UInt8, ¬ x < y → Op.bytesLess x y = false := fun x y h => by
    cases hb : Op.bytesLess x y with
    | false => rfl
    | true => exact absurd ((less_iff x y).1 hb) h
  by_cases e : a = b
  · subst e
    exact .inr (.inl ⟨rfl, key _ _ fun h => less_asymm h h⟩)
  · rcases less_total a b e with h | h
    · exact .inl ⟨(less_iff a b).2 h, beq_eq_false_iff_ne.2 e, key _ _ (less_asymm h)⟩
    · exact .inr (.inr ⟨key _ _ (less_asymm h), beq_eq_false_iff_ne.2 e, (less_iff b a).2 h⟩)

set_option maxRecDepth 100000 in
set_option maxHeartbeats 4000000 in
theorem pMayBeLike_any (z : Zo) (p : List UInt8) (w : World) (hT : Tabs w) (hp : p.length ≤ 5000) :
    Calls Tryz.prog 51 #[z.val, .string ⟨p.toArray⟩] w fun e w' => e = .returned (tripV (likeZ z p)) ∧ Ext w w' := by
  have HF := Lib.hid (fun W (h : Ext w W) => Fixed_any p W (hT.mono h) hp)
  have HNO := Lib.hid (likeZ_no (z := z) (p := p))
  have HYE := Lib.hid (likeZ_yes (z := z) (p := p))
  have HPX := Lib.hid (fun W => hasPfx_any z.a.s (fixS p) W)
  have h3m := text3 z.b.s (fixS p)
  have h3l := text3 z.a.s (fixS p)
  generalize likeZ z p = R at HNO HYE ⊢
  unfold sv at HF
  obtain ⟨⟨ak, an, as'⟩, ⟨bk, bn, bs⟩, pn, pm⟩ := z
  unfold Zo.val
  simp only at HNO HYE HPX h3m h3l ⊢
  have HB := Lib.hid (Blk.new w [.int .u8 ak, .int .i64 an, .string ⟨as'.toArray⟩, .int .u8 bk, .int .i64 bn, .string ⟨bs.toArray⟩, .int .i64 pn, .int .i64 pm] 47)
  clear hT hp
  by_cases hnm : pn < pm
  · have d0 : decide (pn < pm) = true := decide_eq_true hnm
    have HR := Lib.hid (HYE.out hnm)
    clear hnm HNO HYE
    obtain ⟨b0, hb0⟩ : ∃ b, (p != [37]) = b := ⟨_, rfl⟩
    have hb0' : (p == [37]) = !b0 := by rw [← hb0]; simp [bne]
    have HB0 := Lib.hid (show (!decide (p = [37])) = b0 by rw [← hb0]; by_cases e : p = [37] <;> simp [e])
    rw [HB0.out] at HR
    generalize fixS p = f at HF HPX h3m h3l HR
    generalize errN p = E at HF
    generalize fixB p = B at HF
    obtain ⟨n0, hn0⟩ : ∃ b, decide (0 < pn) = b := ⟨_, rfl⟩
    rw [hn0] at HR
    have H3M := Lib.hid h3m
    have H3L := Lib.hid h3l
    clear h3m h3l
    have HBR := Lib.hid (blk_1 w (.cells #[.int .u8 ak, .int .i64 an, .string ⟨as'.toArray⟩, .int .u8 bk, .int .i64 bn, .string ⟨bs.toArray⟩, .int .i64 pn, .int .i64 pm] 47) (.cells #[.bool false, .bool n0, .bool false] 32) [.bool false, .bool false, .bool false] 32)
    have HBM := Lib.hid (show Blk (((w.alloc (.cells #[.int .u8 ak, .int .i64 an, .string ⟨as'.toArray⟩, .int .u8 bk, .int .i64 bn, .string ⟨bs.toArray⟩, .int .i64 pn, .int .i64 pm] 47)).alloc (.cells #[.bool false, .bool false, .bool false] 32)).alloc (.cells #[.bool false, .bool n0, .bool false] 32)) (w.heap.size + 1 + 1) (tL (false, n0, false)) 32 from by
      have h := Blk.new ((w.alloc (.cells #[.int .u8 ak, .int .i64 an, .string ⟨as'.toArray⟩, .int .u8 bk, .int .i64 bn, .string ⟨bs.toArray⟩, .int .i64 pn, .int .i64 pm] 47)).alloc (.cells #[.bool false, .bool false, .bool false] 32)) [.bool false, .bool n0, .bool false] 32
      simp only [World.alloc, Array.size_push] at h
      exact h)
    have HXA := Lib.hid (ext_3 w (.cells #[.int .u8 ak, .int .i64 an, .string ⟨as'.toArray⟩, .int .u8 bk, .int .i64 bn, .string ⟨bs.toArray⟩, .int .i64 pn, .int .i64 pm] 47) (.cells #[.bool false, .bool false, .bool false] 32) (.cells #[.bool false, .bool n0, .bool false] 32))
    have HBZ := Lib.hid ((HB.out.ext (ext_new _ (.cells #[.bool false, .bool false, .bool false] 32))).ext (ext_new _ (.cells #[.bool false, .bool n0, .bool false] 32)))
    go_enter Tryz.func51, Tryz.ntmps51
    go_upto_region 3 with fail
    generalize ((w.alloc (.cells #[.int .u8 ak, .int .i64 an, .string ⟨as'.toArray⟩, .int .u8 bk, .int .i64 bn, .string ⟨bs.toArray⟩, .int .i64 pn, .int .i64 pm] 47)).alloc (.cells #[.bool false, .bool false, .bool false] 32)).alloc (.cells #[.bool false, .bool n0, .bool false] 32) = WA at HBR HBM HXA HBZ ⊢
    go_wp2_with fail
    refine (HF.out _ HXA.out).mono ?_
    rintro e w1 ⟨rfl, hx⟩
    have HX1 := Lib.hid (Ext.trans HXA.out hx)
    have HBZ1 := Lib.hid (HBZ.out.ext hx)
    have HBR1 := Lib.hid ((HBR.out.ext hx).ext (Ext.drew w1))
    have HBM1 := Lib.hid ((HBM.out.ext hx).ext (Ext.drew w1))
    have HXD := Lib.hid (Ext.trans HX1.out (Ext.drew w1))
    clear hx
    have z0 : w1.cell? ⟨w.heap.size, 0, none⟩ = some (.int .u8 ak) := HBZ1.out.cell 0 _ rfl
    have z1 : w1.cell? ⟨w.heap.size, 1, none⟩ = some (.int .i64 an) := HBZ1.out.cell 1 _ rfl
    have z2 : w1.cell? ⟨w.heap.size, 2, none⟩ = some (.string ⟨as'.toArray⟩) := HBZ1.out.cell 2 _ rfl
    have z3 : w1.cell? ⟨w.heap.size, 3, none⟩ = some (.int .u8 bk) := HBZ1.out.cell 3 _ rfl
    have z4 : w1.cell? ⟨w.heap.size, 4, none⟩ = some (.int .i64 bn) := HBZ1.out.cell 4 _ rfl
    have z5 : w1.cell? ⟨w.heap.size, 5, none⟩ = some (.string ⟨bs.toArray⟩) := HBZ1.out.cell 5 _ rfl
    have z6 : w1.cell? ⟨w.heap.size, 6, none⟩ = some (.int .i64 pn) := HBZ1.out.cell 6 _ rfl
    have z7 : w1.cell? ⟨w.heap.size, 7, none⟩ = some (.int .i64 pm) := HBZ1.out.cell 7 _ rfl
    go_upto_region 4 with fail
    go_region
    clear z0 z1 z2 z3 z4 z5 z6 z7
    generalize w1.drew = W2 at HBR1 HBM1 HXD ⊢
    have m0 : W2.cell? ⟨w.heap.size + 1 + 1, 0, none⟩ = some (.bool false) := HBM1.out.cell 0 _ rfl
    have m0' : W2.frozen? ⟨w.heap.size + 1 + 1, 0, none⟩ = false := HBM1.out.free 0
    go_upto_region 6 with fail
    generalize hW3 : W2.setCell ⟨w.heap.size + 1 + 1, 0, none⟩ (.bool b0) = W3
    have HBM3 := Lib.hid (show Blk W3 (w.heap.size + 1 + 1) (tL (b0, n0, false)) 32 by rw [← hW3]; exact HBM1.out.set 0 (.bool b0))
    have HBR3 := Lib.hid (show Blk W3 (w.heap.size + 1) (tL (false, false, false)) 32 by rw [← hW3]; exact HBR1.out.beside (by omega) 0 _)
    have HX3 := Lib.hid (show Ext w W3 by rw [← hW3]; exact Below.setCell HXD.out (by show w.heap.size ≤ w.heap.size + 1 + 1; omega) _)
    clear hW3 m0 m0'
    have m2 : W3.cell? ⟨w.heap.size + 1 + 1, 2, none⟩ = some (.bool false) := HBM3.out.cell 2 _ rfl
    have m2' : W3.frozen? ⟨w.heap.size + 1 + 1, 2, none⟩ = false := HBM3.out.free 2
    rcases H3M.out with ⟨g1, g2, g3'⟩ | ⟨g1, g2⟩ | ⟨g1, g2, g3'⟩
    · have HM1 := Lib.hid g1
      go_upto_region 7 with fail
      generalize hW4 : W3.setCell ⟨w.heap.size + 1 + 1, 2, none⟩ (.bool false) = W4
      have HBM4 := Lib.hid (show Blk W4 (w.heap.size + 1 + 1) (tL (b0, n0, false)) 32 by rw [← hW4]; exact HBM3.out.set 2 (.bool false))
      have HBR4 := Lib.hid (show Blk W4 (w.heap.size + 1) (tL (false, false, false)) 32 by rw [← hW4]; exact HBR3.out.beside (by omega) 2 _)
      have HX4 := Lib.hid (show Ext w W4 by rw [← hW4]; exact Below.setCell HX3.out (by show w.heap.size ≤ w.heap.size + 1 + 1; omega) _)
      clear hW4 m2 m2'
      have k0 : W4.cell? ⟨w.heap.size + 1 + 1, 0, none⟩ = some (.bool b0) := HBM4.out.cell 0 _ rfl
      have r0 : W4.cell? ⟨w.heap.size + 1, 0, none⟩ = some (.bool false) := HBR4.out.cell 0 _ rfl
      have f0 : W4.frozen? ⟨w.heap.size + 1, 0, none⟩ = false := HBR4.out.free 0
      have k1 : W4.cell? ⟨w.heap.size + 1 + 1, 1, none⟩ = some (.bool n0) := HBM4.out.cell 1 _ rfl
      have r1 : W4.cell? ⟨w.heap.size + 1, 1, none⟩ = some (.bool false) := HBR4.out.cell 1 _ rfl
      have f1 : W4.frozen? ⟨w.heap.size + 1, 1, none⟩ = false := HBR4.out.free 1
      have k2 : W4.cell? ⟨w.heap.size + 1 + 1, 2, none⟩ = some (.bool false) := HBM4.out.cell 2 _ rfl
      have r2 : W4.cell? ⟨w.heap.size + 1, 2, none⟩ = some (.bool false) := HBR4.out.cell 2 _ rfl
      have f2 : W4.frozen? ⟨w.heap.size + 1, 2, none⟩ = false := HBR4.out.free 2
      go_wp2_with fail
      have HBF := Lib.hid (((HBR4.out.set 0 (.bool b0)).set 1 (.bool n0)).set 2 (.bool false))
      refine bodyPost_ret (results_cell_row (P := Tryz.prog) (fn := Tryz.f51) rfl _ _ (w.heap.size + 1) 32 _ (0, 0) _ rfl HBF.out Tryz.underlying32 rfl (by kernel_rfl)) rfl ?_
      exact ⟨by rw [HR.out]; first | (rw [HM1.out]; rfl) | (rw [HM1.out]; rfl), Below.setCell (Below.setCell (Below.setCell HX4.out (by show w.heap.size ≤ w.heap.size + 1; omega) _) (by show w.heap.size ≤ w.heap.size + 1; omega) _) (by show w.heap.size ≤ w.heap.size + 1; omega) _⟩
    · subst g1
      have HM1 := Lib.hid g2
      have g4 : (bs == bs) = true := by simp
      rcases H3L.out with ⟨l1, l2, l3⟩ | ⟨l1, l2⟩ | ⟨l1, l2, l3⟩
      · have HL3 := Lib.hid l3
        have l2' : (as' != bs) = false ∨ True := .inr trivial
        clear l2'
        go_upto_region 7 with fail
        generalize hW4 : W3.setCell ⟨w.heap.size + 1 + 1, 2, none⟩ (.bool true) = W4
        have HBM4 := Lib.hid (show Blk W4 (w.heap.size + 1 + 1) (tL (b0, n0, true)) 32 by rw [← hW4]; exact HBM3.out.set 2 (.bool true))
        have HBR4 := Lib.hid (show Blk W4 (w.heap.size + 1) (tL (false, false, false)) 32 by rw [← hW4]; exact HBR3.out.beside (by omega) 2 _)
        have HX4 := Lib.hid (show Ext w W4 by rw [← hW4]; exact Below.setCell HX3.out (by show w.heap.size ≤ w.heap.size + 1 + 1; omega) _)
        clear hW4 m2 m2'
        have k0 : W4.cell? ⟨w.heap.size + 1 + 1, 0, none⟩ = some (.bool b0) := HBM4.out.cell 0 _ rfl
        have r0 : W4.cell? ⟨w.heap.size + 1, 0, none⟩ = some (.bool false) := HBR4.out.cell 0 _ rfl
        have f0 : W4.frozen? ⟨w.heap.size + 1, 0, none⟩ = false := HBR4.out.free 0
        have k1 : W4.cell? ⟨w.heap.size + 1 + 1, 1, none⟩ = some (.bool n0) := HBM4.out.cell 1 _ rfl
        have r1 : W4.cell? ⟨w.heap.size + 1, 1, none⟩ = some (.bool false) := HBR4.out.cell 1 _ rfl
        have f1 : W4.frozen? ⟨w.heap.size + 1, 1, none⟩ = false := HBR4.out.free 1
        have k2 : W4.cell? ⟨w.heap.size + 1 + 1, 2, none⟩ = some (.bool true) := HBM4.out.cell 2 _ rfl
        have r2 : W4.cell? ⟨w.heap.size + 1, 2, none⟩ = some (.bool false) := HBR4.out.cell 2 _ rfl
        have f2 : W4.frozen? ⟨w.heap.size + 1, 2, none⟩ = false := HBR4.out.free 2
        go_wp2_with fail
        have HBF := Lib.hid (((HBR4.out.set 0 (.bool b0)).set 1 (.bool n0)).set 2 (.bool true))
        refine bodyPost_ret (results_cell_row (P := Tryz.prog) (fn := Tryz.f51) rfl _ _ (w.heap.size + 1) 32 _ (0, 0) _ rfl HBF.out Tryz.underlying32 rfl (by kernel_rfl)) rfl ?_
        exact ⟨by rw [HR.out]; first | (rw [HM1.out, HL3.out]; rfl) | (rw [HM1.out]; rfl), Below.setCell (Below.setCell (Below.setCell HX4.out (by show w.heap.size ≤ w.heap.size + 1; omega) _) (by show w.heap.size ≤ w.heap.size + 1; omega) _) (by show w.heap.size ≤ w.heap.size + 1; omega) _⟩
      · subst l1
        have HL3 := Lib.hid l2
        have l4 : (as' == as') = true := by simp
        go_upto_region 7 with fail
        generalize hW4 : W3.setCell ⟨w.heap.size + 1 + 1, 2, none⟩ (.bool true) = W4
        have HBM4 := Lib.hid (show Blk W4 (w.heap.size + 1 + 1) (tL (b0, n0, true)) 32 by rw [← hW4]; exact HBM3.out.set 2 (.bool true))
        have HBR4 := Lib.hid (show Blk W4 (w.heap.size + 1) (tL (false, false, false)) 32 by rw [← hW4]; exact HBR3.out.beside (by omega) 2 _)
        have HX4 := Lib.hid (show Ext w W4 by rw [← hW4]; exact Below.setCell HX3.out (by show w.heap.size ≤ w.heap.size + 1 + 1; omega) _)
        clear hW4 m2 m2'
        have k0 : W4.cell? ⟨w.heap.size + 1 + 1, 0, none⟩ = some (.bool b0) := HBM4.out.cell 0 _ rfl
        have r0 : W4.cell? ⟨w.heap.size + 1, 0, none⟩ = some (.bool false) := HBR4.out.cell 0 _ rfl
        have f0 : W4.frozen? ⟨w.heap.size + 1, 0, none⟩ = false := HBR4.out.free 0
        have k1 : W4.cell? ⟨w.heap.size + 1 + 1, 1, none⟩ = some (.bool n0) := HBM4.out.cell 1 _ rfl
        have r1 : W4.cell? ⟨w.heap.size + 1, 1, none⟩ = some (.bool false) := HBR4.out.cell 1 _ rfl
        have f1 : W4.frozen? ⟨w.heap.size + 1, 1, none⟩ = false := HBR4.out.free 1
        have k2 : W4.cell? ⟨w.heap.size + 1 + 1, 2, none⟩ = some (.bool true) := HBM4.out.cell 2 _ rfl
        have r2 : W4.cell? ⟨w.heap.size + 1, 2, none⟩ = some (.bool false) := HBR4.out.cell 2 _ rfl
        have f2 : W4.frozen? ⟨w.heap.size + 1, 2, none⟩ = false := HBR4.out.free 2
        go_wp2_with fail
        have HBF := Lib.hid (((HBR4.out.set 0 (.bool b0)).set 1 (.bool n0)).set 2 (.bool true))
        refine bodyPost_ret (results_cell_row (P := Tryz.prog) (fn := Tryz.f51) rfl _ _ (w.heap.size + 1) 32 _ (0, 0) _ rfl HBF.out Tryz.underlying32 rfl (by kernel_rfl)) rfl ?_
        exact ⟨by rw [HR.out]; first | (rw [HM1.out, HL3.out]; rfl) | (rw [HM1.out]; rfl), Below.setCell (Below.setCell (Below.setCell HX4.out (by show w.heap.size ≤ w.heap.size + 1; omega) _) (by show w.heap.size ≤ w.heap.size + 1; omega) _) (by show w.heap.size ≤ w.heap.size + 1; omega) _⟩
      · have HL3 := Lib.hid l3
        generalize hpx : bs.isPrefixOf as' = px at HPX HR
        have HPXE := Lib.hid hpx
        clear hpx
        go_wp2_with fail
        refine (HPX.out _).mono ?_
        rintro e W' ⟨rfl, rfl⟩
        go_upto_region 7 with fail
        generalize hW4 : W3.setCell ⟨w.heap.size + 1 + 1, 2, none⟩ (.bool px) = W4
        have HBM4 := Lib.hid (show Blk W4 (w.heap.size + 1 + 1) (tL (b0, n0, px)) 32 by rw [← hW4]; exact HBM3.out.set 2 (.bool px))
        have HBR4 := Lib.hid (show Blk W4 (w.heap.size + 1) (tL (false, false, false)) 32 by rw [← hW4]; exact HBR3.out.beside (by omega) 2 _)
        have HX4 := Lib.hid (show Ext w W4 by rw [← hW4]; exact Below.setCell HX3.out (by show w.heap.size ≤ w.heap.size + 1 + 1; omega) _)
        clear hW4 m2 m2'
        have k0 : W4.cell? ⟨w.heap.size + 1 + 1, 0, none⟩ = some (.bool b0) := HBM4.out.cell 0 _ rfl
        have r0 : W4.cell? ⟨w.heap.size + 1, 0, none⟩ = some (.bool false) := HBR4.out.cell 0 _ rfl
        have f0 : W4.frozen? ⟨w.heap.size + 1, 0, none⟩ = false := HBR4.out.free 0
        have k1 : W4.cell? ⟨w.heap.size + 1 + 1, 1, none⟩ = some (.bool n0) := HBM4.out.cell 1 _ rfl
        have r1 : W4.cell? ⟨w.heap.size + 1, 1, none⟩ = some (.bool false) := HBR4.out.cell 1 _ rfl
        have f1 : W4.frozen? ⟨w.heap.size + 1, 1, none⟩ = false := HBR4.out.free 1
        have k2 : W4.cell? ⟨w.heap.size + 1 + 1, 2, none⟩ = some (.bool px) := HBM4.out.cell 2 _ rfl
        have r2 : W4.cell? ⟨w.heap.size + 1, 2, none⟩ = some (.bool false) := HBR4.out.cell 2 _ rfl
        have f2 : W4.frozen? ⟨w.heap.size + 1, 2, none⟩ = false := HBR4.out.free 2
        go_wp2_with fail
        have HBF := Lib.hid (((HBR4.out.set 0 (.bool b0)).set 1 (.bool n0)).set 2 (.bool px))
        refine bodyPost_ret (results_cell_row (P := Tryz.prog) (fn := Tryz.f51) rfl _ _ (w.heap.size + 1) 32 _ (0, 0) _ rfl HBF.out Tryz.underlying32 rfl (by kernel_rfl)) rfl ?_
        exact ⟨by rw [HR.out]; first | (rw [HM1.out, HL3.out]; rfl) | (rw [HM1.out]; rfl), Below.setCell (Below.setCell (Below.setCell HX4.out (by show w.heap.size ≤ w.heap.size + 1; omega) _) (by show w.heap.size ≤ w.heap.size + 1; omega) _) (by show w.heap.size ≤ w.heap.size + 1; omega) _⟩
    · have HM1 := Lib.hid g1
      rcases H3L.out with ⟨l1, l2, l3⟩ | ⟨l1, l2⟩ | ⟨l1, l2, l3⟩
      · have HL3 := Lib.hid l3
        have l2' : (as' != f) = false ∨ True := .inr trivial
        clear l2'
        go_upto_region 7 with fail
        generalize hW4 : W3.setCell ⟨w.heap.size + 1 + 1, 2, none⟩ (.bool true) = W4
        have HBM4 := Lib.hid (show Blk W4 (w.heap.size + 1 + 1) (tL (b0, n0, true)) 32 by rw [← hW4]; exact HBM3.out.set 2 (.bool true))
        have HBR4 := Lib.hid (show Blk W4 (w.heap.size + 1) (tL (false, false, false)) 32 by rw [← hW4]; exact HBR3.out.beside (by omega) 2 _)
        have HX4 := Lib.hid (show Ext w W4 by rw [← hW4]; exact Below.setCell HX3.out (by show w.heap.size ≤ w.heap.size + 1 + 1; omega) _)
        clear hW4 m2 m2'
        have k0 : W4.cell? ⟨w.heap.size + 1 + 1, 0, none⟩ = some (.bool b0) := HBM4.out.cell 0 _ rfl
        have r0 : W4.cell? ⟨w.heap.size + 1, 0, none⟩ = some (.bool false) := HBR4.out.cell 0 _ rfl
        have f0 : W4.frozen? ⟨w.heap.size + 1, 0, none⟩ = false := HBR4.out.free 0
        have k1 : W4.cell? ⟨w.heap.size + 1 + 1, 1, none⟩ = some (.bool n0) := HBM4.out.cell 1 _ rfl
        have r1 : W4.cell? ⟨w.heap.size + 1, 1, none⟩ = some (.bool false) := HBR4.out.cell 1 _ rfl
        have f1 : W4.frozen? ⟨w.heap.size + 1, 1, none⟩ = false := HBR4.out.free 1
        have k2 : W4.cell? ⟨w.heap.size + 1 + 1, 2, none⟩ = some (.bool true) := HBM4.out.cell 2 _ rfl
        have r2 : W4.cell? ⟨w.heap.size + 1, 2, none⟩ = some (.bool false) := HBR4.out.cell 2 _ rfl
        have f2 : W4.frozen? ⟨w.heap.size + 1, 2, none⟩ = false := HBR4.out.free 2
        go_wp2_with fail
        have HBF := Lib.hid (((HBR4.out.set 0 (.bool b0)).set 1 (.bool n0)).set 2 (.bool true))
        refine bodyPost_ret (results_cell_row (P := Tryz.prog) (fn := Tryz.f51) rfl _ _ (w.heap.size + 1) 32 _ (0, 0) _ rfl HBF.out Tryz.underlying32 rfl (by kernel_rfl)) rfl ?_
        exact ⟨by rw [HR.out]; first | (rw [HM1.out, HL3.out]; rfl) | (rw [HM1.out]; rfl), Below.setCell (Below.setCell (Below.setCell HX4.out (by show w.heap.size ≤ w.heap.size + 1; omega) _) (by show w.heap.size ≤ w.heap.size + 1; omega) _) (by show w.heap.size ≤ w.heap.size + 1; omega) _⟩
      · subst l1
        have HL3 := Lib.hid l2
        have l4 : (as' == as') = true := by simp
        go_upto_region 7 with fail
        generalize hW4 : W3.setCell ⟨w.heap.size + 1 + 1, 2, none⟩ (.bool true) = W4
        have HBM4 := Lib.hid (show Blk W4 (w.heap.size + 1 + 1) (tL (b0, n0, true)) 32 by rw [← hW4]; exact HBM3.out.set 2 (.bool true))
        have HBR4 := Lib.hid (show Blk W4 (w.heap.size + 1) (tL (false, false, false)) 32 by rw [← hW4]; exact HBR3.out.beside (by omega) 2 _)
        have HX4 := Lib.hid (show Ext w W4 by rw [← hW4]; exact Below.setCell HX3.out (by show w.heap.size ≤ w.heap.size + 1 + 1; omega) _)
        clear hW4 m2 m2'
        have k0 : W4.cell? ⟨w.heap.size + 1 + 1, 0, none⟩ = some (.bool b0) := HBM4.out.cell 0 _ rfl
        have r0 : W4.cell? ⟨w.heap.size + 1, 0, none⟩ = some (.bool false) := HBR4.out.cell 0 _ rfl
        have f0 : W4.frozen? ⟨w.heap.size + 1, 0, none⟩ = false := HBR4.out.free 0
        have k1 : W4.cell? ⟨w.heap.size + 1 + 1, 1, none⟩ = some (.bool n0) := HBM4.out.cell 1 _ rfl
        have r1 : W4.cell? ⟨w.heap.size + 1, 1, none⟩ = some (.bool false) := HBR4.out.cell 1 _ rfl
        have f1 : W4.frozen? ⟨w.heap.size + 1, 1, none⟩ = false := HBR4.out.free 1
        have k2 : W4.cell? ⟨w.heap.size + 1 + 1, 2, none⟩ = some (.bool true) := HBM4.out.cell 2 _ rfl
        have r2 : W4.cell? ⟨w.heap.size + 1, 2, none⟩ = some (.bool false) := HBR4.out.cell 2 _ rfl
        have f2 : W4.frozen? ⟨w.heap.size + 1, 2, none⟩ = false := HBR4.out.free 2
        go_wp2_with fail
        have HBF := Lib.hid (((HBR4.out.set 0 (.bool b0)).set 1 (.bool n0)).set 2 (.bool true))
        refine bodyPost_ret (results_cell_row (P := Tryz.prog) (fn := Tryz.f51) rfl _ _ (w.heap.size + 1) 32 _ (0, 0) _ rfl HBF.out Tryz.underlying32 rfl (by kernel_rfl)) rfl ?_
        exact ⟨by rw [HR.out]; first | (rw [HM1.out, HL3.out]; rfl) | (rw [HM1.out]; rfl), Below.setCell (Below.setCell (Below.setCell HX4.out (by show w.heap.size ≤ w.heap.size + 1; omega) _) (by show w.heap.size ≤ w.heap.size + 1; omega) _) (by show w.heap.size ≤ w.heap.size + 1; omega) _⟩
      · have HL3 := Lib.hid l3
        generalize hpx : f.isPrefixOf as' = px at HPX HR
        have HPXE := Lib.hid hpx
        clear hpx
        go_wp2_with fail
        refine (HPX.out _).mono ?_
        rintro e W' ⟨rfl, rfl⟩
        go_upto_region 7 with fail
        generalize hW4 : W3.setCell ⟨w.heap.size + 1 + 1, 2, none⟩ (.bool px) = W4
        have HBM4 := Lib.hid (show Blk W4 (w.heap.size + 1 + 1) (tL (b0, n0, px)) 32 by rw [← hW4]; exact HBM3.out.set 2 (.bool px))
        have HBR4 := Lib.hid (show Blk W4 (w.heap.size + 1) (tL (false, false, false)) 32 by rw [← hW4]; exact HBR3.out.beside (by omega) 2 _)
        have HX4 := Lib.hid (show Ext w W4 by rw [← hW4]; exact Below.setCell HX3.out (by show w.heap.size ≤ w.heap.size + 1 + 1; omega) _)
        clear hW4 m2 m2'
        have k0 : W4.cell? ⟨w.heap.size + 1 + 1, 0, none⟩ = some (.bool b0) := HBM4.out.cell 0 _ rfl
        have r0 : W4.cell? ⟨w.heap.size + 1, 0, none⟩ = some (.bool false) := HBR4.out.cell 0 _ rfl
        have f0 : W4.frozen? ⟨w.heap.size + 1, 0, none⟩ = false := HBR4.out.free 0
        have k1 : W4.cell? ⟨w.heap.size + 1 + 1, 1, none⟩ = some (.bool n0) := HBM4.out.cell 1 _ rfl
        have r1 : W4.cell? ⟨w.heap.size + 1, 1, none⟩ = some (.bool false) := HBR4.out.cell 1 _ rfl
        have f1 : W4.frozen? ⟨w.heap.size + 1, 1, none⟩ = false := HBR4.out.free 1
        have k2 : W4.cell? ⟨w.heap.size + 1 + 1, 2, none⟩ = some (.bool px) := HBM4.out.cell 2 _ rfl
        have r2 : W4.cell? ⟨w.heap.size + 1, 2, none⟩ = some (.bool false) := HBR4.out.cell 2 _ rfl
        have f2 : W4.frozen? ⟨w.heap.size + 1, 2, none⟩ = false := HBR4.out.free 2
        go_wp2_with fail
        have HBF := Lib.hid (((HBR4.out.set 0 (.bool b0)).set 1 (.bool n0)).set 2 (.bool px))
        refine bodyPost_ret (results_cell_row (P := Tryz.prog) (fn := Tryz.f51) rfl _ _ (w.heap.size + 1) 32 _ (0, 0) _ rfl HBF.out Tryz.underlying32 rfl (by kernel_rfl)) rfl ?_
        exact ⟨by rw [HR.out]; first | (rw [HM1.out, HL3.out]; rfl) | (rw [HM1.out]; rfl), Below.setCell (Below.setCell (Below.setCell HX4.out (by show w.heap.size ≤ w.heap.size + 1; omega) _) (by show w.heap.size ≤ w.heap.size + 1; omega) _) (by show w.heap.size ≤ w.heap.size + 1; omega) _⟩
  · have d0 : decide (pn < pm) = false := decide_eq_false hnm
    have HR := Lib.hid (HNO.out hnm)
    clear hnm HNO HYE h3m h3l
    go_enter Tryz.func51, Tryz.ntmps51
    go_wp2_with fail
    refine bodyPost_ret (results_cell_row (P := Tryz.prog) (fn := Tryz.f51) rfl _ _ (w.heap.size + 1) 32 _ (0, 0) _ rfl (blk_1 w _ _ [_, _, _] _) Tryz.underlying32 rfl (by kernel_rfl)) rfl ?_
    exact ⟨by rw [HR.out]; rfl, ext_3 w _ _ _⟩

end Go.Proofs.YtfnmcdjfdhdlmaaGreatDoor
