/-
  The walk of the law PackRound.
-/
import Derived.Test.YtgfgmgekkmaipaaPackBack
namespace Go.Proofs.Ytgfgmgekkmaipaa
open Go.ChangeAt Go.RowKit Go.BigFrame

set_option maxRecDepth 100000 in
set_option maxHeartbeats 2000000 in
theorem packRound_walk (u : Value) (zs : List Int) (u2 : Value) (b : List UInt8) (w : World) (hu : RdV w u (zs.map (Value.int .i64))) (hf : ∀ n ∈ zs, (Lit.int .i64 n).wf = true) (hu2 : Rd w u2 b) :
    Calls Try.prog 7 #[u, u2] w fun e w' => e = .returned (.bool true) ∧ Below w.heap.size w w' := by
  have HU := Lib.hid hu
  have HU2 := Lib.hid hu2
  obtain ⟨ao, cap, rfl, h1, h2, -⟩ := RdV.cellsAt hu
  obtain ⟨bo, bcap, rfl, h3, h4⟩ := hu2.shape
  rw [List.length_map] at h1 HU ⊢
  unfold maxLen at h2 h4
  obtain ⟨K, hk1, hk2, hk3, hk4⟩ := min_first zs.length 1000
  obtain ⟨J, hj1, hj2, hj3, hj4⟩ := min_first b.length 4000
  have HX := Lib.hid (show RdV w (.slice ao K cap) ((zs.take K).map (Value.int .i64)) by rw [List.map_take]; exact rdV_head8 HU.out K hk3)
  have HY := Lib.hid (show Rd w (.slice bo J bcap) (b.take J) by have := rdV_head8 HU2.out J hj3; rwa [← List.map_take] at this)
  have HXB := Lib.hid (show ∀ x ∈ zs.take K, -9223372036854775808 ≤ x ∧ x ≤ 9223372036854775807 from fun x hx => bounds_i64 (hf x (List.mem_of_mem_take hx)))
  have HXN := Lib.hid (show (zs.take K).length ≤ 1000 by rw [List.length_take]; omega)
  have HYN := Lib.hid (show (b.take J).length ≤ 4000 by rw [List.length_take]; omega)
  generalize zs.take K = x at HX HXB HXN
  generalize b.take J = y at HY HYN
  have HIX := Lib.hid (show unframeS (frameB x) = (x, 0) from unframe_yes ⟨HXB.out, by have := HXN.out; omega, rfl⟩)
  have HFX := Lib.hid (show frameS x = (frameB x, 0) by unfold frameS; rw [if_pos (by have := HXN.out; omega)])
  have HFL := Lib.hid (frameB_len x (by have := HXN.out; omega))
  have HCASE := Lib.hid (show (∃ l, IsFrame y l) ∨ ¬ ∃ l, IsFrame y l from Classical.em _)
  have hKc : K ≤ cap := by omega
  have hJc : J ≤ bcap := by omega
  generalize zs.length = N at h1 hk1 hk2 hk3 ⊢
  generalize b.length = M at h3 hj1 hj2 hj3 ⊢
  simp only [Int.cast_ofNat_Int] at hk1 hk2 hj1 hj2
  clear hu HU hf hu2 HU2
  go_enter Try.func7, Try.ntmps7
  go_wp2_with fail
  refine (shown8_any w).mono ?_
  rintro e wa ⟨rfl, hxa⟩
  have HXA := Lib.hid hxa
  clear hxa
  go_wp2_with fail
  refine (pFrame8_any _ x wa (HX.out.mono HXA.out) HXB.out (by have := HXN.out; omega)).mono ?_
  rintro e wb ⟨vb, rfl, hob, hxb⟩
  rw [HFX.out] at hob ⊢
  have HRB := Lib.hid (show Rd wb vb (frameB x) from RdV.of_owns hob)
  have HXB' := Lib.hid (Ext.trans HXA.out hxb)
  clear hob hxb
  go_wp2_with fail
  refine (pUnframe8_any _ (frameB x) wb HRB.out (by have := HFL.out; omega)).mono ?_
  rintro e wc ⟨vc, rfl, hoc, hxc⟩
  rw [HIX.out] at hoc ⊢
  have HRC := Lib.hid (RdV.of_owns hoc)
  have HXC := Lib.hid (Ext.trans HXB'.out hxc)
  clear hoc hxc
  go_wp2_with fail
  refine (pUnframe8_any _ y wc (HY.out.mono HXC.out) (by have := HYN.out; omega)).mono ?_
  rintro e wd ⟨vd, rfl, hod, hxd⟩
  have HXCD := Lib.hid hxd
  have HXD := Lib.hid (Ext.trans HXC.out hxd)
  rcases HCASE.out with ⟨l, hl⟩ | hno
  · rw [unframe_yes hl] at hod ⊢
    have HFR := Lib.hid (show frameS l = (y, 0) by unfold frameS; rw [if_pos hl.2.1, hl.2.2])
    have HLB := Lib.hid hl.1
    have HLL := Lib.hid hl.2.1
    have HRD := Lib.hid (show RdV wd vd (l.map (Value.int .i64)) from RdV.of_owns hod)
    obtain ⟨lo, lc, rfl, hlc1, hlc2⟩ := own_shapeP hod
    clear hod hxd hl
    go_wp2_with fail
    refine (pFrame8_any _ l wd HRD.out HLB.out (by have := HLL.out; omega)).mono ?_
    rintro e we ⟨ve, rfl, hoe, hxe⟩
    rw [HFR.out] at hoe ⊢
    have HRE := Lib.hid (show Rd we ve y from RdV.of_owns hoe)
    have HXE := Lib.hid hxe
    clear hoe hxe
    go_wp2_with fail
    refine (refInts_any _ _ x x we (HRC.out.mono (Ext.trans HXCD.out HXE.out)) (HX.out.mono (Ext.trans HXD.out HXE.out)) (by have := HXN.out; omega) (by have := HXN.out; omega)).mono ?_
    rintro e wf ⟨rfl, hxf⟩
    rw [decide_eq_true rfl]
    have HXF := Lib.hid (Ext.trans HXD.out (Ext.trans HXE.out hxf))
    have hs1 := pack_str_of (HRE.out.mono hxf)
    have hs2 := pack_str_of (HY.out.mono HXF.out)
    clear hxf
    go_wp2_with fail
    go_ret
    exact ⟨by simp, HXF.out⟩
  · rw [unframe_no hno] at hod ⊢
    have HRD := Lib.hid (show RdV wd vd (([] : List Int).map (Value.int .i64)) from RdV.of_owns hod)
    obtain ⟨lo, lc, rfl, hlc1, hlc2⟩ := own_shapeP hod
    have HFR := Lib.hid (show frameS [] = (frameB [], 0) from rfl)
    clear hod hxd hno
    go_wp2_with fail
    refine (pFrame8_any _ [] wd HRD.out (fun x hx => by cases hx) (by decide)).mono ?_
    rintro e we ⟨ve, rfl, hoe, hxe⟩
    rw [HFR.out]
    have HXE := Lib.hid hxe
    clear hoe hxe
    go_wp2_with fail
    refine (refInts_any _ _ x x we (HRC.out.mono (Ext.trans HXCD.out HXE.out)) (HX.out.mono (Ext.trans HXD.out HXE.out)) (by have := HXN.out; omega) (by have := HXN.out; omega)).mono ?_
    rintro e wf ⟨rfl, hxf⟩
    rw [decide_eq_true rfl]
    have HXF := Lib.hid (Ext.trans HXD.out (Ext.trans HXE.out hxf))
    clear hxf
    go_wp2_with fail
    go_ret
    exact ⟨by simp, HXF.out⟩

end Go.Proofs.Ytgfgmgekkmaipaa
