/-
  The walk of the law RunsBack. (Written by tools/genrunsback.py.)
-/
import Derived.Test.YthjkfkajkbaegaaRunsOf
namespace Go.Proofs.Ythjkfkajkbaegaa
open Go.ChangeAt Go.RowKit Go.BigFrame

theorem flatS_ofR {x : List Int} (h : x.length ≤ 4096) : flatS (ofR x) = (x, 0) := by
  rw [flatS_ok (good_ofR x) (by rw [sumR_ofR]; omega), flat_ofR]
theorem right_ofR {x : List Int} (h : x.length ≤ 4096) : rightR (ofR x) = true := (rightR_iff _).2 ⟨good_ofR x, by rw [sumR_ofR]; omega, adj_ofR x⟩
theorem put_take {x : List Int} (h : x.length ≤ 4096) (hf : ∀ z ∈ x, -9223372036854775808 ≤ z ∧ z ≤ 9223372036854775807) : takeS9 (putR x) = (x, 0) := take_yes ⟨hf, h, rfl⟩
theorem right_flat {y : List Sp} (h : rightR y = true) : flatS y = (flat y, 0) ∧ ofR (flat y) = y ∧ (flat y).length ≤ 4096 := by
  obtain ⟨hg, hs, ha⟩ := (rightR_iff y).1 h
  exact ⟨flatS_ok hg hs, ofR_flat _ y rfl hg ha, by have := flat_length hg; omega⟩
theorem flat_fits9 {x : List Sp} (h : ∀ s ∈ x, s.fits) : ∀ z ∈ flat x, -9223372036854775808 ≤ z ∧ z ≤ 9223372036854775807 := by
  intro z hz
  obtain ⟨s, hs, hzs⟩ := List.mem_flatMap.1 hz
  rw [(List.mem_replicate.1 hzs).2]
  exact (h s hs).f

set_option maxRecDepth 100000 in
set_option maxHeartbeats 2000000 in
theorem runsBack_walk (u : Value) (zs : List Int) (u2 : Value) (rs : List Sp) (u3 : Value) (b : List UInt8) (w : World) (hu : RdV w u (zs.map (Value.int .i64))) (hf : ∀ n ∈ zs, (Lit.int .i64 n).wf = true) (hu2 : RdSp w u2 rs) (hf2 : ∀ s ∈ rs, s.fits) (hu3 : Rd w u3 b) :
    Calls Try.prog 6 #[u, u2, u3] w fun e w' => e = .returned (.bool true) ∧ Below w.heap.size w w' := by
  have HU := Lib.hid hu
  have HU3 := Lib.hid hu3
  obtain ⟨ao, acap, rfl, h1, h2, -⟩ := RdV.cellsAt hu
  obtain ⟨co, ccap, rfl, h3, h4⟩ := hu3.shape
  rw [List.length_map] at h1 HU ⊢
  unfold maxLen at h2 h4
  obtain ⟨K, hk1, hk2, hk3, hk4, -⟩ := min_first9 zs.length 4096
  obtain ⟨J, hj1, hj2, hj3, hj4, -⟩ := min_first9 b.length 2000
  have HV := Lib.hid (show RdV w (.slice ao K acap) ((zs.take K).map (Value.int .i64)) by rw [List.map_take]; exact rdV_head9 HU.out K hk3)
  have HB := Lib.hid (show Rd w (.slice co J ccap) (b.take J) by have := rdV_head9 HU3.out J hj3; rwa [← List.map_take] at this)
  have HXB := Lib.hid (show ∀ z ∈ zs.take K, -9223372036854775808 ≤ z ∧ z ≤ 9223372036854775807 from fun z hz => bounds_i64 (hf z (List.mem_of_mem_take hz)))
  have HXN := Lib.hid (show (zs.take K).length ≤ 4096 by rw [List.length_take]; omega)
  have HBN := Lib.hid (show (b.take J).length ≤ 2000 by rw [List.length_take]; omega)
  have HSM := Lib.hid (fun W (h : Ext w W) => some9_any u2 rs W (hu2.mono h))
  have HYF := Lib.hid (show ∀ s ∈ rs.take 500, s.fits from fun s hs => hf2 s (List.mem_of_mem_take hs))
  have HYN := Lib.hid (show (rs.take 500).length ≤ 500 by rw [List.length_take]; omega)
  generalize rs.take 500 = y at HSM HYF HYN
  generalize zs.take K = x at HV HXB HXN
  generalize b.take J = bs at HB HBN
  generalize zs.length = N at h1 hk1 hk2 hk3 ⊢
  generalize b.length = N3 at h3 hj1 hj2 hj3 ⊢
  have hKc : K ≤ acap := by omega
  have hJc : J ≤ ccap := by omega
  simp only [Int.cast_ofNat_Int] at hk1 hk2 hj1 hj2
  clear hu hf hu2 hf2 hu3 HU HU3
  go_enter Try.func6, Try.ntmps6
  go_wp2_with fail
  refine (shown9_any w).mono ?_
  rintro e w1 ⟨rfl, hx1⟩
  have HX1 := Lib.hid hx1
  clear hx1
  go_wp2_with fail
  refine (pOf9_any _ x w1 (HV.out.mono HX1.out) (by have := HXN.out; omega) HXB.out).mono ?_
  rintro e w2 ⟨⟨v2, rfl, ho2⟩, hx2⟩
  have HI2 := Lib.hid (inSp_ofR ho2.rd (by have := HXN.out; omega) HXB.out)
  have HX2 := Lib.hid (Ext.trans HX1.out hx2)
  clear ho2 hx2
  go_wp2_with fail
  refine (pFlat9_any v2 (ofR x) w2 HI2.out).mono ?_
  rintro e w3 ⟨v3, rfl, ho3, hx3⟩
  rw [flatS_ofR HXN.out] at ho3 ⊢
  have HR3 := Lib.hid (RdV.of_owns ho3)
  have HX3 := Lib.hid (Ext.trans HX2.out hx3)
  clear ho3 hx3
  go_wp2_with fail
  refine (refInts_any v3 _ x x w3 HR3.out (HV.out.mono HX3.out) (by have := HXN.out; omega) (by have := HXN.out; omega)).mono ?_
  rintro e w4 ⟨rfl, hx4⟩
  rw [decide_eq_true rfl]
  have HX4 := Lib.hid (Ext.trans HX3.out hx4)
  clear hx4
  go_wp2_with fail
  refine (pOf9_any _ x w4 (HV.out.mono HX4.out) (by have := HXN.out; omega) HXB.out).mono ?_
  rintro e w5 ⟨⟨v5, rfl, ho5⟩, hx5⟩
  have HI5 := Lib.hid (inSp_ofR ho5.rd (by have := HXN.out; omega) HXB.out)
  have HX5 := Lib.hid (Ext.trans HX4.out hx5)
  clear ho5 hx5
  go_wp2_with fail
  refine (pRight9_any v5 (ofR x) w5 HI5.out).mono ?_
  rintro e w6 ⟨rfl, hx6⟩
  rw [right_ofR HXN.out]
  have HX6 := Lib.hid (Ext.trans HX5.out hx6)
  clear hx6
  go_wp2_with fail
  refine (HSM.out w6 HX6.out).mono ?_
  rintro e wz ⟨⟨vy, rfl, hvy⟩, rfl⟩
  have HY := Lib.hid (fun W (h : Ext w6 W) => (show InSp W vy y from ⟨hvy.mono h, by have := HYN.out; omega, HYF.out⟩))
  clear hvy
  go_wp2_with fail
  refine (pFlat9_any vy y w6 (HY.out _ (Ext.keeps.refl _))).mono ?_
  rintro e w7 ⟨v7, rfl, ho7, hx7⟩
  have HX7 := Lib.hid hx7
  cases hry : rightR y with
  | true =>
    obtain ⟨hy1, hy2, hy3⟩ := right_flat hry
    have HRY := Lib.hid hry
    have HY2 := Lib.hid hy2
    have HY3 := Lib.hid hy3
    rw [hy1] at ho7 ⊢
    have HR7 := Lib.hid (RdV.of_owns ho7)
    clear ho7 hx7 hry hy1 hy2 hy3
    go_wp2_with fail
    refine (pRight9_any vy y w7 (HY.out _ HX7.out)).mono ?_
    rintro e w8 ⟨rfl, hx8⟩
    rw [HRY.out]
    have HX8 := Lib.hid (Ext.trans HX7.out hx8)
    have HR8 := Lib.hid (HR7.out.mono hx8)
    clear hx8
    go_wp2_with fail
    refine (pOf9_any v7 (flat y) w8 HR8.out (by have := HY3.out; omega) (flat_fits9 HYF.out)).mono ?_
    rintro e w9 ⟨⟨v9, rfl, ho9⟩, hx9⟩
    rw [HY2.out] at ho9
    have HO9 := Lib.hid ho9.rd
    have HX9 := Lib.hid (Ext.trans HX8.out hx9)
    clear ho9 hx9
    go_wp2_with fail
    refine (refSameR_any v9 vy y y w9 HO9.out (HY.out _ HX9.out).rd).mono ?_
    rintro e wa ⟨rfl, hxa⟩
    rw [decide_eq_true rfl]
    have HXA := Lib.hid (Ext.trans HX6.out (Ext.trans HX9.out hxa))
    clear hxa
    go_wp2_with fail
    refine (pPut9_any _ x wa (HV.out.mono HXA.out) (by have := HXN.out; omega) HXB.out).mono ?_
    rintro e wb ⟨vb, rfl, hob, hxb⟩
    rw [show putS9 x = (putR x, 0) by unfold putS9; rw [if_pos HXN.out]] at hob ⊢
    have HRB := Lib.hid (show Rd wb vb (putR x) from RdV.of_owns hob)
    have HXB' := Lib.hid (Ext.trans HXA.out hxb)
    clear hob hxb
    go_wp2_with fail
    refine (pTake9_any vb (putR x) wb HRB.out (by have := putR_len HXN.out; omega)).mono ?_
    rintro e wc ⟨vc, rfl, hoc, hxc⟩
    rw [put_take HXN.out HXB.out] at hoc ⊢
    have HRC := Lib.hid (RdV.of_owns hoc)
    have HXC := Lib.hid (Ext.trans HXB'.out hxc)
    clear hoc hxc
    go_wp2_with fail
    refine (pTake9_any _ bs wc (HB.out.mono HXC.out) (by have := HBN.out; omega)).mono ?_
    rintro e wd ⟨vd, rfl, hod, hxd⟩
    have HXCD := Lib.hid hxd
    have HXD := Lib.hid (Ext.trans HXC.out hxd)
    rcases takeS_cases bs with ⟨l0, hl0, htk⟩ | htk
    · rw [htk] at hod ⊢
      obtain ⟨so, sc, rfl, -, -⟩ := own_shapeP hod
      have HRD := Lib.hid (RdV.of_owns hod)
      have HLF := Lib.hid hl0
      simp only at HRD ⊢
      clear hod hxd htk hl0
      go_wp2_with fail
      refine (pPut9_any _ l0 wd HRD.out (by have := HLF.out.2.1; omega) HLF.out.1).mono ?_
      rintro e we ⟨ve, rfl, hoe, hxe⟩
      rw [show putS9 l0 = (putR l0, 0) by unfold putS9; rw [if_pos HLF.out.2.1]] at hoe ⊢
      rw [HLF.out.2.2] at hoe
      have HRE := Lib.hid (show Rd we ve bs from RdV.of_owns hoe)
      have HXE := Lib.hid (Ext.trans HXCD.out hxe)
      have HXE' := Lib.hid (Ext.trans HXD.out hxe)
      clear hoe hxe
      go_wp2_with fail
      refine (refInts_any vc _ x x we (HRC.out.mono HXE.out) (HV.out.mono HXE'.out) (by have := HXN.out; omega) (by have := HXN.out; omega)).mono ?_
      rintro e wf ⟨rfl, hxf⟩
      rw [decide_eq_true rfl]
      have HXF := Lib.hid (Ext.trans HXE'.out hxf)
      have hs1 := str_of9 (HRE.out.mono hxf)
      have hs2 := str_of9 (HB.out.mono HXF.out)
      clear hxf
      go_wp2_with fail
      go_ret
      exact ⟨by simp, HXF.out⟩
    · rw [htk] at hod ⊢
      obtain ⟨so, sc, rfl, -, -⟩ := own_shapeP hod
      have HRD := Lib.hid (show RdV wd _ (([] : List Int).map (Value.int .i64)) from RdV.of_owns hod)
      simp only [List.length_nil] at HRD ⊢
      clear hod hxd htk
      go_wp2_with fail
      refine (pPut9_any _ [] wd HRD.out (by simp) (fun z hz => by cases hz)).mono ?_
      rintro e we ⟨ve, rfl, hoe, hxe⟩
      generalize putS9 [] = pe at hoe ⊢
      obtain ⟨pe1, pe2⟩ := pe
      have HXE := Lib.hid (Ext.trans HXCD.out hxe)
      have HXE' := Lib.hid (Ext.trans HXD.out hxe)
      clear hoe hxe
      go_wp2_with fail
      refine (refInts_any vc _ x x we (HRC.out.mono HXE.out) (HV.out.mono HXE'.out) (by have := HXN.out; omega) (by have := HXN.out; omega)).mono ?_
      rintro e wf ⟨rfl, hxf⟩
      rw [decide_eq_true rfl]
      have HXF := Lib.hid (Ext.trans HXE'.out hxf)
      clear hxf
      go_wp2_with fail
      go_ret
      exact ⟨by simp, HXF.out⟩
  | false =>
    have HRY := Lib.hid hry
    clear ho7 hry
    generalize flatS y = fy
    obtain ⟨fy1, fy2⟩ := fy
    clear hx7
    go_wp2_with fail
    refine (pRight9_any vy y w7 (HY.out _ HX7.out)).mono ?_
    rintro e wa ⟨rfl, hxa⟩
    rw [HRY.out]
    have HXA := Lib.hid (Ext.trans HX6.out (Ext.trans HX7.out hxa))
    clear hxa
    go_wp2_with fail
    refine (pPut9_any _ x wa (HV.out.mono HXA.out) (by have := HXN.out; omega) HXB.out).mono ?_
    rintro e wb ⟨vb, rfl, hob, hxb⟩
    rw [show putS9 x = (putR x, 0) by unfold putS9; rw [if_pos HXN.out]] at hob ⊢
    have HRB := Lib.hid (show Rd wb vb (putR x) from RdV.of_owns hob)
    have HXB' := Lib.hid (Ext.trans HXA.out hxb)
    clear hob hxb
    go_wp2_with fail
    refine (pTake9_any vb (putR x) wb HRB.out (by have := putR_len HXN.out; omega)).mono ?_
    rintro e wc ⟨vc, rfl, hoc, hxc⟩
    rw [put_take HXN.out HXB.out] at hoc ⊢
    have HRC := Lib.hid (RdV.of_owns hoc)
    have HXC := Lib.hid (Ext.trans HXB'.out hxc)
    clear hoc hxc
    go_wp2_with fail
    refine (pTake9_any _ bs wc (HB.out.mono HXC.out) (by have := HBN.out; omega)).mono ?_
    rintro e wd ⟨vd, rfl, hod, hxd⟩
    have HXCD := Lib.hid hxd
    have HXD := Lib.hid (Ext.trans HXC.out hxd)
    rcases takeS_cases bs with ⟨l0, hl0, htk⟩ | htk
    · rw [htk] at hod ⊢
      obtain ⟨so, sc, rfl, -, -⟩ := own_shapeP hod
      have HRD := Lib.hid (RdV.of_owns hod)
      have HLF := Lib.hid hl0
      simp only at HRD ⊢
      clear hod hxd htk hl0
      go_wp2_with fail
      refine (pPut9_any _ l0 wd HRD.out (by have := HLF.out.2.1; omega) HLF.out.1).mono ?_
      rintro e we ⟨ve, rfl, hoe, hxe⟩
      rw [show putS9 l0 = (putR l0, 0) by unfold putS9; rw [if_pos HLF.out.2.1]] at hoe ⊢
      rw [HLF.out.2.2] at hoe
      have HRE := Lib.hid (show Rd we ve bs from RdV.of_owns hoe)
      have HXE := Lib.hid (Ext.trans HXCD.out hxe)
      have HXE' := Lib.hid (Ext.trans HXD.out hxe)
      clear hoe hxe
      go_wp2_with fail
      refine (refInts_any vc _ x x we (HRC.out.mono HXE.out) (HV.out.mono HXE'.out) (by have := HXN.out; omega) (by have := HXN.out; omega)).mono ?_
      rintro e wf ⟨rfl, hxf⟩
      rw [decide_eq_true rfl]
      have HXF := Lib.hid (Ext.trans HXE'.out hxf)
      have hs1 := str_of9 (HRE.out.mono hxf)
      have hs2 := str_of9 (HB.out.mono HXF.out)
      clear hxf
      go_wp2_with fail
      go_ret
      exact ⟨by simp, HXF.out⟩
    · rw [htk] at hod ⊢
      obtain ⟨so, sc, rfl, -, -⟩ := own_shapeP hod
      have HRD := Lib.hid (show RdV wd _ (([] : List Int).map (Value.int .i64)) from RdV.of_owns hod)
      simp only [List.length_nil] at HRD ⊢
      clear hod hxd htk
      go_wp2_with fail
      refine (pPut9_any _ [] wd HRD.out (by simp) (fun z hz => by cases hz)).mono ?_
      rintro e we ⟨ve, rfl, hoe, hxe⟩
      generalize putS9 [] = pe at hoe ⊢
      obtain ⟨pe1, pe2⟩ := pe
      have HXE := Lib.hid (Ext.trans HXCD.out hxe)
      have HXE' := Lib.hid (Ext.trans HXD.out hxe)
      clear hoe hxe
      go_wp2_with fail
      refine (refInts_any vc _ x x we (HRC.out.mono HXE.out) (HV.out.mono HXE'.out) (by have := HXN.out; omega) (by have := HXN.out; omega)).mono ?_
      rintro e wf ⟨rfl, hxf⟩
      rw [decide_eq_true rfl]
      have HXF := Lib.hid (Ext.trans HXE'.out hxf)
      clear hxf
      go_wp2_with fail
      go_ret
      exact ⟨by simp, HXF.out⟩

end Go.Proofs.Ythjkfkajkbaegaa
