/-
  The walks of the laws PackPacks, PackUnpacks, PackFrames.
-/
import Derived.Test.YtgfgmgekkmaipaaPackShown
namespace Go.Proofs.Ytgfgmgekkmaipaa
open Go.ChangeAt Go.RowKit Go.BigFrame

/-- How many of the first k there are. -/
theorem min_first (N k : Nat) : ∃ K : Nat, min (N : Int) (k : Int) = (K : Int) ∧ (if (k : Int) < (N : Int) then (k : Int) else (N : Int)) = (K : Int) ∧ K ≤ N ∧ K ≤ k :=
  ⟨min N k, by omega, by split <;> omega, by omega, by omega⟩

set_option maxRecDepth 100000 in
set_option maxHeartbeats 1000000 in
theorem packPacks_walk (u : Value) (zs : List Int) (many width : Int) (w : World) (hu : RdV w u (zs.map (Value.int .u64))) (hf : ∀ n ∈ zs, (Lit.int .u64 n).wf = true) (hm : -9223372036854775808 ≤ many ∧ many ≤ 9223372036854775807) (hw : -9223372036854775808 ≤ width ∧ width ≤ 9223372036854775807) :
    Calls Try.prog 3 #[u, .int .i64 many, .int .i64 width] w fun e w' => e = .returned (.bool true) ∧ Below w.heap.size w w' := by
  obtain ⟨huv, hlt⟩ := uv_of_wf zs hf
  rw [huv] at hu
  generalize zs.map Int.toNat = l at hu hlt
  have HFW := Lib.hid (few8_any u l w hu)
  have HL := Lib.hid (show ∀ x ∈ l.take 5000, x < 2 ^ 64 from fun x hx => hlt x (List.mem_of_mem_take hx))
  have HN := Lib.hid (show (l.take 5000).length ≤ 5000 by rw [List.length_take]; omega)
  generalize l.take 5000 = x at HFW HL HN
  have HM := Lib.hid hm
  have HW := Lib.hid hw
  obtain ⟨ao, cap, rfl, h1, h2, -⟩ := RdV.cellsAt hu
  rw [List.length_map] at h1 HFW ⊢
  generalize l.length = N at HFW h1 ⊢
  unfold maxLen at h2
  clear hu hf hm hw huv hlt
  go_enter Try.func3, Try.ntmps3
  go_wp2_with fail
  refine HFW.out.mono ?_
  rintro e wz ⟨⟨v, rfl, hv⟩, rfl⟩
  have HV := Lib.hid hv
  clear hv
  go_wp2_with fail
  refine (pPack8_any v x width w HV.out HL.out (by have := HN.out; omega) HW.out).mono ?_
  rintro e w1 ⟨v1, rfl, ho1, hx1⟩
  have HR1 := Lib.hid (show Rd w1 v1 (packS x width).1 from RdV.of_owns ho1)
  have HX1 := Lib.hid hx1
  clear ho1 hx1
  go_wp2_with fail
  refine (refPack_any v x width w1 (HV.out.mono HX1.out) HL.out (by have := HN.out; omega) HW.out).mono ?_
  rintro e w2 ⟨v2, rfl, ho2, hx2⟩
  have HR2 := Lib.hid (show Rd w2 v2 (packS x width).1 from RdV.of_owns ho2)
  have HX2 := Lib.hid hx2
  clear ho2 hx2
  generalize packS x width = P at HR1 HR2 ⊢
  obtain ⟨p1, p2⟩ := P
  simp only at HR1 HR2 ⊢
  go_wp2_with fail
  refine (pBytes8_any many width w2 HM.out HW.out).mono ?_
  rintro e w3 ⟨rfl, hx3⟩
  have HX3 := Lib.hid hx3
  clear hx3
  go_wp2_with fail
  refine (refBytes_any many width w3 HM.out HW.out).mono ?_
  rintro e wz ⟨rfl, rfl⟩
  generalize bytesS many width = B
  obtain ⟨b1, b2⟩ := B
  simp only
  go_wp2_with fail
  refine (shown8_any w3).mono ?_
  rintro e w4 ⟨rfl, hx4⟩
  have HX4 := Lib.hid (Ext.trans HX3.out hx4)
  clear hx4
  have hs1 := pack_str_of (HR1.out.mono (Ext.trans HX2.out HX4.out))
  have hs2 := pack_str_of (HR2.out.mono HX4.out)
  have q1 : (p2 == p2) = true := beq_self_eq_true _
  have q2 : (b1 == b1) = true := beq_self_eq_true _
  have q3 : (b2 == b2) = true := beq_self_eq_true _
  go_wp2_with fail
  refine (pWidth8_any v x w4 (HV.out.mono (Ext.trans HX1.out (Ext.trans HX2.out HX4.out))) HL.out (by have := HN.out; omega)).mono ?_
  rintro e w5 ⟨rfl, hx5⟩
  have HX5 := Lib.hid (Ext.trans HX1.out (Ext.trans HX2.out (Ext.trans HX4.out hx5)))
  clear hx5 hs1 hs2
  go_wp2_with fail
  refine (refWidth_any v x w5 (HV.out.mono HX5.out) HL.out).mono ?_
  rintro e wz ⟨rfl, rfl⟩
  generalize (widthS x : Int) = W
  have q4 : (W == W) = true := beq_self_eq_true _
  go_wp2_with fail
  go_ret
  exact ⟨by simp, HX5.out⟩

set_option maxRecDepth 100000 in
set_option maxHeartbeats 1000000 in
theorem packUnpacks_walk (u : Value) (b : List UInt8) (many width : Int) (w : World) (hu : Rd w u b) (hm : -9223372036854775808 ≤ many ∧ many ≤ 9223372036854775807) (hw : -9223372036854775808 ≤ width ∧ width ≤ 9223372036854775807) :
    Calls Try.prog 4 #[u, .int .i64 many, .int .i64 width] w fun e w' => e = .returned (.bool true) ∧ Below w.heap.size w w' := by
  have HU := Lib.hid hu
  obtain ⟨ao, cap, rfl, h1, h2⟩ := hu.shape
  unfold maxLen at h2
  obtain ⟨K, hk1, hk2, hk3, hk4⟩ := min_first b.length 4000
  have HX := Lib.hid (show Rd w (.slice ao K cap) (b.take K) by have := rdV_head8 HU.out K hk3; rwa [← List.map_take] at this)
  have HN := Lib.hid (show (b.take K).length ≤ 4000 by rw [List.length_take]; omega)
  generalize b.take K = x at HX HN
  have HM := Lib.hid hm
  have HW := Lib.hid hw
  have hKc : K ≤ cap := by omega
  generalize b.length = N at h1 hk1 hk2 hk3 ⊢
  simp only [Int.cast_ofNat_Int] at hk1 hk2
  clear hu HU hm hw
  go_enter Try.func4, Try.ntmps4
  go_wp2_with fail
  refine (pUnpack8_any _ x many width w HX.out (by have := HN.out; omega) HM.out HW.out).mono ?_
  rintro e w1 ⟨v1, rfl, ho1, hx1⟩
  have HR1 := Lib.hid (RdV.of_owns ho1)
  have HX1 := Lib.hid hx1
  clear ho1 hx1
  go_wp2_with fail
  refine (refUnpack_any _ x many width w1 (HX.out.mono HX1.out) (by have := HN.out; omega) HM.out HW.out).mono ?_
  rintro e w2 ⟨v2, rfl, ho2, hx2⟩
  have HR2 := Lib.hid (RdV.of_owns ho2)
  have HX2 := Lib.hid hx2
  clear ho2 hx2
  generalize unpackS x many width = P at HR1 HR2 ⊢
  obtain ⟨p1, p2⟩ := P
  simp only at HR1 HR2 ⊢
  go_wp2_with fail
  refine (shown8_any w2).mono ?_
  rintro e w3 ⟨rfl, hx3⟩
  have HX3 := Lib.hid hx3
  clear hx3
  go_wp2_with fail
  refine (refNums_any v1 v2 p1 p1 w3 (HR1.out.mono (Ext.trans HX2.out HX3.out)) (HR2.out.mono HX3.out)).mono ?_
  rintro e w4 ⟨rfl, hx4⟩
  rw [decide_eq_true rfl]
  have HX4 := Lib.hid (Ext.trans HX1.out (Ext.trans HX2.out (Ext.trans HX3.out hx4)))
  clear hx4
  have q1 : (p2 == p2) = true := beq_self_eq_true _
  go_wp2_with fail
  go_ret
  exact ⟨by simp, HX4.out⟩

set_option maxRecDepth 100000 in
set_option maxHeartbeats 1000000 in
theorem packFrames_walk (u : Value) (zs : List Int) (u2 : Value) (b : List UInt8) (w : World) (hu : RdV w u (zs.map (Value.int .i64))) (hf : ∀ n ∈ zs, (Lit.int .i64 n).wf = true) (hu2 : Rd w u2 b) :
    Calls Try.prog 5 #[u, u2] w fun e w' => e = .returned (.bool true) ∧ Below w.heap.size w w' := by
  have HU := Lib.hid hu
  have HU2 := Lib.hid hu2
  obtain ⟨ao, cap, rfl, h1, h2, -⟩ := RdV.cellsAt hu
  obtain ⟨bo, bcap, rfl, h3, h4⟩ := hu2.shape
  rw [List.length_map] at h1 HU ⊢
  unfold maxLen at h2 h4
  obtain ⟨K, hk1, hk2, hk3, hk4⟩ := min_first zs.length 5000
  obtain ⟨J, hj1, hj2, hj3, hj4⟩ := min_first b.length 4000
  have HX := Lib.hid (show RdV w (.slice ao K cap) ((zs.take K).map (Value.int .i64)) by rw [List.map_take]; exact rdV_head8 HU.out K hk3)
  have HY := Lib.hid (show Rd w (.slice bo J bcap) (b.take J) by have := rdV_head8 HU2.out J hj3; rwa [← List.map_take] at this)
  have HXB := Lib.hid (show ∀ x ∈ zs.take K, -9223372036854775808 ≤ x ∧ x ≤ 9223372036854775807 from fun x hx => bounds_i64 (hf x (List.mem_of_mem_take hx)))
  have HXN := Lib.hid (show (zs.take K).length ≤ 5000 by rw [List.length_take]; omega)
  have HYN := Lib.hid (show (b.take J).length ≤ 4000 by rw [List.length_take]; omega)
  generalize zs.take K = x at HX HXB HXN
  generalize b.take J = y at HY HYN
  have hKc : K ≤ cap := by omega
  have hJc : J ≤ bcap := by omega
  generalize zs.length = N at h1 hk1 hk2 hk3 ⊢
  generalize b.length = M at h3 hj1 hj2 hj3 ⊢
  simp only [Int.cast_ofNat_Int] at hk1 hk2 hj1 hj2
  clear hu HU hf hu2 HU2
  go_enter Try.func5, Try.ntmps5
  go_wp2_with fail
  refine (pFrame8_any _ x w HX.out HXB.out (by have := HXN.out; omega)).mono ?_
  rintro e w1 ⟨v1, rfl, ho1, hx1⟩
  have HR1 := Lib.hid (show Rd w1 v1 (frameS x).1 from RdV.of_owns ho1)
  have HX1 := Lib.hid hx1
  clear ho1 hx1
  go_wp2_with fail
  refine (refFrame_any _ x w1 (HX.out.mono HX1.out) HXB.out).mono ?_
  rintro e w2 ⟨v2, rfl, ho2, hx2⟩
  have HR2 := Lib.hid (show Rd w2 v2 (frameS x).1 from RdV.of_owns ho2)
  have HX2 := Lib.hid (Ext.trans HX1.out hx2)
  have HX12 := Lib.hid hx2
  clear ho2 hx2
  generalize frameS x = P at HR1 HR2 ⊢
  obtain ⟨p1, p2⟩ := P
  simp only at HR1 HR2 ⊢
  go_wp2_with fail
  refine (pUnframe8_any _ y w2 (HY.out.mono HX2.out) (by have := HYN.out; omega)).mono ?_
  rintro e w3 ⟨v3, rfl, ho3, hx3⟩
  have HR3 := Lib.hid (RdV.of_owns ho3)
  have HX3 := Lib.hid hx3
  have HL3 := Lib.hid (show (unframeS y).1.length ≤ 1000000 by
    by_cases h : ∃ l, IsFrame y l
    · obtain ⟨l, hl⟩ := h
      rw [unframe_yes hl]
      have := hl.2.1
      simp only
      omega
    · rw [unframe_no h]; simp)
  clear ho3 hx3
  go_wp2_with fail
  refine (refUnframe_any _ y w3 (HY.out.mono (Ext.trans HX2.out HX3.out)) (by have := HYN.out; omega)).mono ?_
  rintro e w4 ⟨v4, rfl, ho4, hx4⟩
  have HR4 := Lib.hid (RdV.of_owns ho4)
  have HX4 := Lib.hid hx4
  clear ho4 hx4
  generalize unframeS y = R at HR3 HR4 HL3 ⊢
  obtain ⟨r1, r2⟩ := R
  simp only at HR3 HR4 HL3 ⊢
  go_wp2_with fail
  refine (shown8_any w4).mono ?_
  rintro e w5 ⟨rfl, hx5⟩
  have HX5 := Lib.hid (Ext.trans HX4.out hx5)
  have HX45 := Lib.hid hx5
  clear hx5
  have hs1 := pack_str_of (HR1.out.mono (Ext.trans HX12.out (Ext.trans HX3.out HX5.out)))
  have hs2 := pack_str_of (HR2.out.mono (Ext.trans HX3.out HX5.out))
  have q1 : (p2 == p2) = true := beq_self_eq_true _
  have q2 : (r2 == r2) = true := beq_self_eq_true _
  go_wp2_with fail
  refine (refInts_any v3 v4 r1 r1 w5 (HR3.out.mono HX5.out) (HR4.out.mono HX45.out) HL3.out HL3.out).mono ?_
  rintro e w6 ⟨rfl, hx6⟩
  rw [decide_eq_true rfl]
  have HX6 := Lib.hid (Ext.trans HX2.out (Ext.trans HX3.out (Ext.trans HX5.out hx6)))
  clear hx6
  go_wp2_with fail
  go_ret
  exact ⟨by simp, HX6.out⟩

end Go.Proofs.Ytgfgmgekkmaipaa
