/-
  The walks of the laws RunsOf, RunsTell, RunsTake.
-/
import Derived.Test.YthjkfkajkbaegaaRunsShown
namespace Go.Proofs.Ythjkfkajkbaegaa
open Go.ChangeAt Go.RowKit Go.BigFrame

theorem flatS_len (rs : List Sp) : (flatS rs).1.length ≤ 4096 := by
  by_cases h : (flatS rs).2 = 0
  · obtain ⟨hg, hs, hf⟩ := flatS_zero h
    rw [hf]
    have := flat_length hg
    show (flat rs).length ≤ 4096
    omega
  · rcases flatS_no h with e | e <;> rw [e] <;> simp
theorem takeS_cases (b : List UInt8) : (∃ l, IsPut b l ∧ takeS9 b = (l, 0)) ∨ takeS9 b = ([], 6) := by
  by_cases h : ∃ l, IsPut b l
  · obtain ⟨l, hl⟩ := h
    exact .inl ⟨l, hl, take_yes hl⟩
  · exact .inr (take_no h)
theorem takeS_len (b : List UInt8) : (takeS9 b).1.length ≤ 4096 := by
  rcases takeS_cases b with ⟨l, hl, e⟩ | e
  · rw [e]; exact hl.2.1
  · rw [e]; simp

set_option maxRecDepth 100000 in
set_option maxHeartbeats 1000000 in
theorem runsOf_walk (u : Value) (zs : List Int) (w : World) (hu : RdV w u (zs.map (Value.int .i64))) (hf : ∀ n ∈ zs, (Lit.int .i64 n).wf = true) :
    Calls Try.prog 3 #[u] w fun e w' => e = .returned (.bool true) ∧ Below w.heap.size w w' := by
  have HFW := Lib.hid (few9_any u zs w hu)
  have HXB := Lib.hid (show ∀ x ∈ zs.take 5000, -9223372036854775808 ≤ x ∧ x ≤ 9223372036854775807 from fun x hx => bounds_i64 (hf x (List.mem_of_mem_take hx)))
  have HXN := Lib.hid (show (zs.take 5000).length ≤ 5000 by rw [List.length_take]; omega)
  generalize zs.take 5000 = x at HFW HXB HXN
  clear hu hf
  go_enter Try.func3, Try.ntmps3
  go_wp2_with fail
  refine HFW.out.mono ?_
  rintro e wz ⟨⟨v, rfl, hv⟩, rfl⟩
  have HV := Lib.hid hv
  clear hv
  go_wp2_with fail
  refine (pPut9_any v x w HV.out (by have := HXN.out; omega) HXB.out).mono ?_
  rintro e w1 ⟨v1, rfl, ho1, hx1⟩
  have HR1 := Lib.hid (show Rd w1 v1 (putS9 x).1 from RdV.of_owns ho1)
  have HX1 := Lib.hid hx1
  clear ho1 hx1
  go_wp2_with fail
  refine (refPutR_any v x w1 (HV.out.mono HX1.out) HXB.out).mono ?_
  rintro e w2 ⟨v2, rfl, ho2, hx2⟩
  have HR2 := Lib.hid (show Rd w2 v2 (putS9 x).1 from RdV.of_owns ho2)
  have HX2 := Lib.hid hx2
  clear ho2 hx2
  generalize putS9 x = P at HR1 HR2 ⊢
  obtain ⟨p1, p2⟩ := P
  simp only at HR1 HR2 ⊢
  go_wp2_with fail
  refine (shown9_any w2).mono ?_
  rintro e w3 ⟨rfl, hx3⟩
  have HX3 := Lib.hid (Ext.trans HX2.out hx3)
  have HR2' := Lib.hid (HR2.out.mono hx3)
  clear hx3
  go_wp2_with fail
  refine (pOf9_any v x w3 (HV.out.mono (Ext.trans HX1.out HX3.out)) HXN.out HXB.out).mono ?_
  rintro e w4 ⟨⟨v4, rfl, ho4⟩, hx4⟩
  have HO4 := Lib.hid ho4.rd
  have HX4 := Lib.hid hx4
  clear ho4 hx4
  go_wp2_with fail
  refine (refOfR_any v x w4 (HV.out.mono (Ext.trans HX1.out (Ext.trans HX3.out HX4.out))) HXN.out).mono ?_
  rintro e w5 ⟨⟨v5, rfl, ho5⟩, hx5⟩
  have HO5 := Lib.hid ho5.rd
  have HX5 := Lib.hid hx5
  clear ho5 hx5
  go_wp2_with fail
  refine (refSameR_any v4 v5 (ofR x) (ofR x) w5 (HO4.out.mono HX5.out) HO5.out).mono ?_
  rintro e w6 ⟨rfl, hx6⟩
  rw [decide_eq_true rfl]
  have HX6 := Lib.hid (Ext.trans HX4.out (Ext.trans HX5.out hx6))
  have hs1 := str_of9 (HR1.out.mono (Ext.trans HX3.out HX6.out))
  have hs2 := str_of9 (HR2'.out.mono HX6.out)
  have q2 : (p2 == p2) = true := beq_self_eq_true _
  clear hx6
  go_wp2_with fail
  go_ret
  exact ⟨by simp, Ext.trans HX1.out (Ext.trans HX3.out HX6.out)⟩

set_option maxRecDepth 100000 in
set_option maxHeartbeats 1000000 in
theorem runsTell_walk (u : Value) (l : List Sp) (p : Int) (w : World) (hu : RdSp w u l) (hf : ∀ s ∈ l, s.fits) (hp : -9223372036854775808 ≤ p ∧ p ≤ 9223372036854775807) :
    Calls Try.prog 4 #[u, .int .i64 p] w fun e w' => e = .returned (.bool true) ∧ Below w.heap.size w w' := by
  have HFW := Lib.hid (some9_any u l w hu)
  have HXF := Lib.hid (show ∀ s ∈ l.take 500, s.fits from fun s hs => hf s (List.mem_of_mem_take hs))
  have HXN := Lib.hid (show (l.take 500).length ≤ 500 by rw [List.length_take]; omega)
  generalize l.take 500 = x at HFW HXF HXN
  have HP := Lib.hid hp
  clear hu hf hp
  go_enter Try.func4, Try.ntmps4
  go_wp2_with fail
  refine HFW.out.mono ?_
  rintro e wz ⟨⟨v, rfl, hv⟩, rfl⟩
  have HIN := Lib.hid (fun W (h : Ext w W) => (show InSp W v x from ⟨hv.mono h, by have := HXN.out; omega, HXF.out⟩))
  clear hv
  go_wp2_with fail
  refine (pFlat9_any v x w (HIN.out _ (Ext.keeps.refl _))).mono ?_
  rintro e w1 ⟨v1, rfl, ho1, hx1⟩
  have HR1 := Lib.hid (RdV.of_owns ho1)
  have HX1 := Lib.hid hx1
  clear ho1 hx1
  go_wp2_with fail
  refine (refFlat_any v x w1 (HIN.out _ HX1.out).rd).mono ?_
  rintro e w2 ⟨v2, rfl, ho2, hx2⟩
  have HR2 := Lib.hid (RdV.of_owns ho2)
  have HX2 := Lib.hid hx2
  have HX2a := Lib.hid (Ext.trans HX1.out hx2)
  have HLN := Lib.hid (flatS_len x)
  clear ho2 hx2
  generalize flatS x = P at HR1 HR2 HLN ⊢
  obtain ⟨p1, p2⟩ := P
  simp only at HR1 HR2 HLN ⊢
  go_wp2_with fail
  refine (pAt9_any v x p w2 (HIN.out _ HX2a.out) HP.out).mono ?_
  rintro e w3 ⟨rfl, hx3⟩
  have HX3 := Lib.hid hx3
  have HX3a := Lib.hid (Ext.trans HX2a.out hx3)
  clear hx3
  go_wp2_with fail
  refine (refAt_any v x p w3 (HIN.out _ HX3a.out).rd).mono ?_
  rintro e w4 ⟨rfl, hx4⟩
  have HX4 := Lib.hid (Ext.trans HX3.out hx4)
  have HX4a := Lib.hid (Ext.trans HX3a.out hx4)
  clear hx4
  generalize atS x p = A
  obtain ⟨a1, a2, a3⟩ := A
  simp only
  go_wp2_with fail
  refine (shown9_any w4).mono ?_
  rintro e w5 ⟨rfl, hx5⟩
  have HX5 := Lib.hid (Ext.trans HX4.out hx5)
  have HX5a := Lib.hid (Ext.trans HX4a.out hx5)
  clear hx5
  go_wp2_with fail
  refine (pRight9_any v x w5 (HIN.out _ HX5a.out)).mono ?_
  rintro e w6 ⟨rfl, hx6⟩
  have HX6 := Lib.hid (Ext.trans HX5.out hx6)
  have HX6a := Lib.hid (Ext.trans HX5a.out hx6)
  clear hx6
  go_wp2_with fail
  refine (refRightR_any v x w6 (HIN.out _ HX6a.out).rd).mono ?_
  rintro e w7 ⟨rfl, hx7⟩
  have HX7 := Lib.hid (Ext.trans HX6.out hx7)
  have HX7a := Lib.hid (Ext.trans HX6a.out hx7)
  clear hx7
  generalize rightR x = rr
  have q0 : (rr == rr) = true := beq_self_eq_true _
  go_wp2_with fail
  refine (refInts_any v1 v2 p1 p1 w7 (HR1.out.mono (Ext.trans HX2.out HX7.out)) (HR2.out.mono HX7.out) (by have := HLN.out; omega) (by have := HLN.out; omega)).mono ?_
  rintro e w8 ⟨rfl, hx8⟩
  rw [decide_eq_true rfl]
  have HX8 := Lib.hid (Ext.trans HX7a.out hx8)
  have q1 : (p2 == p2) = true := beq_self_eq_true _
  have q2 : (a1 == a1) = true := beq_self_eq_true _
  have q3 : (a2 == a2) = true := beq_self_eq_true _
  have q4 : (a3 == a3) = true := beq_self_eq_true _
  clear hx8
  go_wp2_with fail
  go_ret
  exact ⟨by simp, HX8.out⟩

set_option maxRecDepth 100000 in
set_option maxHeartbeats 1000000 in
theorem runsTake_walk (u : Value) (b : List UInt8) (w : World) (hu : Rd w u b) :
    Calls Try.prog 5 #[u] w fun e w' => e = .returned (.bool true) ∧ Below w.heap.size w w' := by
  have HU := Lib.hid hu
  obtain ⟨ao, cap, rfl, h1, h2⟩ := hu.shape
  unfold maxLen at h2
  obtain ⟨K, hk1, hk2, hk3, hk4, -⟩ := min_first9 b.length 2000
  have HX := Lib.hid (show Rd w (.slice ao K cap) (b.take K) by have := rdV_head9 HU.out K hk3; rwa [← List.map_take] at this)
  have HN := Lib.hid (show (b.take K).length ≤ 2000 by rw [List.length_take]; omega)
  generalize b.take K = x at HX HN
  have hKc : K ≤ cap := by omega
  generalize b.length = N at h1 hk1 hk2 hk3 ⊢
  simp only [Int.cast_ofNat_Int] at hk1 hk2
  clear hu HU
  go_enter Try.func5, Try.ntmps5
  go_wp2_with fail
  refine (pTake9_any _ x w HX.out (by have := HN.out; omega)).mono ?_
  rintro e w1 ⟨v1, rfl, ho1, hx1⟩
  have HR1 := Lib.hid (RdV.of_owns ho1)
  have HX1 := Lib.hid hx1
  clear ho1 hx1
  go_wp2_with fail
  refine (refTakeR_any _ x w1 (HX.out.mono HX1.out) (by have := HN.out; omega)).mono ?_
  rintro e w2 ⟨v2, rfl, ho2, hx2⟩
  have HR2 := Lib.hid (RdV.of_owns ho2)
  have HX2 := Lib.hid hx2
  have HLN := Lib.hid (takeS_len x)
  clear ho2 hx2
  generalize takeS9 x = P at HR1 HR2 HLN ⊢
  obtain ⟨p1, p2⟩ := P
  simp only at HR1 HR2 HLN ⊢
  go_wp2_with fail
  refine (shown9_any w2).mono ?_
  rintro e w3 ⟨rfl, hx3⟩
  have HX3 := Lib.hid hx3
  clear hx3
  go_wp2_with fail
  refine (refInts_any v1 v2 p1 p1 w3 (HR1.out.mono (Ext.trans HX2.out HX3.out)) (HR2.out.mono HX3.out) (by have := HLN.out; omega) (by have := HLN.out; omega)).mono ?_
  rintro e w4 ⟨rfl, hx4⟩
  rw [decide_eq_true rfl]
  have HX4 := Lib.hid (Ext.trans HX1.out (Ext.trans HX2.out (Ext.trans HX3.out hx4)))
  clear hx4
  have q1 : (p2 == p2) = true := beq_self_eq_true _
  go_wp2_with fail
  go_ret
  exact ⟨by simp, HX4.out⟩

end Go.Proofs.Ythjkfkajkbaegaa
