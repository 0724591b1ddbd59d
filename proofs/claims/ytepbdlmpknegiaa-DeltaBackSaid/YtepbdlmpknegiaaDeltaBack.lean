/-
  The walk of the law DeltaBack.
-/
import Derived.Test.YtepbdlmpknegiaaDeltaPuts
namespace Go.Proofs.Ytepbdlmpknegiaa
open Go.ChangeAt Go.RowKit Go.BigFrame

theorem takeS11_small (b : List UInt8) : (takeS11 b).1.length ≤ 4096 ∧ fitsI (takeS11 b).1 := by
  rcases takeS11_two b with h | ⟨l, hl, h⟩
  · rw [h]; exact ⟨Nat.zero_le _, fun x hx => by cases hx⟩
  · rw [h]; exact ⟨hl.parts.1, hl.1⟩

set_option maxRecDepth 100000 in
set_option maxHeartbeats 2000000 in
theorem deltaBack_walk (u : Value) (zs : List Int) (u3 : Value) (b : List UInt8) (w : World) (hu : RdV w u (zs.map (Value.int .i64))) (hf : ∀ n ∈ zs, (Lit.int .i64 n).wf = true) (hu3 : Rd w u3 b) :
    Calls Try.prog 5 #[u, u3] w fun e w' => e = .returned (.bool true) ∧ Below w.heap.size w w' := by
  have HU := Lib.hid hu
  have HU3 := Lib.hid hu3
  obtain ⟨ao, acap, rfl, h1, h2, -⟩ := RdV.cellsAt hu
  obtain ⟨co, ccap, rfl, h3, h4⟩ := hu3.shape
  rw [List.length_map] at h1 HU ⊢
  unfold maxLen at h2 h4
  obtain ⟨K, hk1, hk2, hk3, hk4, -⟩ := min_firstN zs.length 2000
  obtain ⟨J, hj1, hj2, hj3, hj4, -⟩ := min_firstN b.length 3000
  have HV := Lib.hid (show RdV w (.slice ao K acap) ((zs.take K).map (Value.int .i64)) by rw [List.map_take]; exact rdV_first HU.out K hk3)
  have HB := Lib.hid (show Rd w (.slice co J ccap) (b.take J) by have := rdV_first HU3.out J hj3; rwa [← List.map_take] at this)
  have HXF := Lib.hid (show fitsI (zs.take K) from fun z hz => bounds_i64 (hf z (List.mem_of_mem_take hz)))
  have HXN := Lib.hid (show (zs.take K).length ≤ 2000 by rw [List.length_take]; omega)
  have HBN := Lib.hid (show (b.take J).length ≤ 3000 by rw [List.length_take]; omega)
  generalize zs.take K = x at HV HXF HXN
  generalize b.take J = y at HB HBN
  generalize zs.length = N at h1 hk1 hk2 hk3 ⊢
  generalize b.length = N3 at h3 hj1 hj2 hj3 ⊢
  have hKc : K ≤ acap := by omega
  have hJc : J ≤ ccap := by omega
  simp only [Int.cast_ofNat_Int] at hk1 hk2 hj1 hj2
  clear hu hf hu3 HU HU3
  have HP1 := Lib.hid (show (putS11 x = (putD x, 0) ∧ takeS11 (putD x) = (x, 0)) ∨ putS11 x = ([], 8) from by
    by_cases h : okD 0 x
    · have := putS11_ok (l := x) (by have := HXN.out; omega) h
      exact .inl ⟨this, takeD_yes ⟨HXF.out, this⟩⟩
    · exact .inr (putS11_no (by have := HXN.out; omega) h))
  have HP2 := Lib.hid (takeS11_two y)
  have HT2 := Lib.hid (takeS11_small y)
  have HPL := Lib.hid (putS11_len x)
  go_enter Try.func5, Try.ntmps5
  go_wp2_with fail
  refine (shown11_any w).mono ?_
  rintro e w1 ⟨rfl, hx1⟩
  have HX1 := Lib.hid hx1
  clear hx1
  go_wp2_with fail
  refine (pPut11_any _ x w1 (HV.out.mono HX1.out) (by have := HXN.out; omega) HXF.out).mono ?_
  rintro e w2 ⟨v2, rfl, ho2, hx2⟩
  have HX2 := Lib.hid (Ext.trans HX1.out hx2)
  have HR2 := Lib.hid (show Rd w2 v2 (putS11 x).1 from RdV.of_owns ho2)
  obtain ⟨a2, c2, rfl, -, -⟩ := own_shapeP ho2
  clear ho2 hx2
  obtain ⟨A, e1, hA⟩ : ∃ A e, putS11 x = (A, e) := ⟨_, _, rfl⟩
  rw [hA] at HP1 HPL HR2 ⊢
  simp only at HP1 HPL HR2 ⊢
  clear hA
  go_wp2_with fail
  refine (pTake11_any _ A w2 HR2.out (by have := HPL.out; omega)).mono ?_
  rintro e w3 ⟨v3, rfl, ho3, hx3⟩
  have HX3 := Lib.hid (Ext.trans HX2.out hx3)
  have HR3 := Lib.hid (RdV.of_owns ho3)
  clear ho3 hx3
  go_wp2_with fail
  refine (pTake11_any _ y w3 (HB.out.mono HX3.out) (by have := HBN.out; omega)).mono ?_
  rintro e w4 ⟨v4, rfl, ho4, hx4⟩
  have HX4 := Lib.hid (Ext.trans HX3.out hx4)
  have HR4 := Lib.hid (RdV.of_owns ho4)
  have HR3' := Lib.hid (HR3.out.mono hx4)
  obtain ⟨a4, c4, rfl, -, -⟩ := own_shapeP ho4
  clear ho4 hx4
  obtain ⟨L, g1, hL⟩ : ∃ L g, takeS11 y = (L, g) := ⟨_, _, rfl⟩
  rw [hL] at HP2 HT2 HR4 ⊢
  simp only at HP2 HT2 HR4 ⊢
  clear hL
  go_wp2_with fail
  refine (pPut11_any _ L w4 HR4.out (by have := HT2.out.1; omega) HT2.out.2).mono ?_
  rintro e w5 ⟨v5, rfl, ho5, hx5⟩
  have HX5 := Lib.hid (Ext.trans HX4.out hx5)
  have HR5 := Lib.hid (show Rd w5 v5 (putS11 L).1 from RdV.of_owns ho5)
  have HR3'' := Lib.hid (HR3'.out.mono hx5)
  clear ho5 hx5
  rcases HP1.out with ⟨he, ht⟩ | he
  · simp only [Prod.mk.injEq] at he
    obtain ⟨rfl, rfl⟩ := he
    rw [ht] at HR3'' ⊢
    simp only at HR3'' ⊢
    have HIQ := refInts_any v3 _ x x w5 HR3''.out (HV.out.mono HX5.out) (by have := HXN.out; omega) (by have := HXN.out; omega)
    rw [decide_eq_true rfl] at HIQ
    have HI := Lib.hid HIQ
    clear HIQ
    clear ht
    rcases HP2.out with hg | ⟨l, hl, hg⟩
    · simp only [Prod.mk.injEq] at hg
      obtain ⟨rfl, rfl⟩ := hg
      generalize putS11 [] = C
      obtain ⟨C1, C2⟩ := C
      go_wp2_with fail
      refine HI.out.mono ?_
      rintro e w6 ⟨rfl, hx6⟩
      have HX6 := Lib.hid (Ext.trans HX5.out hx6)
      clear hx6
      go_wp2_with fail
      go_ret
      exact ⟨by simp, HX6.out⟩
    · simp only [Prod.mk.injEq] at hg
      obtain ⟨rfl, rfl⟩ := hg
      have hput := hl.2
      rw [hput] at HR5 ⊢
      simp only at HR5 ⊢
      clear hput hl
      have hyy : (y == y) = true := beq_self_eq_true _
      go_wp2_with fail
      refine HI.out.mono ?_
      rintro e w6 ⟨rfl, hx6⟩
      have HX6 := Lib.hid (Ext.trans HX5.out hx6)
      have hs1 := str_of (HR5.out.mono hx6)
      have hs2 := str_of (HB.out.mono HX6.out)
      clear hx6
      go_wp2_with fail
      go_ret
      exact ⟨by simp, HX6.out⟩
  · simp only [Prod.mk.injEq] at he
    obtain ⟨rfl, rfl⟩ := he
    generalize takeS11 [] = T
    obtain ⟨T1, T2⟩ := T
    rcases HP2.out with hg | ⟨l, hl, hg⟩
    · simp only [Prod.mk.injEq] at hg
      obtain ⟨rfl, rfl⟩ := hg
      generalize putS11 [] = C
      obtain ⟨C1, C2⟩ := C
      go_wp2_with fail
      go_ret
      exact ⟨by simp, HX5.out⟩
    · simp only [Prod.mk.injEq] at hg
      obtain ⟨rfl, rfl⟩ := hg
      have hput := hl.2
      rw [hput] at HR5 ⊢
      simp only at HR5 ⊢
      clear hput hl
      have hyy : (y == y) = true := beq_self_eq_true _
      have hs1 := str_of HR5.out
      have hs2 := str_of (HB.out.mono HX5.out)
      go_wp2_with fail
      go_ret
      exact ⟨by simp, HX5.out⟩

end Go.Proofs.Ytepbdlmpknegiaa
