/-
  The walk of the law PurseRows.
-/
import Derived.Test.YtcokdkhfnlhnlaaPurseShown
namespace Go.Proofs.Ytcokdkhfnlhnlaa
open Go.RowKit Go.BigFrame

/-- The first ones of rows. -/
theorem rows_head {w : World} {ao : Option Addr} {N cap : Nat} {rs : List (List V)} (h : RdRows w (.slice ao N cap) rs) (K : Nat) (hK : K ≤ N) : RdRows w (.slice ao K cap) (rs.take K) := by
  obtain ⟨a', cap', h1, h2, h3, h4⟩ := h
  simp only [Value.slice.injEq] at h1
  obtain ⟨rfl, rfl, rfl⟩ := h1
  have hl : (rs.take K).length = K := by rw [List.length_take]; omega
  refine ⟨ao, cap, by rw [hl], by omega, h3, fun j hj => ?_⟩
  obtain ⟨x, v, h5, h6, h7⟩ := h4 j (by omega)
  rw [List.getElem_take]
  exact ⟨x, v, h5, h6, h7⟩

set_option maxRecDepth 100000 in
set_option maxHeartbeats 1000000 in
theorem purseRows_walk (u : Value) (rs : List (List V)) (w : World) (hu : RdRows w u rs) (_hf : ∀ vs ∈ rs, ∀ x ∈ vs, x.fits ∧ x.s.length ≤ maxLen) :
    Calls Try.prog 5 #[u] w fun e w' => e = .returned (.bool true) ∧ Below w.heap.size w w' := by
  have HU := Lib.hid hu
  obtain ⟨ao, cap, rfl, hcap, hmax, hat⟩ := hu
  have HAT := Lib.hid hat
  obtain ⟨M, hM, hMa, hMb⟩ : ∃ M : Nat, min (rs.length : Int) 50 = (M : Int) ∧ M ≤ rs.length ∧ M ≤ 50 := ⟨min rs.length 50, by omega, by omega, by omega⟩
  have hM0 : max (M : Int) 0 = (M : Int) := by omega
  unfold maxLen at hmax
  have HEAD := Lib.hid (fun K (hK : K ≤ rs.length) => rows_head HU.out K hK)
  obtain ⟨N, hN⟩ : ∃ N, rs.length = N := ⟨_, rfl⟩
  have HN := Lib.hid hN
  have HMA := Lib.hid hMa
  rw [hN] at hcap hM ⊢
  have HM := Lib.hid hM
  have HM0 := Lib.hid hM0
  clear hat hM hMa hN hM0
  go_enter Try.func5, Try.ntmps5
  go_wp2_with fail
  refine (shown6_any _).mono ?_
  rintro e w1 ⟨rfl, hx1⟩
  have HX1 := Lib.hid hx1
  clear hx1
  go_wp2_with fail
  rw [HM.out, Int.toNat_natCast, HM0.out]
  have hMc : M ≤ cap := by have := HMA.out; have := HN.out; omega
  -- the end, of the first K rows
  go_loopw [4, 5, 16] (fun s x i wr => ∃ j : Nat, j ≤ M ∧ i = .int .i64 j ∧ x = .slice ao M cap ∧ s = .int .i64 (wrap64 (rowsCost (rs.take j))) ∧ Ext w wr) (fun _ _ i _ => M - (intOf i).toNat)
  case atStart => exact ⟨0, Nat.zero_le _, rfl, rfl, rows_start rs, HX1.out⟩
  case round =>
    obtain ⟨j, hj, rfl, rfl, rfl, hext⟩ := hrel
    have HE := Lib.hid hext
    clear hext
    by_cases hlt : j < M
    · have hjl : j < rs.length := by have := HMA.out; omega
      obtain ⟨x, v, rfl, hrv, hcv⟩ := HAT.out j hjl
      have hcx := (HE.out.cell (lt_of_cell hcv)).trans hcv
      have HV := Lib.hid (hrv.mono HE.out)
      have HS := Lib.hid (rowsCost_take hjl)
      generalize rs[j] = vs at HV HS
      obtain ⟨av, cv, rfl, hv1, hv2⟩ := HV.out.shape
      have H1 := Lib.hid (fun W hW => purRow_wrap _ vs W (HV.out.mono hW))
      have H2 := Lib.hid (fun W hW => refRow_wrap _ vs W (HV.out.mono hW))
      unfold maxLen at hv2
      generalize vs.length = nv at hcx H1 H2 hv1
      clear hrv hcv hjl HV
      by_cases h50 : 50 < nv
      · have HKE := Lib.hid (HEAD.out j (by have := HMA.out; omega))
        go_wp2_with fail
        refine (purRows_wrap _ _ wr (HKE.out.mono HE.out)).mono ?_
        rintro e w3 ⟨rfl, hx3⟩
        have HX3 := Lib.hid (Ext.trans HE.out hx3)
        clear hx3
        go_wp2_with fail
        refine (purRows_any _ [] w3 (RdRows.nil w3) (by decide)).mono ?_
        rintro e w4 ⟨rfl, hx4⟩
        have HX4 := Lib.hid (Ext.trans HX3.out hx4)
        rw [show rowsCost [] = 0 from rfl]
        clear hx4
        go_wp2_with fail
        refine (purRow_any _ [] w4 (RdVals.nil w4) (by decide)).mono ?_
        rintro e w5 ⟨rfl, hx5⟩
        have HX5 := Lib.hid (Ext.trans HX4.out hx5)
        rw [show rowCost [] = 8 from rfl]
        clear hx5
        go_wp2_with fail
        go_ret
        exact ⟨by simp, HX5.out⟩
      · generalize hR : rowsCost (rs.take j) = R at HS ⊢
        generalize rowCost vs = rc at HS H1 H2
        have HW := Lib.hid (show wrap64 (R + rc) = wrap64 (wrap64 R + wrap64 rc) by unfold wrap64; omega)
        generalize wrap64 rc = rw1 at HW H1 H2
        have hrr : (rw1 == rw1) = true := beq_self_eq_true _
        go_wp2_with fail
        refine (H1.out _ (Ext.keeps.refl _)).mono ?_
        rintro e w3 ⟨rfl, hx3⟩
        have HX3 := Lib.hid hx3
        clear hx3
        go_wp2_with fail
        refine (H2.out _ HX3.out).mono ?_
        rintro e w4 ⟨rfl, hx4⟩
        have HX4 := Lib.hid (Ext.trans HX3.out hx4)
        clear hx4
        go_wp2_with fail
        refine (H2.out _ HX4.out).mono ?_
        rintro e w5 ⟨rfl, hx5⟩
        have HX5 := Lib.hid (Ext.trans HX4.out hx5)
        clear hx5
        go_wp2_with fail
        go_roundw
        case rel => exact ⟨j + 1, by omega, by go_num, rfl, by rw [HS.out, HW.out], Ext.trans HE.out HX5.out⟩
        case measure => simp [intOf]; omega
    · have HJ := Lib.hid (show j = M by omega)
      have HKE := Lib.hid (HEAD.out M (by have := HMA.out; omega))
      go_wp2_with fail
      refine (purRows_wrap _ _ wr (HKE.out.mono HE.out)).mono ?_
      rintro e w3 ⟨rfl, hx3⟩
      have HX3 := Lib.hid (Ext.trans HE.out hx3)
      rw [HJ.out]
      clear hx3
      go_wp2_with fail
      refine (purRows_any _ [] w3 (RdRows.nil w3) (by decide)).mono ?_
      rintro e w4 ⟨rfl, hx4⟩
      have HX4 := Lib.hid (Ext.trans HX3.out hx4)
      rw [show rowsCost [] = 0 from rfl]
      clear hx4
      go_wp2_with fail
      refine (purRow_any _ [] w4 (RdVals.nil w4) (by decide)).mono ?_
      rintro e w5 ⟨rfl, hx5⟩
      have HX5 := Lib.hid (Ext.trans HX4.out hx5)
      rw [show rowCost [] = 8 from rfl]
      clear hx5
      go_wp2_with fail
      go_ret
      exact ⟨by simp, HX5.out⟩

end Go.Proofs.Ytcokdkhfnlhnlaa
