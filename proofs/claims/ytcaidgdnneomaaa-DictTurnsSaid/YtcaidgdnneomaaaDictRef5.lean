/-
  The contract of the document's own Put of words.
-/
import Derived.Test.YtcaidgdnneomaaaDictRef4
import Derived.Test.YtcaidgdnneomaaaDictTakePure
import Derived.Test.YtcaidgdnneomaaaRef
namespace Go.Proofs.Ytcaidgdnneomaaa
open Go.RowKit Go.BigFrame

set_option maxRecDepth 100000 in
set_option maxHeartbeats 2000000 in
theorem refPutW_any (u : Value) (ws : List T8) (w : World) (hu : RdV w u (ws.map tv)) :
    Calls Try.prog 25 #[u] w fun e w' => AnsB w (putS10 ws) e w' := by
  have HR := Lib.hid (refRightW_any u ws w hu)
  obtain ⟨ao, cap, rfl, h1, h2, hat⟩ := rd_words hu
  have HAT := Lib.hid hat
  obtain ⟨N, hN⟩ : ∃ N, ws.length = N := ⟨_, rfl⟩
  have HN := Lib.hid hN
  unfold maxLen at h2
  rw [hN] at h1 HR ⊢
  clear hat hN hu
  cases hr : rightW ws with
  | false =>
    rw [hr] at HR
    have HNO := Lib.hid (putS10_no hr)
    rw [HNO.out]
    clear hr
    go_enter Try.func25, Try.ntmps25
    go_wp2_with fail
    refine HR.out.mono ?_
    rintro e w1 ⟨rfl, hx⟩
    have HX := Lib.hid hx
    clear hx
    go_wp2_with fail
    go_ret2
    exact ⟨_, rfl, owns_nil _ _ _ _, HX.out⟩
  | true =>
    rw [hr] at HR
    have HYES := Lib.hid (putS10_ok hr)
    rw [HYES.out]
    have HGW := Lib.hid (rightW_iff.1 hr)
    have HNS := Lib.hid (show N ≤ 200 by have := HGW.out.1; have := HN.out; omega)
    have HPW := Lib.hid (show putW ws = enc N ++ encW [] ws by unfold putW; rw [HN.out])
    clear hr
    go_enter Try.func25, Try.ntmps25
    go_wp2_with fail
    refine HR.out.mono ?_
    rintro e w1 ⟨rfl, hx⟩
    have HX1 := Lib.hid hx
    clear hx
    have HNUM := Lib.hid (refNum_any (.slice none 0 0) [] N w1 (Rd.nil w1) (by decide) (by have := HNS.out; omega))
    have hns := HNS.out
    go_wp2_with fail
    refine HNUM.out.mono ?_
    rintro e w2 ⟨v2, rfl, ho2, hx2⟩
    rw [List.nil_append] at ho2
    have HX2 := Lib.hid (Ext.trans HX1.out (show Ext w1 w2 from hx2))
    have HO2 := Lib.hid (owns_base ho2 HX1.out.size)
    clear ho2 hx2
    go_wp2_with fail
    go_loopw [4, 5, 6, 7] (fun v la i _ wr => ∃ k : Nat, k ≤ N ∧ i = .int .i64 k ∧ la = .string ⟨(lastT [] (ws.take k)).toArray⟩ ∧ wr.ownsRow w.heap.size 5 1 v ((enc N ++ encW [] (ws.take k)).map bv).length ((enc N ++ encW [] (ws.take k)).map bv) ∧ Below w.heap.size w wr) (fun _ _ i _ _ => N - (intOf i).toNat)
    case atStart => exact ⟨0, Nat.zero_le _, rfl, rfl, by rw [show enc N ++ encW [] (ws.take 0) = enc N from List.append_nil _]; exact HO2.out, HX2.out⟩
    case round =>
      obtain ⟨k, hk, rfl, rfl, hown, hx⟩ := hrel
      have HX := Lib.hid hx
      have HO := Lib.hid hown
      clear hx hown
      by_cases hlt : k < N
      · have hkl : k < ws.length := by have := HN.out; omega
        obtain ⟨g, off, rfl, hcx⟩ := HAT.out k hkl
        have HC := Lib.hid (fun W (h : Below w.heap.size w W) => (h.cell (lt_of_cell hcx)).trans hcx)
        have HT := Lib.hid (List.take_succ_eq_append_getElem hkl)
        have HTL := Lib.hid (HGW.out.2.1 _ (List.getElem_mem hkl))
        have HLL := Lib.hid (show (lastT [] (ws.take k)).length ≤ 1024 by
          rcases lastT_mem (a := ([] : T8)) (x := ws.take k) with e | e
          · rw [e]; exact Nat.zero_le _
          · exact HGW.out.2.1 _ (List.mem_of_mem_take e))
        have HLEN := Lib.hid (show (enc N ++ encW [] (ws.take k)).length ≤ 208409 by
          have h1 := enc_length N
          have h2 := encW_len [] (ws.take k) (fun t ht => HGW.out.2.1 t (List.mem_of_mem_take ht))
          rw [List.length_take] at h2
          rw [List.length_append]
          omega)
        have HEN := Lib.hid (encW_append [] (ws.take k) [ws[k]])
        have HE1 := Lib.hid (encW_one (lastT [] (ws.take k)) ws[k])
        have HLS := Lib.hid (lastT_snoc [] ws[k] (ws.take k))
        have hc0 := HC.out _ HX.out
        generalize ws[k] = t at HC hc0 HT HTL HEN HE1 HLS
        generalize lastT [] (ws.take k) = la at HLL HEN HE1 ⊢
        generalize ws.take k = p at HT HO HLEN HEN HLS
        have HCB := Lib.hid (commonN_bounds la t)
        have HCM := Lib.hid (refCommon_any la t wr (by have := HLL.out; omega) (by have := HTL.out; omega))
        have hcut := tcut_drop t (commonN la t)
        obtain ⟨c, hcc⟩ : ∃ c, commonN la t = c := ⟨_, rfl⟩
        rw [hcc] at HCB HCM HE1 hcut
        clear hcx hkl hcc
        go_wp2_with fail
        refine HCM.out.mono ?_
        rintro e w3 ⟨rfl, hx3⟩
        have HX3 := Lib.hid (show Below w.heap.size w w3 from HX.out.trans (hx3.mono HX.out.size))
        have HO3 := Lib.hid (owns_ext HO.out hx3)
        have hcb := HCB.out
        have htl := HTL.out
        have hc1 := HC.out _ HX3.out
        clear hx3 hc0
        go_wp2_with fail
        refine (refNum_any _ (enc N ++ encW [] p) c w3 (RdV.of_owns HO3.out) (by have := HLEN.out; omega) (by omega)).mono ?_
        rintro e w4 ⟨v4, rfl, ho4, hx4⟩
        have HO4 := Lib.hid ho4
        have HX4 := Lib.hid (show Below w.heap.size w w4 from HX3.out.trans (hx4.mono HX3.out.size))
        have hc2 := HC.out _ HX4.out
        clear ho4 hx4 hc1
        go_wp2_with fail
        refine (refText_any v4 (enc N ++ encW [] p ++ enc c) ⟨(t.drop c).toArray⟩ w4 (RdV.of_owns HO4.out) (by
          have h1 := HLEN.out
          have h2 := enc_length c
          rw [List.length_append]
          show _ + _ + (t.drop c).toArray.size ≤ _
          rw [List.size_toArray, List.length_drop]
          omega)).mono ?_
        rintro e w5 ⟨v5, rfl, ho5, hx5⟩
        have HO5 := Lib.hid ho5
        have HX5 := Lib.hid (show Below w.heap.size w w5 from HX4.out.trans (hx5.mono HX4.out.size))
        have hc3 := HC.out _ HX5.out
        clear ho5 hx5 hc2
        go_wp2_with fail
        go_roundw
        case rel =>
          refine ⟨k + 1, by omega, by go_num, by rw [HT.out, HLS.out], ?_, HX5.out⟩
          have h := owns_base HO5.out HX4.out.size
          have e : enc N ++ encW [] (ws.take (k + 1)) = enc N ++ encW [] p ++ enc c ++ enc (t.drop c).length ++ t.drop c := by
            rw [HT.out, HEN.out, HE1.out]
            unfold encT
            simp only [List.append_assoc]
          have e2 : (⟨(t.drop c).toArray⟩ : ByteArray).size = (t.drop c).length := by show (t.drop c).toArray.size = _; rw [List.size_toArray]
          rw [e]
          rw [e2] at h
          exact h
        case measure => simp [intOf]; omega
      · have HALL := Lib.hid (show ws.take k = ws from List.take_of_length_le (by have := HN.out; omega))
        go_wp2_with fail
        go_ret2
        refine ⟨_, rfl, ?_, HX.out⟩
        have h := HO.out
        rw [HALL.out, List.length_map] at h
        rw [HPW.out]
        exact h

end Go.Proofs.Ytcaidgdnneomaaa
