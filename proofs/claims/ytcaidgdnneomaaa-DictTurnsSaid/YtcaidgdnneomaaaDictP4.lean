/-
  The program's own words: Put.
-/
import Derived.Test.YtcaidgdnneomaaaOct
import Derived.Test.YtcaidgdnneomaaaDictTakePure
import Derived.Test.YtcaidgdnneomaaaBeside
import Derived.Test.YtcaidgdnneomaaaBelowK
import Derived.Test.YtcaidgdnneomaaaDictP3
namespace Go.Proofs.Ytcaidgdnneomaaa
open Go.RowKit Go.BigFrame Go.Shelf

set_option maxRecDepth 100000 in
set_option maxHeartbeats 4000000 in
theorem pPut10_any (u : Value) (l : List T8) (w : World) (hu : RdV w u (l.map tv)) (hl : l.length ≤ 100000) (hf : ∀ t ∈ l, t.length ≤ 1000000) :
    Calls Try.prog 24 #[u] w fun e w' => AnsB w (putS10 l) e w' := by
  obtain ⟨i1, hi1, hy0, hy1, hy2⟩ := info_parts Try.info5
  have HR := Lib.hid (pRight10_any u l w hu hl hf)
  obtain ⟨ao, cap, rfl, h1, h2, hat⟩ := rd_words hu
  have HAT := Lib.hid hat
  obtain ⟨N, hN⟩ : ∃ N, l.length = N := ⟨_, rfl⟩
  have HN := Lib.hid hN
  unfold maxLen at h2
  rw [hN] at h1 HR hl ⊢
  clear hat hN hu hf
  cases hr : rightW l with
  | false =>
    rw [hr] at HR
    have HNO := Lib.hid (putS10_no hr)
    rw [HNO.out]
    clear hr
    go_enter Try.func24, Try.ntmps24
    go_wp2_with fail
    refine HR.out.mono ?_
    rintro e w1 ⟨rfl, hx⟩
    have HX := Lib.hid hx
    clear hx
    go_wp2_with fail
    go_ret2
    exact ⟨_, rfl, owns_nil _ _ _ _, HX.out⟩
  | true =>
    rw [hr] at HR
    have HYES := Lib.hid (putS10_ok hr)
    rw [HYES.out]
    have HGW := Lib.hid (rightW_iff.1 hr)
    have HNS := Lib.hid (show N ≤ 200 by have := HGW.out.1; have := HN.out; omega)
    have HPW := Lib.hid (show putW l = enc N ++ encW [] l by unfold putW; rw [HN.out])
    clear hr
    go_enter Try.func24, Try.ntmps24
    go_wp2_with fail
    refine HR.out.mono ?_
    rintro e w1 ⟨rfl, hx⟩
    have HX1 := Lib.hid hx
    clear hx
    have HNUM := Lib.hid (Num_any (.slice none 0 0) [] N w1 (Rd.nil w1) (by decide) (by have := HNS.out; omega))
    have hns := HNS.out
    go_wp2_with fail
    refine HNUM.out.mono ?_
    rintro e w2 ⟨v2, rfl, ho2, hx2⟩
    rw [List.nil_append] at ho2
    have HX2 := Lib.hid (Ext.trans HX1.out (show Ext w1 w2 from hx2))
    have HO2 := Lib.hid (owns_base ho2 HX1.out.size)
    clear ho2 hx2
    go_wp2_with fail
    go_loopw [4, 5, 7, 8, 18] (fun v la _ _ i wr => ∃ k : Nat, k ≤ N ∧ i = .int .i64 k ∧ la = .string ⟨(lastT [] (l.take k)).toArray⟩ ∧ wr.ownsRow w.heap.size 5 1 v ((enc N ++ encW [] (l.take k)).map bv).length ((enc N ++ encW [] (l.take k)).map bv) ∧ Below w.heap.size w wr) (fun _ _ _ _ i _ => N - (intOf i).toNat)
    case atStart => exact ⟨0, Nat.zero_le _, rfl, rfl, by rw [show enc N ++ encW [] (l.take 0) = enc N from List.append_nil _]; exact HO2.out, HX2.out⟩
    case round =>
      obtain ⟨k, hk, rfl, rfl, hown, hx⟩ := hrel
      have HX := Lib.hid hx
      have HO := Lib.hid hown
      clear hx hown
      by_cases hlt : k < N
      · have hkl : k < l.length := by have := HN.out; omega
        obtain ⟨g, off, rfl, hcx⟩ := HAT.out k hkl
        have hc0 := (HX.out.cell (lt_of_cell hcx)).trans hcx
        have HT := Lib.hid (List.take_succ_eq_append_getElem hkl)
        have HTL := Lib.hid (HGW.out.2.1 _ (List.getElem_mem hkl))
        have HLL := Lib.hid (show (lastT [] (l.take k)).length ≤ 1024 by
          rcases lastT_mem (a := ([] : T8)) (x := l.take k) with e | e
          · rw [e]; exact Nat.zero_le _
          · exact HGW.out.2.1 _ (List.mem_of_mem_take e))
        have HLEN := Lib.hid (show (enc N ++ encW [] (l.take k)).length ≤ 208409 by
          have h1 := enc_length N
          have h2 := encW_len [] (l.take k) (fun t ht => HGW.out.2.1 t (List.mem_of_mem_take ht))
          rw [List.length_take] at h2
          rw [List.length_append]
          omega)
        have HEN := Lib.hid (encW_append [] (l.take k) [l[k]])
        have HE1 := Lib.hid (encW_one (lastT [] (l.take k)) l[k])
        have HLS := Lib.hid (lastT_snoc [] l[k] (l.take k))
        generalize l[k] = t at hc0 HT HTL HEN HE1 HLS
        generalize lastT [] (l.take k) = la at HLL HEN HE1 ⊢
        generalize hp : l.take k = p at HT HO HLEN HEN HLS
        have HCB := Lib.hid (commonN_bounds la t)
        have HCM := Lib.hid (common10_any la t wr (by have := HLL.out; omega) (by have := HTL.out; omega))
        have hcut := tcut_drop t (commonN la t)
        obtain ⟨c, hcc⟩ : ∃ c, commonN la t = c := ⟨_, rfl⟩
        rw [hcc] at HCB HCM HE1 hcut
        clear hcx hkl hcc hp
        go_wp2_with fail
        refine HCM.out.mono ?_
        rintro e w3 ⟨rfl, hx3⟩
        have HX3 := Lib.hid (show Below w.heap.size w w3 from HX.out.trans (hx3.mono HX.out.size))
        have HO3 := Lib.hid (owns_ext HO.out hx3)
        have hcb := HCB.out
        have htl := HTL.out
        clear hx3 hc0
        go_wp2_with fail
        refine wp_region_segs (Below w.heap.size) (Below.keepsD _) [([0, 1, 2, 4, 5, 6], some 3), ([], some 7), ([], some 8), ([9], none)] (by kernel_rfl) (by kernel_rfl) (fun c a a' w e h => (by exact ⟨e ▸ h.1, h.2⟩)) ?_
        simp only [pickSegs, pickOps, List.map_cons, List.map_nil, Option.map_some, Option.map_none, Option.getD_some, List.getElem?_toArray, List.getElem?_cons_zero, List.getElem?_cons_succ]
        refine wpSegs_some fun K' hK' => ?_
        repeat go_big_quiet_step (fail)
        refine wpQuiet_nil ?_
        have HXD := Lib.hid (show Below w.heap.size w w3.drew from HX3.out.trans (Below.drew (Below.refl w.heap.size w3)))
        have HOD := Lib.hid (owns_ext HO3.out (Ext.drew w3))
        generalize w3.drew = wd at HXD HOD ⊢
        go_wp2_with fail
        refine (Num_any (.slice none 0 0) [] c wd (Rd.nil wd) (by decide) (by omega)).mono ?_
        rintro e w4 ⟨v4, rfl, ho4, hx4⟩
        rw [List.nil_append] at ho4
        have HR4 := Lib.hid (show Rd w4 v4 (enc c) from RdV.of_owns (by simpa using ho4))
        have HX4 := Lib.hid (show Ext wd w4 from hx4)
        have HO4 := Lib.hid (owns_ext HOD.out hx4)
        have HB4 := Lib.hid (show Below w.heap.size wd w4 from hx4.mono HXD.out.size)
        clear ho4 hx4
        go_wp2_with fail
        refine ⟨HB4.out, hK' _ _ ?_⟩
        clear hK' K'
        refine wpSegs_some fun K' hK' => ?_
        refine wpQuiet_nil ?_
        go_wp2_with fail
        refine (Text_any v4 (enc c) ⟨(t.drop c).toArray⟩ w4 HR4.out (by
          have h2 := enc_length c
          show _ + _ + (t.drop c).toArray.size ≤ _
          rw [List.size_toArray, List.length_drop]
          omega)).mono ?_
        rintro e w5 ⟨v5, rfl, ho5, hx5⟩
        have HSZ4 := Lib.hid (show w.heap.size ≤ w4.heap.size by have := HXD.out.size; have := HX4.out.size; omega)
        have HR5 := Lib.hid (show Rd w5 v5 (enc c ++ enc (t.drop c).length ++ t.drop c) from by
          have e2 : (⟨(t.drop c).toArray⟩ : ByteArray).size = (t.drop c).length := by show (t.drop c).toArray.size = _; rw [List.size_toArray]
          rw [e2] at ho5
          exact RdV.of_owns ho5)
        have HX5 := Lib.hid (show Ext w4 w5 from hx5)
        have HO5 := Lib.hid (owns_ext HO4.out hx5)
        have HB5 := Lib.hid (show Below w.heap.size w4 w5 from hx5.mono HSZ4.out)
        clear ho5 hx5
        go_wp2_with fail
        refine ⟨HB5.out, hK' _ _ ?_⟩
        clear hK' K'
        refine wpSegs_some fun K' hK' => ?_
        refine wpQuiet_nil ?_
        have HEL := Lib.hid (show (enc c ++ enc (t.drop c).length ++ t.drop c).length ≤ 2000 by
          have h1 := enc_length c
          have h2 := enc_length (t.drop c).length
          rw [List.length_append, List.length_append]
          rw [List.length_drop] at *
          omega)
        have HSZ5 := Lib.hid (show w.heap.size ≤ w5.heap.size by have := HSZ4.out; have := HX5.out.size; omega)
        have HONE := Lib.hid (bv_oneCell (enc c ++ enc (t.drop c).length ++ t.drop c))
        go_wp2_with (at_builtin; go_must (refine wpList_append_rd rfl (.tmp 25) (.tmp 32) 37 rfl w.heap.size 5 i1 (.int .u8 0) 1 Try.underlying37 hi1 hy0 hy1 hy2 rfl _ _ _ rfl HO5.out _ _ rfl HR5.out HONE.out (by have h1 := HEL.out; have h2 := HLEN.out; rw [List.length_map, List.length_map]; unfold maxLen; omega) (by have h1 := HEL.out; have h2 := HLEN.out; rw [List.length_map, List.length_map]; omega) HSZ5.out ?_); intro v6 w6 hown6 hgrow6; have HO6 := Lib.hid hown6; have HB6 := Lib.hid ((Below.refl w.heap.size w5).grown hgrow6 HSZ5.out (fun b hb => (HO5.out.lt b hb).1)); clear hown6 hgrow6)
        refine ⟨HB6.out, hK' _ _ ?_⟩
        clear hK' K'
        simp only [Act.put, List.setIfInBounds_toArray, List.set]
        refine wpSegs_none ?_
        repeat go_big_quiet_step (fail)
        refine wpQuiet_nil (wpSegs_nil ?_)
        go_wp2_with fail
        go_roundw
        case rel =>
          refine ⟨k + 1, by omega, by go_num, by rw [HT.out, HLS.out], ?_, HXD.out.trans (HB4.out.trans (HB5.out.trans HB6.out))⟩
          have h := HO6.out
          have e : enc N ++ encW [] (l.take (k + 1)) = enc N ++ encW [] p ++ (enc c ++ enc (t.drop c).length ++ t.drop c) := by
            rw [HT.out, HEN.out, HE1.out]
            unfold encT
            simp only [List.append_assoc]
          rw [e]
          have e2 : (enc N ++ encW [] p ++ (enc c ++ enc (t.drop c).length ++ t.drop c)).map bv = (enc N ++ encW [] p).map bv ++ (enc c ++ enc (t.drop c).length ++ t.drop c).map bv := List.map_append
          rw [e2, List.length_append]
          exact h
        case measure => simp [intOf]; omega
      · have HALL := Lib.hid (show l.take k = l from List.take_of_length_le (by have := HN.out; omega))
        go_wp2_with fail
        go_ret2
        refine ⟨_, rfl, ?_, HX.out⟩
        have h := HO.out
        rw [HALL.out, List.length_map] at h
        rw [HPW.out]
        exact h

end Go.Proofs.Ytcaidgdnneomaaa
