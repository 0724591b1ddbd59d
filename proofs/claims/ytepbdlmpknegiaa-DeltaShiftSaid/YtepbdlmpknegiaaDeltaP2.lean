/-
  The program's own steps: Put.
-/
import Derived.Test.YtepbdlmpknegiaaOct
import Derived.Test.YtepbdlmpknegiaaDeltaRef
import Derived.Test.YtepbdlmpknegiaaBeside
import Derived.Test.YtepbdlmpknegiaaDeltaP1
namespace Go.Proofs.Ytepbdlmpknegiaa
open Go.RowKit Go.BigFrame

set_option maxRecDepth 100000 in
set_option maxHeartbeats 4000000 in
theorem pPut11_any (u : Value) (l : List Int) (w : World) (hu : RdV w u (l.map (Value.int .i64))) (_hl : l.length ≤ 100000) (hf : fitsI l) :
    Calls Try.prog 11 #[u] w fun e w' => AnsB w (putS11 l) e w' := by
  obtain ⟨i1, hi1, hy0, hy1, hy2⟩ := info_parts Try.info5
  have HL := Lib.hid hf
  obtain ⟨ao, cap, rfl, -, -, -⟩ := RdV.cellsAt hu
  rw [List.length_map] at hu ⊢
  obtain ⟨-, h1, h2, hat⟩ := RdV.plain hu
  have HAT := Lib.hid hat
  obtain ⟨N, hN⟩ : ∃ N, l.length = N := ⟨_, rfl⟩
  have HN := Lib.hid hN
  unfold maxLen at h2
  rw [hN] at h1 ⊢
  clear hat hN hu hf _hl
  by_cases hbig : 4096 < N
  · have HNO := Lib.hid (show putS11 l = ([], 3) from putS11_long (by have := HN.out; omega))
    go_enter Try.func11, Try.ntmps11
    go_wp2_with fail
    go_ret2
    exact ⟨_, by rw [HNO.out]; rfl, by rw [HNO.out]; exact owns_nil _ _ _ _, Ext.keeps.refl _⟩
  · have HBIG := Lib.hid (show ¬ 4096 < l.length by have := HN.out; omega)
    have HNUM := Lib.hid (Num_any (.slice none 0 0) [] N w (Rd.nil w) (by decide) (by omega))
    go_enter Try.func11, Try.ntmps11
    go_wp2_with fail
    refine HNUM.out.mono ?_
    rintro e w2 ⟨v2, rfl, ho2, hx2⟩
    rw [List.nil_append] at ho2
    have HO2 := Lib.hid ho2
    have HX2 := Lib.hid (show Ext w w2 from hx2)
    clear ho2 hx2
    go_wp2_with fail
    go_loopw [4, 5, 7, 8, 9, 19] (fun v la _ _ _ i wr => ∃ k : Nat, k ≤ N ∧ i = .int .i64 k ∧ la = .int .i64 (lastD 0 (l.take k)) ∧ okD 0 (l.take k) ∧ wr.ownsRow w.heap.size 5 1 v ((enc N ++ encI (stepsD 0 (l.take k))).map bv).length ((enc N ++ encI (stepsD 0 (l.take k))).map bv) ∧ Below w.heap.size w wr) (fun _ _ _ _ _ i _ => N - (intOf i).toNat)
    case atStart => exact ⟨0, Nat.zero_le _, rfl, rfl, trivial, by rw [show enc N ++ encI (stepsD 0 (l.take 0)) = enc N from List.append_nil _]; exact HO2.out, HX2.out⟩
    case round =>
      obtain ⟨k, hk, rfl, rfl, hok, hown, hx⟩ := hrel
      have HOK := Lib.hid hok
      have HX := Lib.hid hx
      have HO := Lib.hid hown
      clear hok hx hown
      by_cases hlt : k < N
      · have hkl : k < l.length := by have := HN.out; omega
        obtain ⟨g, off, rfl, hcx⟩ := HAT.out k hkl
        have HT := Lib.hid (List.take_succ_eq_append_getElem hkl)
        have HXF := Lib.hid (HL.out _ (List.getElem_mem hkl))
        have HLF := Lib.hid (lastD_fits (fitsI_take HL.out k) (a := 0) (by decide))
        have HBAD := Lib.hid (fun (h : ¬ okStep (lastD 0 (l.take k)) l[k]) => (show putS11 l = ([], 8) from putS11_no HBIG.out (fun hh => h (by
          have e : l = l.take (k + 1) ++ l.drop (k + 1) := (List.take_append_drop _ _).symm
          rw [e, okD_append, List.take_succ_eq_append_getElem hkl, okD_append] at hh
          exact hh.1.2.1))))
        have HLEN := Lib.hid (show (enc N ++ encI (stepsD 0 (l.take k))).length ≤ 50000 by
          have h1 := enc_length N
          have h2 := encI_len (stepsD 0 (l.take k))
          rw [stepsD_length, List.length_take] at h2
          rw [List.length_append]
          omega)
        have HSD := Lib.hid (stepsD_append 0 (l.take k) [l[k]])
        have HOA := Lib.hid (okD_append 0 (l.take k) [l[k]])
        have HLS := Lib.hid (lastD_snoc 0 l[k] (l.take k))
        have hc0 := (HX.out.cell (lt_of_cell hcx)).trans hcx
        generalize l[k] = x at hc0 HT HXF HBAD HSD HOA HLS
        generalize lastD 0 (l.take k) = la at HLF HBAD HSD HOA ⊢
        generalize l.take k = p at HT HOK HO HLEN HSD HOA HLS
        have HCALL := Lib.hid (pStep11_any la x wr HLF.out HXF.out)
        clear hcx
        by_cases hst : okStep la x
        · have HST := Lib.hid hst
          rw [stepS_ok hst] at HCALL
          clear hst
          go_wp2_with fail
          refine HCALL.out.mono ?_
          rintro e w3 ⟨rfl, hx3⟩
          have HX3 := Lib.hid (show Below w.heap.size w w3 from HX.out.trans (hx3.mono HX.out.size))
          have HO3 := Lib.hid (owns_ext HO.out hx3)
          clear hx3 hc0
          go_wp2_with fail
          refine (Int_any (.slice none 0 0) [] (x - la) w3 (Rd.nil w3) (by decide) HST.out.1 HST.out.2).mono ?_
          rintro e w4 ⟨v4, rfl, ho4, hx4⟩
          rw [List.nil_append] at ho4
          have HR4 := Lib.hid (show Rd w4 v4 (enc (zig (x - la))) from RdV.of_owns (by simpa using ho4))
          have HX4 := Lib.hid (show Below w.heap.size w w4 from HX3.out.trans (hx4.mono HX3.out.size))
          have HO4 := Lib.hid (owns_ext HO3.out hx4)
          have HEL := Lib.hid (enc_length (zig (x - la)))
          have HONE := Lib.hid (bv_oneCell (enc (zig (x - la))))
          clear ho4 hx4
          go_wp2_with (at_builtin; go_must (refine wpList_append_rd rfl (.tmp 32) (.tmp 34) 26 rfl w.heap.size 5 i1 (.int .u8 0) 1 Try.underlying26 hi1 hy0 hy1 hy2 rfl _ _ _ rfl HO4.out _ _ rfl HR4.out HONE.out (by have h1 := HEL.out; have h2 := HLEN.out; rw [List.length_map, List.length_map]; unfold maxLen; omega) (by have h1 := HEL.out; have h2 := HLEN.out; rw [List.length_map, List.length_map]; omega) HX4.out.size ?_); intro v6 w6 hown6 hgrow6; have HO6 := Lib.hid hown6; have HB6 := Lib.hid ((Below.refl w.heap.size w4).grown hgrow6 HX4.out.size (fun b hb => (HO4.out.lt b hb).1)); clear hown6 hgrow6)
          go_roundw
          case rel =>
            refine ⟨k + 1, by omega, by go_num, by rw [HT.out, HLS.out], by rw [HT.out]; exact HOA.out.2 ⟨HOK.out, HST.out, trivial⟩, ?_, HX4.out.trans HB6.out⟩
            have h := HO6.out
            have e : enc N ++ encI (stepsD 0 (l.take (k + 1))) = enc N ++ encI (stepsD 0 p) ++ enc (zig (x - la)) := by
              rw [HT.out, HSD.out, encI_append, List.append_assoc]
              show _ ++ (_ ++ encI [x - la]) = _
              rw [encI_one]
            rw [e]
            have e2 : (enc N ++ encI (stepsD 0 p) ++ enc (zig (x - la))).map bv = (enc N ++ encI (stepsD 0 p)).map bv ++ (enc (zig (x - la))).map bv := List.map_append
            rw [e2, List.length_append]
            exact h
          case measure => simp [intOf]; omega
        · have HNO := Lib.hid (HBAD.out hst)
          rw [stepS_no hst] at HCALL
          clear hst
          go_wp2_with fail
          refine HCALL.out.mono ?_
          rintro e w3 ⟨rfl, hx3⟩
          have HX3 := Lib.hid (show Below w.heap.size w w3 from HX.out.trans (hx3.mono HX.out.size))
          clear hx3 hc0
          go_wp2_with fail
          go_ret2
          exact ⟨_, by rw [HNO.out]; rfl, by rw [HNO.out]; exact owns_nil _ _ _ _, HX3.out⟩
      · have HALL := Lib.hid (show l.take k = l from List.take_of_length_le (by have := HN.out; omega))
        have HYES := Lib.hid (show putS11 l = (putD l, 0) from putS11_ok HBIG.out (by have := HOK.out; rwa [HALL.out] at this))
        have HPD := Lib.hid (show putD l = enc N ++ encI (stepsD 0 l) by unfold putD; rw [HN.out])
        go_wp2_with fail
        go_ret2
        refine ⟨_, by rw [HYES.out]; rfl, ?_, HX.out⟩
        rw [HYES.out]
        show World.ownsRow _ _ _ _ _ (putD l).length _
        have h := HO.out
        rw [HALL.out, List.length_map] at h
        rw [HPD.out]
        exact h

end Go.Proofs.Ytepbdlmpknegiaa
