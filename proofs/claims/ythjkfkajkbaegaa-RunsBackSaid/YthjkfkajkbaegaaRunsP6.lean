/-
  The program's own runs: Put.
-/
import Derived.Test.YthjkfkajkbaegaaOct
import Derived.Test.YthjkfkajkbaegaaRunsPut
import Derived.Test.YthjkfkajkbaegaaRunsP5
namespace Go.Proofs.Ythjkfkajkbaegaa
open Go.RowKit Go.BigFrame

set_option maxRecDepth 100000 in
set_option maxHeartbeats 2000000 in
theorem pPut9_any (u : Value) (l : List Int) (w : World) (hu : RdV w u (l.map (Value.int .i64))) (_hl : l.length ≤ 100000) (hf : ∀ x ∈ l, -9223372036854775808 ≤ x ∧ x ≤ 9223372036854775807) :
    Calls Try.prog 9 #[u] w fun e w' => AnsB w (putS9 l) e w' := by
  obtain ⟨i1, hi1, hy0, hy1, hy2⟩ := info_parts Try.info5
  have HU := Lib.hid hu
  have HL := Lib.hid hf
  obtain ⟨ao, cap, rfl, -, -, -⟩ := RdV.cellsAt hu
  simp only [List.length_map] at *
  obtain ⟨-, h1, h2, -⟩ := RdV.plain hu
  obtain ⟨N, hN⟩ : ∃ N, l.length = N := ⟨_, rfl⟩
  have HN := Lib.hid hN
  unfold maxLen at h2
  rw [hN] at h1 HU ⊢
  clear hu _hl hN hf
  by_cases hbig : 4096 < N
  · have HNO := Lib.hid (show putS9 l = ([], 3) by unfold putS9; rw [if_neg (by have := HN.out; omega)])
    go_enter Try.func9, Try.ntmps9
    go_wp2_with fail
    go_ret2
    exact ⟨_, by rw [HNO.out]; rfl, by rw [HNO.out]; exact owns_nil _ _ _ _, Ext.keeps.refl _⟩
  · have HYES := Lib.hid (show putS9 l = (putR l, 0) by unfold putS9; rw [if_pos (by have := HN.out; omega)])
    have HPR := Lib.hid (show putR l = enc (ofR l).length ++ encR (ofR l) from rfl)
    have HOL := Lib.hid (show (ofR l).length ≤ 4096 by have := ofR_len l; have := HN.out; omega)
    have HM := Lib.hid (fun s (h : s ∈ ofR l) => (show (-9223372036854775808 ≤ s.f ∧ s.f ≤ 9223372036854775807) ∧ 1 ≤ s.t ∧ s.t ≤ 4096 from by
      obtain ⟨a, b, c⟩ := ofR_mem h
      exact ⟨HL.out _ a, b, by have := HN.out; omega⟩))
    go_enter Try.func9, Try.ntmps9
    go_wp2_with fail
    refine (pOf9_any _ l w HU.out (by have := HN.out; omega) HL.out).mono ?_
    rintro e w1 ⟨⟨v1, rfl, ho1⟩, hx1⟩
    have HX1 := Lib.hid hx1
    obtain ⟨so, sc, rfl, hs1, hs2, hat, -⟩ := ho1.rd
    have HAT := Lib.hid hat
    generalize ofR l = rs at hs1 HAT HPR HOL HM ⊢
    obtain ⟨K, hK⟩ : ∃ K, rs.length = K := ⟨_, rfl⟩
    rw [hK] at hs1 HPR HOL ⊢
    have HK := Lib.hid hK
    have hol := HOL.out
    have HNUM := Lib.hid (fun W => Num_any (.slice none 0 0) [] K W (Rd.nil W) (by decide) (by have := HOL.out; omega))
    unfold maxLen at hs2
    clear ho1 hx1 hat hK
    go_wp2_with fail
    refine (HNUM.out w1).mono ?_
    rintro e w2 ⟨v2, rfl, ho2, hx2⟩
    rw [List.nil_append] at ho2
    have HO2 := Lib.hid ho2
    have HX2 := Lib.hid (show Ext w1 w2 from hx2)
    clear ho2 hx2
    go_wp2_with fail
    go_loopw [5, 19] (fun v i wr => ∃ k : Nat, k ≤ K ∧ i = .int .i64 k ∧ wr.ownsRow w1.heap.size 5 1 v ((enc K ++ encR (rs.take k)).map bv).length ((enc K ++ encR (rs.take k)).map bv) ∧ Below w1.heap.size w1 wr) (fun _ i _ => K - (intOf i).toNat)
    case atStart => exact ⟨0, Nat.zero_le _, rfl, by rw [show enc K ++ encR (rs.take 0) = enc K from List.append_nil _]; exact HO2.out, HX2.out⟩
    case round =>
      obtain ⟨k, hk, rfl, hown, hx⟩ := hrel
      have HX := Lib.hid hx
      have HO := Lib.hid hown
      by_cases hlt : k < K
      · have hkl : k < rs.length := by have := HK.out; omega
        obtain ⟨g, off, rfl, hx0, hx1⟩ := HAT.out k hkl
        have hc0 := (hx.cell (lt_of_cell hx0)).trans hx0
        have hc1 := (hx.cell (lt_of_cell hx1)).trans hx1
        have HET := Lib.hid (encR_take hkl)
        have HLEN := Lib.hid (show (enc K ++ encR (rs.take k)).length ≤ 80000 by
          have h1 := enc_length K
          have h2 := encR_len (rs.take k)
          rw [List.length_take] at h2
          rw [List.length_append]
          omega)
        obtain ⟨⟨hf0, hf1⟩, ht0, ht1⟩ := HM.out rs[k] (List.getElem_mem hkl)
        generalize rs[k] = c at hc0 hc1 HET hf0 hf1 ht0 ht1
        obtain ⟨cf, ct⟩ := c
        simp only at hc0 hc1 HET hf0 hf1 ht0 ht1
        obtain ⟨T, rfl⟩ := Int.eq_ofNat_of_zero_le (show 0 ≤ ct by omega)
        have HG7 := Lib.hid (heap_alloc_new wr (.cells #[.int .i64 cf, .int .i64 (T : Int)] 45))
        have HE7 := Lib.hid (ext_new wr (.cells #[.int .i64 cf, .int .i64 (T : Int)] 45))
        have hb0 : (wr.alloc (.cells #[.int .i64 cf, .int .i64 (T : Int)] 45)).cell? ⟨wr.heap.size, 0, none⟩ = some (.int .i64 cf) := by unfold World.cell?; rw [HG7.out]; rfl
        have hb1 : (wr.alloc (.cells #[.int .i64 cf, .int .i64 (T : Int)] 45)).cell? ⟨wr.heap.size, 1, none⟩ = some (.int .i64 (T : Int)) := by unfold World.cell?; rw [HG7.out]; rfl
        clear hown hx hx0 hx1 hkl
        have HNE := Lib.hid (show ¬ (fun k => u5.ownBlock = some k) wr.heap.size from fun e => by have := (HO.out.lt _ e).2; omega)
        have HOL := Lib.hid HO.out.lt
        obtain ⟨W7, hW7⟩ : ∃ W7, W7 = wr.alloc (.cells #[.int .i64 cf, .int .i64 (T : Int)] 45) := ⟨_, rfl⟩
        have HO7 := Lib.hid (show W7.drew.ownsRow w1.heap.size 5 1 u5 ((enc K ++ encR (rs.take k)).map bv).length ((enc K ++ encR (rs.take k)).map bv) from by rw [hW7]; exact (HO.out.alloc _).drew)
        have HE7' := Lib.hid (show Ext wr W7 from by rw [hW7]; exact HE7.out)
        go_wp2_with fail
        rw [← hW7] at hb0 hb1 ⊢
        have hz0 : ∀ z : Later (OnlyS fun k => u5.ownBlock = some k) W7.drew, z.val.cell? ⟨wr.heap.size, 0, none⟩ = some (.int .i64 cf) := fun z => z.ext.cell (hb0 : W7.drew.cell? _ = _) HNE.out
        have hz1 : ∀ z : Later (OnlyS fun k => u5.ownBlock = some k) W7.drew, z.val.cell? ⟨wr.heap.size, 1, none⟩ = some (.int .i64 (T : Int)) := fun z => z.ext.cell (hb1 : W7.drew.cell? _ = _) HNE.out
        clear hb0 hb1 hc0 hc1 hW7 HG7 HE7
        refine wp_region_segs (OnlyS fun k => u5.ownBlock = some k) (OnlyS.keeps _) [([0, 1, 2, 4, 5, 6], some 3), ([], some 7), ([], some 8), ([9], none)] (by kernel_rfl) (by kernel_rfl) (fun c a a' w e h => (by exact ⟨e ▸ h.1, h.2⟩)) ?_
        simp only [pickSegs, pickOps, List.map_cons, List.map_nil, Option.map_some, Option.map_none, Option.getD_some, List.getElem?_toArray, List.getElem?_cons_zero, List.getElem?_cons_succ]
        refine wpSegs_some fun K' hK' => ?_
        repeat go_big_quiet_step (fail)
        refine wpQuiet_nil ?_
        clear hz0 hz1
        go_wp2_with fail
        have HXD := Lib.hid (Ext.trans HE7'.out (Ext.drew W7))
        refine (Int_any (.slice none 0 0) [] cf W7.drew (Rd.nil W7.drew) (by decide) hf0 hf1).mono ?_
        rintro e w3 ⟨v3, rfl, ho3, hx3⟩
        rw [List.nil_append] at ho3
        have HR3 := Lib.hid (show Rd w3 v3 (enc (zig cf)) from RdV.of_owns (by simpa using ho3))
        have HO3 := Lib.hid (owns_extS HO7.out hx3)
        have HX3 := Lib.hid (show Ext W7.drew w3 from hx3)
        clear ho3 hx3
        go_wp2_with fail
        refine ⟨OnlyS.of_ext HX3.out, hK' _ _ ?_⟩
        clear hK' K'
        refine wpSegs_some fun K' hK' => ?_
        refine wpQuiet_nil ?_
        go_wp2_with fail
        refine (Num_any v3 (enc (zig cf)) T w3 HR3.out (by have := enc_length (zig cf); omega) (by omega)).mono ?_
        rintro e w4 ⟨v4, rfl, ho4, hx4⟩
        have HR4 := Lib.hid (show Rd w4 v4 (enc (zig cf) ++ enc T) from RdV.of_owns (by simpa using ho4))
        have HO4 := Lib.hid (owns_extS HO3.out hx4)
        have HX4 := Lib.hid (show Ext w3 w4 from hx4)
        clear ho4 hx4
        go_wp2_with fail
        refine ⟨OnlyS.of_ext HX4.out, hK' _ _ ?_⟩
        clear hK' K'
        refine wpSegs_some fun K' hK' => ?_
        refine wpQuiet_nil ?_
        have HEL := Lib.hid (show (enc (zig cf) ++ enc T).length ≤ 18 by rw [List.length_append]; have := enc_length (zig cf); have := enc_length T; omega)
        have HSZ4 := Lib.hid (show w1.heap.size ≤ w4.heap.size by have := HX.out.size; have := HXD.out.size; have := HX3.out.size; have := HX4.out.size; omega)
        have HONE := Lib.hid (bv_oneCell (enc (zig cf) ++ enc T))
        go_wp2_with (at_builtin; go_must (refine wpList_append_rd rfl (.tmp 23) (.tmp 30) 24 rfl w1.heap.size 5 i1 (.int .u8 0) 1 Try.underlying24 hi1 hy0 hy1 hy2 rfl _ _ _ rfl HO4.out _ _ rfl HR4.out HONE.out (by have h1 := HEL.out; have h2 := HLEN.out; rw [List.length_map, List.length_map]; unfold maxLen; omega) (by have h1 := HEL.out; have h2 := HLEN.out; rw [List.length_map, List.length_map]; omega) HSZ4.out ?_); intro v5 w5 hown5 hgrow5; have HO5 := Lib.hid hown5; have HG5 := Lib.hid hgrow5; clear hown5 hgrow5)
        refine ⟨OnlyS.of_grown HG5.out, hK' _ _ ?_⟩
        clear hK' K'
        simp only [Act.put, List.setIfInBounds_toArray, List.set]
        refine wpSegs_none ?_
        repeat go_big_quiet_step (fail)
        refine wpQuiet_nil (wpSegs_nil ?_)
        go_wp2_with fail
        go_roundw
        case rel =>
          refine ⟨k + 1, by omega, by go_num, ?_, ?_⟩
          · have h := HO5.out
            rw [HET.out]
            simp only [Int.toNat_natCast]
            have e : ((enc K ++ encR (rs.take k)) ++ (enc (zig cf) ++ enc T)).map bv = (enc K ++ encR (rs.take k)).map bv ++ (enc (zig cf) ++ enc T).map bv := List.map_append
            rw [← List.append_assoc, e, List.length_append]
            exact h
          · have hs := HX.out.size
            have hsd := HXD.out.size
            have hs3 := HX3.out.size
            exact HX.out.trans ((HXD.out.mono hs).trans ((HX3.out.mono (by omega)).trans ((HX4.out.mono (by omega)).trans ((Below.refl w1.heap.size w4).grown HG5.out HSZ4.out (fun b hb => (HO4.out.lt b hb).1)))))
        case measure => simp [intOf]; omega
      · have HALL := Lib.hid (show rs.take k = rs from List.take_of_length_le (by have := HK.out; omega))
        clear hown hx
        go_wp2_with fail
        go_ret2
        refine ⟨_, by rw [HYES.out]; rfl, ?_, Ext.trans HX1.out HX.out⟩
        rw [HYES.out, HPR.out]
        have h := owns_base HO.out HX1.out.size
        rw [HALL.out, List.length_map] at h
        exact h

end Go.Proofs.Ythjkfkajkbaegaa
