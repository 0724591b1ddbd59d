/-
  The contracts of the document's own spans: Of, List, Both.
-/
import Derived.Test.YthiijhdgbnpihaaSpansNorm
namespace Go.Proofs.Ythiijhdgbnpihaa
open Go.RowKit Go.BigFrame

theorem okPlaces_take {xs : List Int} {j : Nat} (hj : j < xs.length) : okPlaces (xs.take (j + 1)) = (okPlaces (xs.take j) && (decide (0 ≤ xs[j]) && decide (xs[j] < 4096))) := by
  rw [List.take_succ_eq_append_getElem hj]
  unfold okPlaces
  rw [List.all_append]
  simp
theorem okPlaces_bad {xs : List Int} {j : Nat} (hj : j < xs.length) (h : ¬ (0 ≤ xs[j] ∧ xs[j] < 4096)) : okPlaces xs = false := by
  cases hb : okPlaces xs with
  | false => rfl
  | true =>
    exfalso
    unfold okPlaces at hb
    rw [List.all_eq_true] at hb
    have := hb _ (List.getElem_mem hj)
    simp only [Bool.and_eq_true, decide_eq_true_eq] at this
    exact h this

set_option maxRecDepth 100000 in
set_option maxHeartbeats 1000000 in
theorem refOf_any (u : Value) (xs : List Int) (w : World) (hu : RdV w u (xs.map (Value.int .i64))) :
    Calls Try.prog 11 #[u] w fun e w' => AnsSp w (ofS xs) e w' := by
  obtain ⟨w0, hmk, hon, hext⟩ := make_on w
  obtain ⟨ao, cap, rfl, h1, h2, hat⟩ := RdV.cellsAt hu
  rw [List.length_map] at h1 ⊢
  have HAT := Lib.hid hat
  obtain ⟨N, hN⟩ : ∃ N, xs.length = N := ⟨_, rfl⟩
  have HN := Lib.hid hN
  have HON := Lib.hid hon
  have HX0 := Lib.hid hext
  obtain ⟨G, hG⟩ : ∃ G, w.heap.size = G := ⟨_, rfl⟩
  have HG := Lib.hid hG
  unfold maxLen at h2
  rw [hN] at h1 ⊢
  rw [hG] at hmk HON
  clear hat hN hon hext hG hu
  go_enter Try.func11, Try.ntmps11
  go_wp2_with fail
  clear hmk
  go_loopw [5] (fun i wr => ∃ j : Nat, j ≤ N ∧ i = .int .i64 j ∧ okPlaces (xs.take j) = true ∧ OnF wr G (fun k => (xs.take j).contains k) ∧ Below w.heap.size w wr) (fun i _ => N - (intOf i).toNat)
  case atStart => exact ⟨0, Nat.zero_le _, rfl, rfl, HON.out.congr (fun _ _ _ => rfl), HX0.out⟩
  case round =>
    obtain ⟨j, hj, rfl, hok, hon, hx⟩ := hrel
    have HOKP := Lib.hid hok
    have HO := Lib.hid hon
    have HX := Lib.hid hx
    clear hok hon hx
    by_cases hlt : j < N
    · have hjl : j < xs.length := by have := HN.out; omega
      obtain ⟨x, rfl, hcv⟩ := HAT.out j (.int .i64 xs[j]) (by rw [List.getElem?_map, List.getElem?_eq_getElem hjl]; rfl)
      have hcx := (HX.out.cell (lt_of_cell hcv)).trans hcv
      have HTK := Lib.hid (okPlaces_take hjl)
      have HBD := Lib.hid (okPlaces_bad hjl)
      have HST := Lib.hid (List.take_succ_eq_append_getElem hjl)
      generalize xs[j] = p at hcx HTK HBD HST
      clear hcv hjl
      by_cases hp0 : p < 0
      · have HANS := Lib.hid (show ofS xs = ([], 1) by unfold ofS; rw [HBD.out (by omega)]; rfl)
        go_wp2_with fail
        go_ret2
        exact ⟨_, by rw [HANS.out]; rfl, by rw [HANS.out]; exact .inl ⟨rfl, rfl⟩, HX.out⟩
      · by_cases hp1 : 4096 ≤ p
        · have HANS := Lib.hid (show ofS xs = ([], 1) by unfold ofS; rw [HBD.out (by omega)]; rfl)
          go_wp2_with fail
          go_ret2
          exact ⟨_, by rw [HANS.out]; rfl, by rw [HANS.out]; exact .inl ⟨rfl, rfl⟩, HX.out⟩
        · obtain ⟨P, rfl⟩ := Int.eq_ofNat_of_zero_le (show 0 ≤ p by omega)
          have hcg := HO.out.cell P (by omega)
          have hfg := HO.out.free P
          have hP4 : P < 4096 := by omega
          have HBX := Lib.hid (show Below w.heap.size w (wr.setCell ⟨G, P, none⟩ (.bool true)) from HX.out.trans ((OnlyS.of_onlyP (X := fun b => b = G) (OnlyP.set G P wr (.bool true)) rfl).below HX.out.size (fun b hb => by rw [hb, HG.out]; exact Nat.le_refl _)))
          generalize (xs.take j).contains (P : Int) = B0 at hcg
          go_wp2_with fail
          go_roundw
          case rel => exact ⟨j + 1, by omega, by go_num, by rw [HTK.out, HOKP.out, decide_eq_true (show (0 : Int) ≤ (P : Int) by omega), decide_eq_true (show (P : Int) < 4096 by omega)]; rfl, (HO.out.put P true).congr (fun k k0 k1 => by
            rw [HST.out, List.contains_append]
            by_cases e : k = P
            · subst e
              rw [if_pos rfl]
              simp
            · rw [if_neg e]
              simp [e]), HBX.out⟩
          case measure => simp [intOf]; omega
    · have HFULL := Lib.hid (show xs.take j = xs from List.take_of_length_le (by have := HN.out; omega))
      go_wp2_with fail
      refine (refSpans_any G _ wr HO.out).mono ?_
      rintro e w2 ⟨⟨v, rfl, hv⟩, hx2⟩
      have HV := Lib.hid hv
      have HX2 := Lib.hid (Ext.trans HX.out hx2)
      have HSZ := Lib.hid HX.out.size
      clear hv hx2
      have HANS := Lib.hid (show ofS xs = (normS fun k => (xs.take j).contains k, 0) by
        have h := HOKP.out
        unfold ofS
        rw [HFULL.out] at h ⊢
        rw [if_pos h])
      go_wp2_with fail
      go_ret2
      exact ⟨_, by rw [HANS.out]; rfl, by rw [HANS.out]; exact HV.out.base_le HSZ.out, HX2.out⟩

/-! ### List -/

theorem Try.info_int7 : (Try.prog.info? 3).map (fun i => (i.zero, i.size, i.bytes)) = some (some (.int .i64 0), 1, 8) := by kernel_rfl

def placesTo (f : Int → Bool) (k : Nat) : List Int := ((List.range k).map fun n : Nat => (n : Int)).filter f
theorem placesTo_succ (f : Int → Bool) (k : Nat) : placesTo f (k + 1) = if f k = true then placesTo f k ++ [(k : Int)] else placesTo f k := by
  unfold placesTo
  rw [List.range_succ, List.map_append, List.filter_append]
  cases h : f k <;> simp [h]
theorem placesTo_len (f : Int → Bool) (k : Nat) : (placesTo f k).length ≤ k := by
  unfold placesTo
  refine Nat.le_trans (List.length_filter_le _ _) ?_
  simp
theorem listS_eq (l : List Sp) : listS l = placesTo (fun k => rightSp l && inB l k) 4096 := by
  unfold listS
  cases h : rightSp l with
  | false =>
    rw [if_neg (by decide)]
    unfold placesTo
    rw [List.filter_eq_nil_iff.2]
    intro a _
    simp
  | true =>
    rw [if_pos rfl]
    unfold placesTo places
    refine List.filter_congr fun k _ => ?_
    rw [Bool.true_and]

set_option maxRecDepth 100000 in
set_option maxHeartbeats 1000000 in
theorem refList_any (u : Value) (l : List Sp) (w : World) (hu : RdSp w u l) :
    Calls Try.prog 16 #[u] w fun e w' => (∃ v, e = .returned v ∧ w'.ownsRow w.heap.size 3 1 v (listS l).length ((listS l).map (Value.int .i64))) ∧ Ext w w' := by
  have HSET := Lib.hid (refSet_any u l w hu)
  obtain ⟨i0, hi, hz0, hz1, hz2⟩ := info_parts Try.info_int7
  obtain ⟨ao, cap, rfl, h1, h2⟩ := hu.shape
  generalize l.length = N at HSET h1 ⊢
  clear hu
  rw [listS_eq l]
  generalize (fun k => rightSp l && inB l k) = f at HSET ⊢
  go_enter Try.func16, Try.ntmps16
  go_wp2_with fail
  refine HSET.out.mono ?_
  rintro e w1 ⟨G, rfl, hg, hon, hx1⟩
  have HG := Lib.hid hg
  have HON := Lib.hid hon
  have HX1 := Lib.hid hx1
  clear hg hon hx1
  go_wp2_with fail
  go_loopw [4, 5] (fun v i wr => ∃ k : Nat, k ≤ 4096 ∧ i = .int .i64 k ∧ wr.ownsRow w1.heap.size 3 1 v (placesTo f k).length ((placesTo f k).map (Value.int .i64)) ∧ Below w1.heap.size w1 wr) (fun _ i _ => 4096 - (intOf i).toNat)
  case atStart => exact ⟨0, Nat.zero_le _, rfl, ⟨rfl, .inl ⟨rfl, rfl⟩⟩, Ext.keeps.refl _⟩
  case round =>
    obtain ⟨k, hk, rfl, hown, hx⟩ := hrel
    have HOWN := Lib.hid hown
    have HX := Lib.hid hx
    clear hown hx
    by_cases hlt : k < 4096
    · have hc := (HON.out.ext HX.out).cell k hlt
      have HS := Lib.hid (placesTo_succ f k)
      have HLEN := Lib.hid (placesTo_len f k)
      have HSZ := Lib.hid HX.out.size
      cases hf : f k with
      | false =>
        rw [hf] at hc HS
        clear hf
        go_wp2_with fail
        go_roundw
        case rel => exact ⟨k + 1, by omega, by go_num, by rw [HS.out, if_neg (by decide)]; exact HOWN.out, HX.out⟩
        case measure => simp [intOf]; omega
      | true =>
        rw [hf] at hc HS
        clear hf
        go_wp2_with (at_builtin; go_must (refine wpList_append_own _ rfl (.tmp 18) (.tmp 20) 22 rfl w1.heap.size 3 i0 (.int .i64 0) 1 8 Try.underlying22 hi hz0 hz1 hz2 rfl (by decide) _ _ _ rfl (HOWN.out.alloc _) ⟨wr.heap.size, 0, none⟩ 1 1 [_] rfl rfl (row_new _ _ _) (by simp [Value.oneCell']) (by have := HLEN.out; unfold maxLen; omega) (by have := HLEN.out; omega) (by have := HSZ.out; simp; omega) ?_); intro v3 w3 hown3 hgrow3 _; have HO3 := Lib.hid hown3; have HG3 := Lib.hid hgrow3; clear hown3 hgrow3)
        go_roundw
        case rel =>
          refine ⟨k + 1, by omega, by go_num, ?_, HX.out.trans (((Below.refl w1.heap.size wr).alloc HSZ.out _).grown HG3.out (by simp; have := HSZ.out; omega) (fun b hb => (HOWN.out.lt b hb).1))⟩
          rw [HS.out, if_pos rfl, List.map_append, List.length_append]
          exact HO3.out
        case measure => simp [intOf]; omega
    · have HK := Lib.hid (show k = 4096 by omega)
      go_wp2_with fail
      go_ret
      refine ⟨⟨_, rfl, ?_⟩, Ext.trans HX1.out HX.out⟩
      rw [← HK.out]
      exact ⟨HOWN.out.1, by
        rcases HOWN.out.2 with h | ⟨g, cap', cur, h3, h4, h5⟩
        · exact .inl h
        · exact .inr ⟨g, cap', cur, h3, Nat.le_trans HX1.out.size h4, h5⟩⟩

/-! ### Both -/

set_option maxRecDepth 100000 in
set_option maxHeartbeats 2000000 in
theorem refAnd_any (u v : Value) (a b : List Sp) (w : World) (hu : RdSp w u a) (hv : RdSp w v b) :
    Calls Try.prog 24 #[u, v, .int .i64 0] w fun e w' => AnsSp w (andS a b) e w' := by
  have HRA := Lib.hid (fun W (h : Ext w W) => refRightSp_any u a W (hu.mono h))
  have HRB := Lib.hid (fun W (h : Ext w W) => refRightSp_any v b W (hv.mono h))
  have HSA := Lib.hid (fun W (h : Ext w W) => refSet_any u a W (hu.mono h))
  have HSB := Lib.hid (fun W (h : Ext w W) => refSet_any v b W (hv.mono h))
  obtain ⟨ao, ca, rfl, h1, h2⟩ := hu.shape
  obtain ⟨bo, cb, rfl, h3, h4⟩ := hv.shape
  generalize a.length = NA at HRA HSA h1 ⊢
  generalize b.length = NB at HRB HSB h3 ⊢
  clear hu hv
  unfold maxLen at h2 h4
  cases hra : rightSp a with
  | false =>
    have HANS := Lib.hid (show andS a b = ([], 1) by unfold andS bothS; rw [hra]; simp)
    rw [hra] at HRA
    clear hra
    go_enter Try.func24, Try.ntmps24
    go_wp2_with fail
    refine (HRA.out _ (Ext.keeps.refl _)).mono ?_
    rintro e w1 ⟨rfl, hx1⟩
    have HX1 := Lib.hid hx1
    clear hx1
    go_wp2_with fail
    go_ret2
    exact ⟨_, by rw [HANS.out]; rfl, by rw [HANS.out]; exact .inl ⟨rfl, rfl⟩, HX1.out⟩
  | true =>
    rw [hra] at HRA
    cases hrb : rightSp b with
    | false =>
      have HANS := Lib.hid (show andS a b = ([], 1) by unfold andS bothS; rw [hrb]; simp)
      rw [hrb] at HRB
      clear hra hrb
      go_enter Try.func24, Try.ntmps24
      go_wp2_with fail
      refine (HRA.out _ (Ext.keeps.refl _)).mono ?_
      rintro e w1 ⟨rfl, hx1⟩
      have HX1 := Lib.hid hx1
      clear hx1
      go_wp2_with fail
      refine (HRB.out _ HX1.out).mono ?_
      rintro e w2 ⟨rfl, hx2⟩
      have HX2 := Lib.hid (Ext.trans HX1.out hx2)
      clear hx2
      go_wp2_with fail
      go_ret2
      exact ⟨_, by rw [HANS.out]; rfl, by rw [HANS.out]; exact .inl ⟨rfl, rfl⟩, HX2.out⟩
    | true =>
      have HANS := Lib.hid (show andS a b = (normS fun k => ((inB a k) && (inB b k)), 0) by unfold andS bothS; rw [hra, hrb]; rfl)
      rw [hrb] at HRB
      have HRT := Lib.hid (show rightSp a = true ∧ rightSp b = true from ⟨hra, hrb⟩)
      clear hra hrb
      go_enter Try.func24, Try.ntmps24
      go_wp2_with fail
      refine (HRA.out _ (Ext.keeps.refl _)).mono ?_
      rintro e w1 ⟨rfl, hx1⟩
      have HX1 := Lib.hid hx1
      clear hx1
      go_wp2_with fail
      refine (HRB.out _ HX1.out).mono ?_
      rintro e w2 ⟨rfl, hx2⟩
      have HX2 := Lib.hid (Ext.trans HX1.out hx2)
      clear hx2
      go_wp2_with fail
      refine (HSA.out _ HX2.out).mono ?_
      rintro e w3 ⟨GA, rfl, hga, hona, hx3⟩
      rw [HRT.out.1] at hona
      have HA3 := Lib.hid (hona.congr (f' := inB a) (fun _ _ _ => Bool.true_and _))
      have HX3 := Lib.hid (Ext.trans HX2.out hx3)
      clear hga hona hx3
      go_wp2_with fail
      refine (HSB.out _ HX3.out).mono ?_
      rintro e w4 ⟨GB, rfl, hgb, honb, hx4⟩
      rw [HRT.out.2] at honb
      have HB4 := Lib.hid (honb.congr (f' := inB b) (fun _ _ _ => Bool.true_and _))
      have HA4 := Lib.hid (HA3.out.ext hx4)
      have HX4 := Lib.hid (Ext.trans HX3.out hx4)
      clear hgb honb hx4
      obtain ⟨w0, hmk, hon, hext⟩ := make_on w4
      have HON := Lib.hid hon
      have HA0 := Lib.hid (HA4.out.ext hext)
      have HB0 := Lib.hid (HB4.out.ext hext)
      have HX0 := Lib.hid (Ext.trans HX4.out hext)
      have HNE := Lib.hid (show GA ≠ w4.heap.size ∧ GB ≠ w4.heap.size from ⟨by have := HA4.out.lt; omega, by have := HB4.out.lt; omega⟩)
      have HG0 := Lib.hid (show w.heap.size ≤ w4.heap.size from HX4.out.size)
      obtain ⟨G, hG⟩ : ∃ G, w4.heap.size = G := ⟨_, rfl⟩
      rw [hG] at hmk HON HNE HG0
      clear hon hext hG
      generalize inB a = fa at HA0 HANS
      generalize inB b = fb at HB0 HANS
      go_wp2_with fail
      clear hmk
      go_loopw [11] (fun i wr => ∃ k : Nat, k ≤ 4096 ∧ i = .int .i64 k ∧ OnF wr G (fun z => if z < k then ((fa z) && (fb z)) else false) ∧ OnF wr GA fa ∧ OnF wr GB fb ∧ Below w.heap.size w wr) (fun i _ => 4096 - (intOf i).toNat)
      case atStart => exact ⟨0, Nat.zero_le _, rfl, HON.out.congr (fun k k0 _ => by rw [if_neg (by omega)]), HA0.out, HB0.out, HX0.out⟩
      case round =>
        obtain ⟨k, hk, rfl, hon, hoa, hob, hx⟩ := hrel
        have HO := Lib.hid hon
        have HOA := Lib.hid hoa
        have HOB := Lib.hid hob
        have HX := Lib.hid hx
        clear hon hoa hob hx
        by_cases hlt : k < 4096
        · have hcg := HO.out.cell k hlt
          have hfg := HO.out.free k
          have hca := HOA.out.cell k hlt
          have hcb := HOB.out.cell k hlt
          generalize (if (k : Int) < (k : Int) then ((fa (k : Int)) && (fb (k : Int))) else false) = B0 at hcg
          have HP := Lib.hid (fun (bb : Bool) (hbb : ((fa (k : Int)) && (fb (k : Int))) = bb) => (show OnF (wr.setCell ⟨G, k, none⟩ (.bool bb)) G (fun z => if z < ((k + 1 : Nat) : Int) then ((fa z) && (fb z)) else false) ∧ OnF (wr.setCell ⟨G, k, none⟩ (.bool bb)) GA fa ∧ OnF (wr.setCell ⟨G, k, none⟩ (.bool bb)) GB fb ∧ Below w.heap.size w (wr.setCell ⟨G, k, none⟩ (.bool bb)) from by
            have ho := OnlyS.of_onlyP (X := fun b => b = G) (OnlyP.set G k wr (.bool bb)) rfl
            refine ⟨(HO.out.put k bb).congr (fun z z0 z1 => ?_), HOA.out.onlyS ho HNE.out.1, HOB.out.onlyS ho HNE.out.2, HX.out.trans (ho.below HX.out.size (fun b hb => by rw [hb]; exact HG0.out))⟩
            by_cases e : z = k
            · subst e
              rw [if_pos rfl, if_pos (by omega), hbb]
            · rw [if_neg e]
              by_cases hz : z < k
              · rw [if_pos hz, if_pos (by omega)]
              · rw [if_neg hz, if_neg (by omega)]))
          have HQ := Lib.hid (show ∀ x y, fa k = x → fb k = y → ((fa (k : Int)) && (fb (k : Int))) = (x && y) from fun x y h1 h2 => by rw [h1, h2])
          cases hx : fa k with
          | false =>
            rw [hx] at hca
            cases hy : fb k with
            | false =>
              rw [hy] at hcb
              have HR := Lib.hid (HP.out _ (HQ.out _ _ hx hy))
              clear hx hy
              go_wp2_with fail
              go_roundw
              case rel => exact ⟨k + 1, by omega, by go_num, HR.out.1, HR.out.2.1, HR.out.2.2.1, HR.out.2.2.2⟩
              case measure => simp [intOf]; omega
            | true =>
              rw [hy] at hcb
              have HR := Lib.hid (HP.out _ (HQ.out _ _ hx hy))
              clear hx hy
              go_wp2_with fail
              go_roundw
              case rel => exact ⟨k + 1, by omega, by go_num, HR.out.1, HR.out.2.1, HR.out.2.2.1, HR.out.2.2.2⟩
              case measure => simp [intOf]; omega
          | true =>
            rw [hx] at hca
            cases hy : fb k with
            | false =>
              rw [hy] at hcb
              have HR := Lib.hid (HP.out _ (HQ.out _ _ hx hy))
              clear hx hy
              go_wp2_with fail
              go_roundw
              case rel => exact ⟨k + 1, by omega, by go_num, HR.out.1, HR.out.2.1, HR.out.2.2.1, HR.out.2.2.2⟩
              case measure => simp [intOf]; omega
            | true =>
              rw [hy] at hcb
              have HR := Lib.hid (HP.out _ (HQ.out _ _ hx hy))
              clear hx hy
              go_wp2_with fail
              go_roundw
              case rel => exact ⟨k + 1, by omega, by go_num, HR.out.1, HR.out.2.1, HR.out.2.2.1, HR.out.2.2.2⟩
              case measure => simp [intOf]; omega
        · have HF := Lib.hid (HO.out.congr (f' := fun z => ((fa z) && (fb z))) (fun z z0 z1 => by rw [if_pos (by omega)]))
          go_wp2_with fail
          refine (refSpans_any G _ wr HF.out).mono ?_
          rintro e w5 ⟨⟨v, rfl, hv⟩, hx5⟩
          have HV := Lib.hid hv
          have HX5 := Lib.hid (Ext.trans HX.out hx5)
          have HSZ := Lib.hid HX.out.size
          clear hv hx5
          go_wp2_with fail
          go_ret2
          exact ⟨_, by rw [HANS.out]; rfl, by rw [HANS.out]; exact HV.out.base_le HSZ.out, HX5.out⟩

set_option maxRecDepth 100000 in
set_option maxHeartbeats 2000000 in
theorem refOr_any (u v : Value) (a b : List Sp) (w : World) (hu : RdSp w u a) (hv : RdSp w v b) :
    Calls Try.prog 24 #[u, v, .int .i64 1] w fun e w' => AnsSp w (orS a b) e w' := by
  have HRA := Lib.hid (fun W (h : Ext w W) => refRightSp_any u a W (hu.mono h))
  have HRB := Lib.hid (fun W (h : Ext w W) => refRightSp_any v b W (hv.mono h))
  have HSA := Lib.hid (fun W (h : Ext w W) => refSet_any u a W (hu.mono h))
  have HSB := Lib.hid (fun W (h : Ext w W) => refSet_any v b W (hv.mono h))
  obtain ⟨ao, ca, rfl, h1, h2⟩ := hu.shape
  obtain ⟨bo, cb, rfl, h3, h4⟩ := hv.shape
  generalize a.length = NA at HRA HSA h1 ⊢
  generalize b.length = NB at HRB HSB h3 ⊢
  clear hu hv
  unfold maxLen at h2 h4
  cases hra : rightSp a with
  | false =>
    have HANS := Lib.hid (show orS a b = ([], 1) by unfold orS bothS; rw [hra]; simp)
    rw [hra] at HRA
    clear hra
    go_enter Try.func24, Try.ntmps24
    go_wp2_with fail
    refine (HRA.out _ (Ext.keeps.refl _)).mono ?_
    rintro e w1 ⟨rfl, hx1⟩
    have HX1 := Lib.hid hx1
    clear hx1
    go_wp2_with fail
    go_ret2
    exact ⟨_, by rw [HANS.out]; rfl, by rw [HANS.out]; exact .inl ⟨rfl, rfl⟩, HX1.out⟩
  | true =>
    rw [hra] at HRA
    cases hrb : rightSp b with
    | false =>
      have HANS := Lib.hid (show orS a b = ([], 1) by unfold orS bothS; rw [hrb]; simp)
      rw [hrb] at HRB
      clear hra hrb
      go_enter Try.func24, Try.ntmps24
      go_wp2_with fail
      refine (HRA.out _ (Ext.keeps.refl _)).mono ?_
      rintro e w1 ⟨rfl, hx1⟩
      have HX1 := Lib.hid hx1
      clear hx1
      go_wp2_with fail
      refine (HRB.out _ HX1.out).mono ?_
      rintro e w2 ⟨rfl, hx2⟩
      have HX2 := Lib.hid (Ext.trans HX1.out hx2)
      clear hx2
      go_wp2_with fail
      go_ret2
      exact ⟨_, by rw [HANS.out]; rfl, by rw [HANS.out]; exact .inl ⟨rfl, rfl⟩, HX2.out⟩
    | true =>
      have HANS := Lib.hid (show orS a b = (normS fun k => ((inB a k) || (inB b k)), 0) by unfold orS bothS; rw [hra, hrb]; rfl)
      rw [hrb] at HRB
      have HRT := Lib.hid (show rightSp a = true ∧ rightSp b = true from ⟨hra, hrb⟩)
      clear hra hrb
      go_enter Try.func24, Try.ntmps24
      go_wp2_with fail
      refine (HRA.out _ (Ext.keeps.refl _)).mono ?_
      rintro e w1 ⟨rfl, hx1⟩
      have HX1 := Lib.hid hx1
      clear hx1
      go_wp2_with fail
      refine (HRB.out _ HX1.out).mono ?_
      rintro e w2 ⟨rfl, hx2⟩
      have HX2 := Lib.hid (Ext.trans HX1.out hx2)
      clear hx2
      go_wp2_with fail
      refine (HSA.out _ HX2.out).mono ?_
      rintro e w3 ⟨GA, rfl, hga, hona, hx3⟩
      rw [HRT.out.1] at hona
      have HA3 := Lib.hid (hona.congr (f' := inB a) (fun _ _ _ => Bool.true_and _))
      have HX3 := Lib.hid (Ext.trans HX2.out hx3)
      clear hga hona hx3
      go_wp2_with fail
      refine (HSB.out _ HX3.out).mono ?_
      rintro e w4 ⟨GB, rfl, hgb, honb, hx4⟩
      rw [HRT.out.2] at honb
      have HB4 := Lib.hid (honb.congr (f' := inB b) (fun _ _ _ => Bool.true_and _))
      have HA4 := Lib.hid (HA3.out.ext hx4)
      have HX4 := Lib.hid (Ext.trans HX3.out hx4)
      clear hgb honb hx4
      obtain ⟨w0, hmk, hon, hext⟩ := make_on w4
      have HON := Lib.hid hon
      have HA0 := Lib.hid (HA4.out.ext hext)
      have HB0 := Lib.hid (HB4.out.ext hext)
      have HX0 := Lib.hid (Ext.trans HX4.out hext)
      have HNE := Lib.hid (show GA ≠ w4.heap.size ∧ GB ≠ w4.heap.size from ⟨by have := HA4.out.lt; omega, by have := HB4.out.lt; omega⟩)
      have HG0 := Lib.hid (show w.heap.size ≤ w4.heap.size from HX4.out.size)
      obtain ⟨G, hG⟩ : ∃ G, w4.heap.size = G := ⟨_, rfl⟩
      rw [hG] at hmk HON HNE HG0
      clear hon hext hG
      generalize inB a = fa at HA0 HANS
      generalize inB b = fb at HB0 HANS
      go_wp2_with fail
      clear hmk
      go_loopw [11] (fun i wr => ∃ k : Nat, k ≤ 4096 ∧ i = .int .i64 k ∧ OnF wr G (fun z => if z < k then ((fa z) || (fb z)) else false) ∧ OnF wr GA fa ∧ OnF wr GB fb ∧ Below w.heap.size w wr) (fun i _ => 4096 - (intOf i).toNat)
      case atStart => exact ⟨0, Nat.zero_le _, rfl, HON.out.congr (fun k k0 _ => by rw [if_neg (by omega)]), HA0.out, HB0.out, HX0.out⟩
      case round =>
        obtain ⟨k, hk, rfl, hon, hoa, hob, hx⟩ := hrel
        have HO := Lib.hid hon
        have HOA := Lib.hid hoa
        have HOB := Lib.hid hob
        have HX := Lib.hid hx
        clear hon hoa hob hx
        by_cases hlt : k < 4096
        · have hcg := HO.out.cell k hlt
          have hfg := HO.out.free k
          have hca := HOA.out.cell k hlt
          have hcb := HOB.out.cell k hlt
          generalize (if (k : Int) < (k : Int) then ((fa (k : Int)) || (fb (k : Int))) else false) = B0 at hcg
          have HP := Lib.hid (fun (bb : Bool) (hbb : ((fa (k : Int)) || (fb (k : Int))) = bb) => (show OnF (wr.setCell ⟨G, k, none⟩ (.bool bb)) G (fun z => if z < ((k + 1 : Nat) : Int) then ((fa z) || (fb z)) else false) ∧ OnF (wr.setCell ⟨G, k, none⟩ (.bool bb)) GA fa ∧ OnF (wr.setCell ⟨G, k, none⟩ (.bool bb)) GB fb ∧ Below w.heap.size w (wr.setCell ⟨G, k, none⟩ (.bool bb)) from by
            have ho := OnlyS.of_onlyP (X := fun b => b = G) (OnlyP.set G k wr (.bool bb)) rfl
            refine ⟨(HO.out.put k bb).congr (fun z z0 z1 => ?_), HOA.out.onlyS ho HNE.out.1, HOB.out.onlyS ho HNE.out.2, HX.out.trans (ho.below HX.out.size (fun b hb => by rw [hb]; exact HG0.out))⟩
            by_cases e : z = k
            · subst e
              rw [if_pos rfl, if_pos (by omega), hbb]
            · rw [if_neg e]
              by_cases hz : z < k
              · rw [if_pos hz, if_pos (by omega)]
              · rw [if_neg hz, if_neg (by omega)]))
          have HQ := Lib.hid (show ∀ x y, fa k = x → fb k = y → ((fa (k : Int)) || (fb (k : Int))) = (x || y) from fun x y h1 h2 => by rw [h1, h2])
          cases hx : fa k with
          | false =>
            rw [hx] at hca
            cases hy : fb k with
            | false =>
              rw [hy] at hcb
              have HR := Lib.hid (HP.out _ (HQ.out _ _ hx hy))
              clear hx hy
              go_wp2_with fail
              go_roundw
              case rel => exact ⟨k + 1, by omega, by go_num, HR.out.1, HR.out.2.1, HR.out.2.2.1, HR.out.2.2.2⟩
              case measure => simp [intOf]; omega
            | true =>
              rw [hy] at hcb
              have HR := Lib.hid (HP.out _ (HQ.out _ _ hx hy))
              clear hx hy
              go_wp2_with fail
              go_roundw
              case rel => exact ⟨k + 1, by omega, by go_num, HR.out.1, HR.out.2.1, HR.out.2.2.1, HR.out.2.2.2⟩
              case measure => simp [intOf]; omega
          | true =>
            rw [hx] at hca
            cases hy : fb k with
            | false =>
              rw [hy] at hcb
              have HR := Lib.hid (HP.out _ (HQ.out _ _ hx hy))
              clear hx hy
              go_wp2_with fail
              go_roundw
              case rel => exact ⟨k + 1, by omega, by go_num, HR.out.1, HR.out.2.1, HR.out.2.2.1, HR.out.2.2.2⟩
              case measure => simp [intOf]; omega
            | true =>
              rw [hy] at hcb
              have HR := Lib.hid (HP.out _ (HQ.out _ _ hx hy))
              clear hx hy
              go_wp2_with fail
              go_roundw
              case rel => exact ⟨k + 1, by omega, by go_num, HR.out.1, HR.out.2.1, HR.out.2.2.1, HR.out.2.2.2⟩
              case measure => simp [intOf]; omega
        · have HF := Lib.hid (HO.out.congr (f' := fun z => ((fa z) || (fb z))) (fun z z0 z1 => by rw [if_pos (by omega)]))
          go_wp2_with fail
          refine (refSpans_any G _ wr HF.out).mono ?_
          rintro e w5 ⟨⟨v, rfl, hv⟩, hx5⟩
          have HV := Lib.hid hv
          have HX5 := Lib.hid (Ext.trans HX.out hx5)
          have HSZ := Lib.hid HX.out.size
          clear hv hx5
          go_wp2_with fail
          go_ret2
          exact ⟨_, by rw [HANS.out]; rfl, by rw [HANS.out]; exact HV.out.base_le HSZ.out, HX5.out⟩

set_option maxRecDepth 100000 in
set_option maxHeartbeats 2000000 in
theorem refMinus_any (u v : Value) (a b : List Sp) (w : World) (hu : RdSp w u a) (hv : RdSp w v b) :
    Calls Try.prog 24 #[u, v, .int .i64 2] w fun e w' => AnsSp w (minusS a b) e w' := by
  have HRA := Lib.hid (fun W (h : Ext w W) => refRightSp_any u a W (hu.mono h))
  have HRB := Lib.hid (fun W (h : Ext w W) => refRightSp_any v b W (hv.mono h))
  have HSA := Lib.hid (fun W (h : Ext w W) => refSet_any u a W (hu.mono h))
  have HSB := Lib.hid (fun W (h : Ext w W) => refSet_any v b W (hv.mono h))
  obtain ⟨ao, ca, rfl, h1, h2⟩ := hu.shape
  obtain ⟨bo, cb, rfl, h3, h4⟩ := hv.shape
  generalize a.length = NA at HRA HSA h1 ⊢
  generalize b.length = NB at HRB HSB h3 ⊢
  clear hu hv
  unfold maxLen at h2 h4
  cases hra : rightSp a with
  | false =>
    have HANS := Lib.hid (show minusS a b = ([], 1) by unfold minusS bothS; rw [hra]; simp)
    rw [hra] at HRA
    clear hra
    go_enter Try.func24, Try.ntmps24
    go_wp2_with fail
    refine (HRA.out _ (Ext.keeps.refl _)).mono ?_
    rintro e w1 ⟨rfl, hx1⟩
    have HX1 := Lib.hid hx1
    clear hx1
    go_wp2_with fail
    go_ret2
    exact ⟨_, by rw [HANS.out]; rfl, by rw [HANS.out]; exact .inl ⟨rfl, rfl⟩, HX1.out⟩
  | true =>
    rw [hra] at HRA
    cases hrb : rightSp b with
    | false =>
      have HANS := Lib.hid (show minusS a b = ([], 1) by unfold minusS bothS; rw [hrb]; simp)
      rw [hrb] at HRB
      clear hra hrb
      go_enter Try.func24, Try.ntmps24
      go_wp2_with fail
      refine (HRA.out _ (Ext.keeps.refl _)).mono ?_
      rintro e w1 ⟨rfl, hx1⟩
      have HX1 := Lib.hid hx1
      clear hx1
      go_wp2_with fail
      refine (HRB.out _ HX1.out).mono ?_
      rintro e w2 ⟨rfl, hx2⟩
      have HX2 := Lib.hid (Ext.trans HX1.out hx2)
      clear hx2
      go_wp2_with fail
      go_ret2
      exact ⟨_, by rw [HANS.out]; rfl, by rw [HANS.out]; exact .inl ⟨rfl, rfl⟩, HX2.out⟩
    | true =>
      have HANS := Lib.hid (show minusS a b = (normS fun k => ((inB a k) && !(inB b k)), 0) by unfold minusS bothS; rw [hra, hrb]; rfl)
      rw [hrb] at HRB
      have HRT := Lib.hid (show rightSp a = true ∧ rightSp b = true from ⟨hra, hrb⟩)
      clear hra hrb
      go_enter Try.func24, Try.ntmps24
      go_wp2_with fail
      refine (HRA.out _ (Ext.keeps.refl _)).mono ?_
      rintro e w1 ⟨rfl, hx1⟩
      have HX1 := Lib.hid hx1
      clear hx1
      go_wp2_with fail
      refine (HRB.out _ HX1.out).mono ?_
      rintro e w2 ⟨rfl, hx2⟩
      have HX2 := Lib.hid (Ext.trans HX1.out hx2)
      clear hx2
      go_wp2_with fail
      refine (HSA.out _ HX2.out).mono ?_
      rintro e w3 ⟨GA, rfl, hga, hona, hx3⟩
      rw [HRT.out.1] at hona
      have HA3 := Lib.hid (hona.congr (f' := inB a) (fun _ _ _ => Bool.true_and _))
      have HX3 := Lib.hid (Ext.trans HX2.out hx3)
      clear hga hona hx3
      go_wp2_with fail
      refine (HSB.out _ HX3.out).mono ?_
      rintro e w4 ⟨GB, rfl, hgb, honb, hx4⟩
      rw [HRT.out.2] at honb
      have HB4 := Lib.hid (honb.congr (f' := inB b) (fun _ _ _ => Bool.true_and _))
      have HA4 := Lib.hid (HA3.out.ext hx4)
      have HX4 := Lib.hid (Ext.trans HX3.out hx4)
      clear hgb honb hx4
      obtain ⟨w0, hmk, hon, hext⟩ := make_on w4
      have HON := Lib.hid hon
      have HA0 := Lib.hid (HA4.out.ext hext)
      have HB0 := Lib.hid (HB4.out.ext hext)
      have HX0 := Lib.hid (Ext.trans HX4.out hext)
      have HNE := Lib.hid (show GA ≠ w4.heap.size ∧ GB ≠ w4.heap.size from ⟨by have := HA4.out.lt; omega, by have := HB4.out.lt; omega⟩)
      have HG0 := Lib.hid (show w.heap.size ≤ w4.heap.size from HX4.out.size)
      obtain ⟨G, hG⟩ : ∃ G, w4.heap.size = G := ⟨_, rfl⟩
      rw [hG] at hmk HON HNE HG0
      clear hon hext hG
      generalize inB a = fa at HA0 HANS
      generalize inB b = fb at HB0 HANS
      go_wp2_with fail
      clear hmk
      go_loopw [11] (fun i wr => ∃ k : Nat, k ≤ 4096 ∧ i = .int .i64 k ∧ OnF wr G (fun z => if z < k then ((fa z) && !(fb z)) else false) ∧ OnF wr GA fa ∧ OnF wr GB fb ∧ Below w.heap.size w wr) (fun i _ => 4096 - (intOf i).toNat)
      case atStart => exact ⟨0, Nat.zero_le _, rfl, HON.out.congr (fun k k0 _ => by rw [if_neg (by omega)]), HA0.out, HB0.out, HX0.out⟩
      case round =>
        obtain ⟨k, hk, rfl, hon, hoa, hob, hx⟩ := hrel
        have HO := Lib.hid hon
        have HOA := Lib.hid hoa
        have HOB := Lib.hid hob
        have HX := Lib.hid hx
        clear hon hoa hob hx
        by_cases hlt : k < 4096
        · have hcg := HO.out.cell k hlt
          have hfg := HO.out.free k
          have hca := HOA.out.cell k hlt
          have hcb := HOB.out.cell k hlt
          generalize (if (k : Int) < (k : Int) then ((fa (k : Int)) && !(fb (k : Int))) else false) = B0 at hcg
          have HP := Lib.hid (fun (bb : Bool) (hbb : ((fa (k : Int)) && !(fb (k : Int))) = bb) => (show OnF (wr.setCell ⟨G, k, none⟩ (.bool bb)) G (fun z => if z < ((k + 1 : Nat) : Int) then ((fa z) && !(fb z)) else false) ∧ OnF (wr.setCell ⟨G, k, none⟩ (.bool bb)) GA fa ∧ OnF (wr.setCell ⟨G, k, none⟩ (.bool bb)) GB fb ∧ Below w.heap.size w (wr.setCell ⟨G, k, none⟩ (.bool bb)) from by
            have ho := OnlyS.of_onlyP (X := fun b => b = G) (OnlyP.set G k wr (.bool bb)) rfl
            refine ⟨(HO.out.put k bb).congr (fun z z0 z1 => ?_), HOA.out.onlyS ho HNE.out.1, HOB.out.onlyS ho HNE.out.2, HX.out.trans (ho.below HX.out.size (fun b hb => by rw [hb]; exact HG0.out))⟩
            by_cases e : z = k
            · subst e
              rw [if_pos rfl, if_pos (by omega), hbb]
            · rw [if_neg e]
              by_cases hz : z < k
              · rw [if_pos hz, if_pos (by omega)]
              · rw [if_neg hz, if_neg (by omega)]))
          have HQ := Lib.hid (show ∀ x y, fa k = x → fb k = y → ((fa (k : Int)) && !(fb (k : Int))) = (x && !y) from fun x y h1 h2 => by rw [h1, h2])
          cases hx : fa k with
          | false =>
            rw [hx] at hca
            cases hy : fb k with
            | false =>
              rw [hy] at hcb
              have HR := Lib.hid (HP.out _ (HQ.out _ _ hx hy))
              clear hx hy
              go_wp2_with fail
              go_roundw
              case rel => exact ⟨k + 1, by omega, by go_num, HR.out.1, HR.out.2.1, HR.out.2.2.1, HR.out.2.2.2⟩
              case measure => simp [intOf]; omega
            | true =>
              rw [hy] at hcb
              have HR := Lib.hid (HP.out _ (HQ.out _ _ hx hy))
              clear hx hy
              go_wp2_with fail
              go_roundw
              case rel => exact ⟨k + 1, by omega, by go_num, HR.out.1, HR.out.2.1, HR.out.2.2.1, HR.out.2.2.2⟩
              case measure => simp [intOf]; omega
          | true =>
            rw [hx] at hca
            cases hy : fb k with
            | false =>
              rw [hy] at hcb
              have HR := Lib.hid (HP.out _ (HQ.out _ _ hx hy))
              clear hx hy
              go_wp2_with fail
              go_roundw
              case rel => exact ⟨k + 1, by omega, by go_num, HR.out.1, HR.out.2.1, HR.out.2.2.1, HR.out.2.2.2⟩
              case measure => simp [intOf]; omega
            | true =>
              rw [hy] at hcb
              have HR := Lib.hid (HP.out _ (HQ.out _ _ hx hy))
              clear hx hy
              go_wp2_with fail
              go_roundw
              case rel => exact ⟨k + 1, by omega, by go_num, HR.out.1, HR.out.2.1, HR.out.2.2.1, HR.out.2.2.2⟩
              case measure => simp [intOf]; omega
        · have HF := Lib.hid (HO.out.congr (f' := fun z => ((fa z) && !(fb z))) (fun z z0 z1 => by rw [if_pos (by omega)]))
          go_wp2_with fail
          refine (refSpans_any G _ wr HF.out).mono ?_
          rintro e w5 ⟨⟨v, rfl, hv⟩, hx5⟩
          have HV := Lib.hid hv
          have HX5 := Lib.hid (Ext.trans HX.out hx5)
          have HSZ := Lib.hid HX.out.size
          clear hv hx5
          go_wp2_with fail
          go_ret2
          exact ⟨_, by rw [HANS.out]; rfl, by rw [HANS.out]; exact HV.out.base_le HSZ.out, HX5.out⟩

end Go.Proofs.Ythiijhdgbnpihaa
