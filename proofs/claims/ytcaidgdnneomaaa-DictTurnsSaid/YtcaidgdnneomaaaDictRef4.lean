/-
  The contracts of the document's own words: From, Behind, Turn.
-/
import Derived.Test.YtcaidgdnneomaaaDictRef3
namespace Go.Proofs.Ytcaidgdnneomaaa
open Go.RowKit Go.BigFrame

theorem lessN_succ {ws : List T8} {s : T8} {j : Nat} (hj : j < ws.length) : lessN (ws.take (j + 1)) s = lessN (ws.take j) s + (if ws[j] < s then 1 else 0) := by
  unfold lessN
  rw [List.take_succ_eq_append_getElem hj, List.filter_append, List.length_append]
  congr 1
  by_cases h : ws[j] < s
  · rw [if_pos h, List.filter_cons_of_pos (by simpa using h)]
    rfl
  · rw [if_neg h, List.filter_cons_of_neg (by simpa using h)]
    rfl
theorem behindN_succ {ws : List T8} {s : T8} {j : Nat} (hj : j < ws.length) : behindN (ws.take (j + 1)) s = behindN (ws.take j) s + (if ws[j] < s ∨ s.isPrefixOf ws[j] = true then 1 else 0) := by
  unfold behindN
  rw [List.take_succ_eq_append_getElem hj, List.filter_append, List.length_append]
  congr 1
  by_cases h : ws[j] < s ∨ s.isPrefixOf ws[j] = true
  · rw [if_pos h, List.filter_cons_of_pos (by simpa using h)]
    rfl
  · rw [if_neg h, List.filter_cons_of_neg (by simpa using h)]
    rfl
theorem lessN_le (ws : List T8) (s : T8) : lessN ws s ≤ ws.length := List.length_filter_le _ _
theorem behindN_le (ws : List T8) (s : T8) : behindN ws s ≤ ws.length := List.length_filter_le _ _

set_option maxRecDepth 100000 in
set_option maxHeartbeats 1000000 in
theorem refFrom_any (u : Value) (ws : List T8) (s : T8) (w : World) (hu : RdV w u (ws.map tv)) :
    Calls Try.prog 21 #[u, .string ⟨s.toArray⟩] w fun e w' => e = .returned (.int .i64 (fromS ws s)) ∧ Ext w w' := by
  have HR := Lib.hid (fun W (h : Ext w W) => refRightW_any u ws W (hu.mono h))
  have HF := Lib.hid (show fromS ws s = if rightW ws = true then (lessN ws s : Int) else 0 from rfl)
  obtain ⟨ao, cap, rfl, h1, h2, hat⟩ := rd_words hu
  have HAT := Lib.hid hat
  obtain ⟨N, hN⟩ : ∃ N, ws.length = N := ⟨_, rfl⟩
  have HN := Lib.hid hN
  unfold maxLen at h2
  rw [hN] at h1 HR ⊢
  clear hat hN hu
  cases hr : rightW ws with
  | false =>
    rw [hr] at HR HF
    rw [HF.out, if_neg (by decide)]
    clear hr
    go_enter Try.func21, Try.ntmps21
    go_wp2_with fail
    go_loopw [5, 6] (fun n i wr => n = .int .i64 0 ∧ i = .int .i64 0 ∧ Ext w wr) (fun _ _ _ => 0)
    case atStart => exact ⟨rfl, rfl, Ext.keeps.refl _⟩
    case round =>
      obtain ⟨rfl, rfl, hx⟩ := hrel
      have HX := Lib.hid hx
      clear hx
      by_cases hlt : 0 < N
      · go_wp2_with fail
        refine (HR.out _ HX.out).mono ?_
        rintro e w1 ⟨rfl, hx1⟩
        have HX1 := Lib.hid hx1
        clear hx1
        go_wp2_with fail
        go_ret
        exact ⟨rfl, Ext.trans HX.out HX1.out⟩
      · go_wp2_with fail
        go_ret
        exact ⟨rfl, HX.out⟩
  | true =>
    rw [hr] at HR HF
    rw [HF.out, if_pos rfl]
    clear hr
    go_enter Try.func21, Try.ntmps21
    go_wp2_with fail
    go_loopw [5, 6] (fun n i wr => ∃ j : Nat, j ≤ N ∧ i = .int .i64 j ∧ n = .int .i64 (lessN (ws.take j) s) ∧ Ext w wr) (fun _ i _ => N - (intOf i).toNat)
    case atStart => exact ⟨0, Nat.zero_le _, rfl, rfl, Ext.keeps.refl _⟩
    case round =>
      obtain ⟨j, hj, rfl, rfl, hx⟩ := hrel
      have HX := Lib.hid hx
      clear hx
      by_cases hlt : j < N
      · have hjl : j < ws.length := by have := HN.out; omega
        obtain ⟨g, off, rfl, hcx⟩ := HAT.out j hjl
        have HC := Lib.hid (fun W (h : Ext w W) => (h.cell (lt_of_cell hcx)).trans hcx)
        have HS := Lib.hid (lessN_succ (s := s) hjl)
        have HLE := Lib.hid (show lessN (ws.take j) s ≤ j by have := lessN_le (ws.take j) s; rw [List.length_take] at this; omega)
        generalize ws[j] = c at HC HS
        generalize lessN (ws.take j) s = n at HS HLE ⊢
        have hle := HLE.out
        clear hcx hjl
        go_wp2_with fail
        refine (HR.out _ HX.out).mono ?_
        rintro e w1 ⟨rfl, hx1⟩
        have HX1 := Lib.hid (Ext.trans HX.out hx1)
        have hc := HC.out w1 HX1.out
        clear hx1
        by_cases hcs : c < s
        · have d1 : Op.bytesLess c s = true := (tless_iff c s).2 hcs
          rw [if_pos hcs] at HS
          clear hcs
          go_wp2_with fail
          go_roundw
          case rel => exact ⟨j + 1, by omega, by go_num, by rw [HS.out]; go_num, HX1.out⟩
          case measure => simp [intOf]; omega
        · have d1 : Op.bytesLess c s = false := by rw [tless_dec]; exact decide_eq_false hcs
          rw [if_neg hcs] at HS
          clear hcs
          go_wp2_with fail
          go_roundw
          case rel => exact ⟨j + 1, by omega, by go_num, by rw [HS.out]; rfl, HX1.out⟩
          case measure => simp [intOf]; omega
      · have HALL := Lib.hid (show lessN ws s = lessN (ws.take j) s by rw [List.take_of_length_le (by have := HN.out; omega)])
        go_wp2_with fail
        go_ret
        exact ⟨by rw [HALL.out]; rfl, HX.out⟩

set_option maxRecDepth 100000 in
set_option maxHeartbeats 1000000 in
theorem refBehind_any (u : Value) (ws : List T8) (s : T8) (w : World) (hu : RdV w u (ws.map tv)) (hft : ∀ t ∈ ws, t.length ≤ 4611686018427387904) (hfs : s.length ≤ 4611686018427387904) :
    Calls Try.prog 23 #[u, .string ⟨s.toArray⟩] w fun e w' => e = .returned (.int .i64 (behindS ws s)) ∧ Ext w w' := by
  have HR := Lib.hid (fun W (h : Ext w W) => refRightW_any u ws W (hu.mono h))
  have HFT := Lib.hid (And.intro hft hfs)
  clear hft hfs
  have HF := Lib.hid (show behindS ws s = if rightW ws = true then (behindN ws s : Int) else 0 from rfl)
  obtain ⟨ao, cap, rfl, h1, h2, hat⟩ := rd_words hu
  have HAT := Lib.hid hat
  obtain ⟨N, hN⟩ : ∃ N, ws.length = N := ⟨_, rfl⟩
  have HN := Lib.hid hN
  unfold maxLen at h2
  rw [hN] at h1 HR ⊢
  clear hat hN hu
  cases hr : rightW ws with
  | false =>
    rw [hr] at HR HF
    rw [HF.out, if_neg (by decide)]
    clear hr
    go_enter Try.func23, Try.ntmps23
    go_wp2_with fail
    go_loopw [5, 6] (fun n i wr => n = .int .i64 0 ∧ i = .int .i64 0 ∧ Ext w wr) (fun _ _ _ => 0)
    case atStart => exact ⟨rfl, rfl, Ext.keeps.refl _⟩
    case round =>
      obtain ⟨rfl, rfl, hx⟩ := hrel
      have HX := Lib.hid hx
      clear hx
      by_cases hlt : 0 < N
      · go_wp2_with fail
        refine (HR.out _ HX.out).mono ?_
        rintro e w1 ⟨rfl, hx1⟩
        have HX1 := Lib.hid hx1
        clear hx1
        go_wp2_with fail
        go_ret
        exact ⟨rfl, Ext.trans HX.out HX1.out⟩
      · go_wp2_with fail
        go_ret
        exact ⟨rfl, HX.out⟩
  | true =>
    rw [hr] at HR HF
    rw [HF.out, if_pos rfl]
    clear hr
    go_enter Try.func23, Try.ntmps23
    go_wp2_with fail
    go_loopw [5, 6] (fun n i wr => ∃ j : Nat, j ≤ N ∧ i = .int .i64 j ∧ n = .int .i64 (behindN (ws.take j) s) ∧ Ext w wr) (fun _ i _ => N - (intOf i).toNat)
    case atStart => exact ⟨0, Nat.zero_le _, rfl, rfl, Ext.keeps.refl _⟩
    case round =>
      obtain ⟨j, hj, rfl, rfl, hx⟩ := hrel
      have HX := Lib.hid hx
      clear hx
      by_cases hlt : j < N
      · have hjl : j < ws.length := by have := HN.out; omega
        obtain ⟨g, off, rfl, hcx⟩ := HAT.out j hjl
        have HC := Lib.hid (fun W (h : Ext w W) => (h.cell (lt_of_cell hcx)).trans hcx)
        have HS := Lib.hid (behindN_succ (s := s) hjl)
        have HLE := Lib.hid (show behindN (ws.take j) s ≤ j by have := behindN_le (ws.take j) s; rw [List.length_take] at this; omega)
        have HCM := Lib.hid (List.getElem_mem hjl)
        generalize ws[j] = c at HC HS HCM
        generalize behindN (ws.take j) s = n at HS HLE ⊢
        have hle := HLE.out
        clear hcx hjl
        go_wp2_with fail
        refine (HR.out _ HX.out).mono ?_
        rintro e w1 ⟨rfl, hx1⟩
        have HX1 := Lib.hid (Ext.trans HX.out hx1)
        have hc := HC.out w1 HX1.out
        clear hx1
        have HBG := Lib.hid (fun (hl : c.length ≤ 4611686018427387904) (hl2 : s.length ≤ 4611686018427387904) => refBegins_any c s w1 hl hl2)
        by_cases hcs : c < s
        · have d1 : Op.bytesLess c s = true := (tless_iff c s).2 hcs
          rw [if_pos (.inl hcs)] at HS
          clear hcs
          go_wp2_with fail
          go_roundw
          case rel => exact ⟨j + 1, by omega, by go_num, by rw [HS.out]; go_num, HX1.out⟩
          case measure => simp [intOf]; omega
        · have d1 : Op.bytesLess c s = false := by rw [tless_dec]; exact decide_eq_false hcs
          by_cases hpf : s.isPrefixOf c = true
          · rw [if_pos (.inr hpf)] at HS
            rw [hpf] at HBG
            clear hcs hpf
            go_wp2_with fail
            refine (HBG.out (HFT.out.1 c HCM.out) HFT.out.2).mono ?_
            rintro e w2 ⟨rfl, rfl⟩
            go_wp2_with fail
            go_roundw
            case rel => exact ⟨j + 1, by omega, by go_num, by rw [HS.out]; go_num, HX1.out⟩
            case measure => simp [intOf]; omega
          · rw [if_neg (fun h => h.elim hcs hpf)] at HS
            rw [Bool.not_eq_true] at hpf
            rw [hpf] at HBG
            clear hcs hpf
            go_wp2_with fail
            refine (HBG.out (HFT.out.1 c HCM.out) HFT.out.2).mono ?_
            rintro e w2 ⟨rfl, rfl⟩
            go_wp2_with fail
            go_roundw
            case rel => exact ⟨j + 1, by omega, by go_num, by rw [HS.out]; rfl, HX1.out⟩
            case measure => simp [intOf]; omega
      · have HALL := Lib.hid (show behindN ws s = behindN (ws.take j) s by rw [List.take_of_length_le (by have := HN.out; omega)])
        go_wp2_with fail
        go_ret
        exact ⟨by rw [HALL.out]; rfl, HX.out⟩

theorem placeS_fits (ws : List T8) (s : T8) (h : ws.length ≤ 1000000000) : -1 ≤ placeS ws s ∧ placeS ws s ≤ 1000000000 := by
  unfold placeS
  split
  · rename_i hm
    have := placeN_lt hm
    omega
  · omega

set_option maxRecDepth 100000 in
set_option maxHeartbeats 1000000 in
theorem refTurn_any (u v : Value) (a b : List T8) (w : World) (hu : RdV w u (a.map tv)) (hv : RdV w v (b.map tv)) :
    Calls Try.prog 29 #[u, v] w fun e w' => AnsI w (turnS a b) e w' := by
  obtain ⟨i2, hi2, hx0, hx1, hx2⟩ := info_parts Try.info_int8
  have HR1 := Lib.hid (refRightW_any u a w hu)
  have HR2 := Lib.hid (fun W (h : Ext w W) => refRightW_any v b W (hv.mono h))
  have HPL := Lib.hid (fun s W (h : Ext w W) => refPlace_any v b s W (hv.mono h))
  obtain ⟨ao, cap, rfl, h1, h2, hat⟩ := rd_words hu
  obtain ⟨bo, bcap, rfl, -, -, -⟩ := rd_words hv
  have HAT := Lib.hid hat
  obtain ⟨N, hN⟩ : ∃ N, a.length = N := ⟨_, rfl⟩
  have HN := Lib.hid hN
  unfold maxLen at h2
  rw [hN] at h1 HR1 ⊢
  generalize b.length = M at HR2 HPL ⊢
  clear hat hN hu hv
  cases hra : rightW a with
  | false =>
    rw [hra] at HR1
    have HNO := Lib.hid (show turnS a b = ([], 1) from if_neg (fun h => by rw [hra] at h; cases h.1))
    rw [HNO.out]
    clear hra
    go_enter Try.func29, Try.ntmps29
    go_wp2_with fail
    refine HR1.out.mono ?_
    rintro e w1 ⟨rfl, hx⟩
    have HX := Lib.hid hx
    clear hx
    go_wp2_with fail
    go_ret2
    exact ⟨_, rfl, owns_nil _ _ _ _, HX.out⟩
  | true =>
    rw [hra] at HR1
    cases hrb : rightW b with
    | false =>
      rw [hrb] at HR2
      have HNO := Lib.hid (show turnS a b = ([], 1) from if_neg (fun h => by rw [hrb] at h; cases h.2))
      rw [HNO.out]
      clear hra hrb
      go_enter Try.func29, Try.ntmps29
      go_wp2_with fail
      refine HR1.out.mono ?_
      rintro e w1 ⟨rfl, hx⟩
      have HX := Lib.hid hx
      clear hx
      go_wp2_with fail
      refine (HR2.out _ HX.out).mono ?_
      rintro e w2 ⟨rfl, hx⟩
      have HX2 := Lib.hid (Ext.trans HX.out hx)
      clear hx
      go_wp2_with fail
      go_ret2
      exact ⟨_, rfl, owns_nil _ _ _ _, HX2.out⟩
    | true =>
      rw [hrb] at HR2
      have HYES := Lib.hid (show turnS a b = (a.map (placeS b), 0) from if_pos ⟨hra, hrb⟩)
      have HNS := Lib.hid (show N ≤ 200 by have := (rightW_iff.1 hra).1; have := HN.out; omega)
      rw [HYES.out]
      clear hra hrb
      go_enter Try.func29, Try.ntmps29
      go_wp2_with fail
      refine HR1.out.mono ?_
      rintro e w1 ⟨rfl, hx⟩
      have HX := Lib.hid hx
      clear hx
      go_wp2_with fail
      refine (HR2.out _ HX.out).mono ?_
      rintro e w2 ⟨rfl, hx⟩
      have HX2 := Lib.hid (Ext.trans HX.out hx)
      clear hx
      go_wp2_with fail
      go_loopw [6, 7] (fun r i wr => ∃ j : Nat, j ≤ N ∧ i = .int .i64 j ∧ wr.ownsRow w.heap.size 3 1 r ((a.take j).map (placeS b)).length (((a.take j).map (placeS b)).map (Value.int .i64)) ∧ Below w.heap.size w wr) (fun _ i _ => N - (intOf i).toNat)
      case atStart => exact ⟨0, Nat.zero_le _, rfl, owns_nil _ _ _ _, HX2.out⟩
      case round =>
        obtain ⟨j, hj, rfl, hown, hx⟩ := hrel
        have HO := Lib.hid hown
        have HX3 := Lib.hid hx
        clear hown hx
        by_cases hlt : j < N
        · have hjl : j < a.length := by have := HN.out; omega
          obtain ⟨g, off, rfl, hcx⟩ := HAT.out j hjl
          have hc := (HX3.out.cell (lt_of_cell hcx)).trans hcx
          have HS := Lib.hid (List.take_succ_eq_append_getElem hjl)
          have HLEN := Lib.hid (show ((a.take j).map (placeS b)).length ≤ 200 by rw [List.length_map, List.length_take]; have := HNS.out; omega)
          have HSZ := Lib.hid HX3.out.size
          generalize a[j] = c at hc HS
          have HP := Lib.hid (HPL.out c wr HX3.out)
          generalize hp : placeS b c = p at HP
          have HPC := Lib.hid hp
          clear hcx hjl hp
          go_wp2_with fail
          refine HP.out.mono ?_
          rintro e w3 ⟨rfl, rfl⟩
          go_wp2_with (at_builtin; go_must (refine wpList_append_own _ rfl (.tmp 22) (.tmp 29) 23 rfl w.heap.size 3 i2 (.int .i64 0) 1 8 Try.underlying23 hi2 hx0 hx1 hx2 rfl (by decide) _ _ _ rfl (HO.out.alloc _) ⟨wr.heap.size, 0, none⟩ 1 1 [_] rfl rfl (row_new _ _ _) (by simp [Value.oneCell']) (by have := HLEN.out; unfold maxLen; omega) (by have := HLEN.out; omega) (by have := HSZ.out; simp; omega) ?_); intro v4 w4 hown4 hgrow4 _; have HO4 := Lib.hid hown4; have HB4 := Lib.hid (((Below.refl w.heap.size wr).alloc HSZ.out _).grown hgrow4 (by simp; have := HSZ.out; omega) (fun b hb => (HO.out.lt b hb).1)); clear hown4 hgrow4)
          go_roundw
          case rel =>
            refine ⟨j + 1, by omega, by go_num, ?_, (show Below w.heap.size w wr from HX3.out).trans HB4.out⟩
            rw [HS.out, List.map_append, List.map_append, List.length_append]
            have h := HO4.out
            rw [← HPC.out] at h
            exact h
          case measure => simp [intOf]; omega
        · have HALL := Lib.hid (show a.take j = a from List.take_of_length_le (by have := HN.out; omega))
          go_wp2_with fail
          go_ret2
          have h := HO.out
          rw [HALL.out] at h
          exact ⟨_, rfl, h, HX3.out⟩

end Go.Proofs.Ytcaidgdnneomaaa
