/-
  The program's contract of layer 5: Get.
-/
import Derived.Test.YthelgjoobckbaaaPagesPutsB
namespace Go.Proofs.Ythelgjoobckbaaa
open Go.RowKit Go.BigFrame

variable {O : Nat → Prop} {p : Nat} {s : St} {w : World}

theorem notZero_any (c : UInt8) (w : World) : Calls Try.prog 42 #[.int .u8 c.toNat] w fun e w' => e = .returned (.bool (!(c == 0))) ∧ w = w' := by
  by_cases h : c = 0
  · subst h
    go_enter Try.func42, Try.ntmps42
    go_wp2_with fail
    go_ret
    exact ⟨rfl, rfl⟩
  · have hb : (c == 0) = false := beq_eq_false_iff_ne.2 h
    rw [hb]
    obtain ⟨C, hC⟩ : ∃ C : Nat, C = c.toNat := ⟨_, rfl⟩
    have hz : ((C : Int) != 0) = true := by
      rw [bne_iff_ne]
      intro hh
      exact h (UInt8.toNat_inj.1 (by rw [← hC, show C = 0 by omega]; rfl))
    rw [← hC]
    clear h hb hC
    go_enter Try.func42, Try.ntmps42
    go_wp2_with fail
    go_ret
    exact ⟨rfl, rfl⟩

set_option maxRecDepth 100000 in
theorem indexFunc_any (v : Value) (l : List UInt8) (w : World) (hr : Rd w v l) (hl : l.length ≤ 140737488355328) :
    Calls Try.prog 46 #[v, .func (.func 42) #[] #[]] w fun e w' => ∃ i : Int, e = .returned (.int .i64 i) ∧ -1 ≤ i ∧ i ≤ l.length ∧ decide (0 ≤ i) = !(l.all (· == 0)) ∧ w = w' := by
  obtain ⟨a, cap, rfl, h1, h2, ca⟩ := RdV.cellsAt hr
  rw [List.length_map] at h1 ⊢
  unfold maxLen at h2
  have CA := Lib.hid ca
  obtain ⟨L, hL⟩ : ∃ L, L = l.length := ⟨_, rfl⟩
  rw [← hL] at h1 hl ⊢
  have HL := Lib.hid hL
  clear ca hr hL
  go_enter Try.func46, Try.ntmps46
  go_wp2_with fail
  go_loopw [8] (fun i wr => ∃ j : Nat, j ≤ L ∧ i = .int .i64 j ∧ (l.take j).all (· == 0) = true ∧ w = wr) (fun i _ => L - (intOf i).toNat)
  case atStart => exact ⟨0, Nat.zero_le _, rfl, rfl, rfl⟩
  case round =>
    obtain ⟨j, hj, rfl, hall, rfl⟩ := hrel
    have HA := Lib.hid hall
    clear hall
    by_cases hlt : j < L
    · have hjl : j < l.length := by have := HL.out; omega
      obtain ⟨x, rfl, hc⟩ := CA.out j (bv l[j]) (by rw [List.getElem?_map, List.getElem?_eq_getElem hjl]; rfl)
      have HS := Lib.hid (show (l.take (j + 1)).all (· == 0) = ((l.take j).all (· == 0) && (l[j] == 0)) from by
        rw [List.take_succ_eq_append_getElem hjl, List.all_append]; simp)
      have HM := Lib.hid (List.getElem_mem hjl)
      unfold bv at hc
      have HN := Lib.hid (notZero_any l[j] w)
      generalize l[j] = c at hc HS HN HM
      by_cases h0 : c = 0
      · subst h0
        simp only [beq_self_eq_true, Bool.not_true] at HN
        go_wp2_with fail
        refine HN.out.mono ?_
        rintro e w2 ⟨rfl, rfl⟩
        go_wp2_with fail
        go_roundw
        case rel => exact ⟨j + 1, by omega, by go_num, by rw [HS.out, HA.out]; rfl, trivial⟩
        case measure => simp [intOf]; omega
      · have hb : (c == 0) = false := beq_eq_false_iff_ne.2 h0
        rw [hb] at HN
        have HF := Lib.hid (show l.all (· == 0) = false from by
          rw [Bool.eq_false_iff]
          intro h
          exact h0 (by simpa using List.all_eq_true.1 h c HM.out))
        obtain ⟨C, hC⟩ : ∃ C : Nat, C = c.toNat := ⟨_, rfl⟩
        rw [← hC] at hc HN
        clear hb h0 hC
        go_wp2_with fail
        refine HN.out.mono ?_
        rintro e w2 ⟨rfl, rfl⟩
        go_wp2_with fail
        go_ret
        exact ⟨j, rfl, by omega, by omega, by rw [HF.out]; simp, rfl⟩
    · have HF := Lib.hid (show l.all (· == 0) = true from by
        have h := HA.out
        rw [List.take_of_length_le (by have := HL.out; omega)] at h
        exact h)
      go_wp2_with fail
      go_ret
      exact ⟨-1, rfl, by omega, by omega, by rw [HF.out]; rfl, rfl⟩

theorem containsFunc_any (v : Value) (l : List UInt8) (w : World) (hr : Rd w v l) (hl : l.length ≤ 140737488355328) :
    Calls Try.prog 41 #[v, .func (.func 42) #[] #[]] w fun e w' => e = .returned (.bool (!(l.all (· == 0)))) ∧ w = w' := by
  have H := Lib.hid (indexFunc_any v l w hr hl)
  obtain ⟨B, hB⟩ : ∃ B, B = !(l.all (· == 0)) := ⟨_, rfl⟩
  rw [← hB] at H ⊢
  clear hB hr
  go_enter Try.func41, Try.ntmps41
  go_wp2_with fail
  refine H.out.mono ?_
  rintro e w2 ⟨i, rfl, h1, h2, h3, rfl⟩
  go_wp2_with fail
  go_ret
  exact ⟨rfl, rfl⟩

theorem add_more' (x : Addr) (n i : Nat) : (x.add n).add i = x.add (n + i) := by
  unfold Addr.add
  by_cases hn : n = 0
  · subst hn; simp
  · by_cases hi : i = 0
    · subst hi; simp [hn]
    · simp [hn, hi, Nat.add_assoc]
theorem slice_behind (x : Value) (l : List UInt8) (k : Nat) (w : World) (hr : Rd w x l) (hk : k ≤ l.length) :
    ∃ a cap, Rd w (.slice a (l.length - k) cap) (l.drop k) ∧ ∀ W, (Instr.slice 33 x (some (.int .i64 (k : Int))) none none).run Try.prog W = .ok (.slice a (l.length - k) cap) W := by
  rcases hr with ⟨rfl, h1⟩ | ⟨x, cap, rfl, h2, h3, h4⟩
  · have hl0 : l = [] := by simpa using h1
    subst hl0
    have hk0 : k = 0 := by simpa using hk
    subst hk0
    refine ⟨none, 0, Rd.nil w, fun W => ?_⟩
    simp [Instr.slice, Instr.sliceBounds, Instr.sliceBound, run_underlying Try.underlying33, go_sem]
  · rw [List.length_map] at h2
    by_cases hc : cap = k
    · refine ⟨some x, cap - k, ?_, fun W => ?_⟩
      · have hd : l.drop k = [] := List.drop_eq_nil_of_le (by omega)
        rw [hd, show l.length - k = 0 by omega]
        exact .inr ⟨x, _, rfl, Nat.zero_le _, by omega, fun i u hu => by simp at hu⟩
      · subst hc
        simp [Instr.slice, Instr.sliceBounds, Instr.sliceBound, run_underlying Try.underlying33, go_sem, hk]
    · refine ⟨some (x.add k), cap - k, ?_, fun W => ?_⟩
      · refine .inr ⟨x.add k, cap - k, by rw [List.length_map, List.length_drop], by rw [List.length_map, List.length_drop]; omega, by omega, fun i u hu => ?_⟩
        rw [add_more']
        exact h4 (k + i) u (by rw [List.map_drop, List.getElem?_drop] at hu; exact hu)
      · simp [Instr.slice, Instr.sliceBounds, Instr.sliceBound, run_underlying Try.underlying33, go_sem, hk, hc]
theorem slice_ahead (x : Value) (l : List UInt8) (k base : Nat) (w : World) (hr : w.ownsRow base 5 1 x l.length (l.map bv)) (hk : k ≤ l.length) :
    ∃ v, OwnP base w v (l.take k) ∧ (∀ b, v.ownBlock = some b → base ≤ b) ∧ ∀ W, (Instr.slice 33 x none (some (.int .i64 (k : Int))) none).run Try.prog W = .ok v W := by
  rcases hr.2 with ⟨rfl, h1⟩ | ⟨g, cap, cur, rfl, h2, h3, h4, h5, _⟩
  · have hl0 : l = [] := List.length_eq_zero_iff.1 h1
    subst hl0
    have hk0 : k = 0 := by simpa using hk
    subst hk0
    refine ⟨.slice none 0 0, .inl ⟨rfl, rfl⟩, (fun b hb => by cases hb), fun W => ?_⟩
    simp [Instr.slice, Instr.sliceBounds, Instr.sliceBound, run_underlying Try.underlying33, go_sem]
  · refine ⟨.slice (some ⟨g, 0, none⟩) k cap, .inr ⟨g, 0, cap, by rw [List.length_take, Nat.min_eq_left hk], h2, by rw [List.length_take]; omega, h5, fun i u hu => ?_, fun i _ => hr.frozenAt _⟩, (fun b hb => by cases hb; exact h2), fun W => ?_⟩
    · rw [List.map_take, List.getElem?_take] at hu
      split at hu
      · have := hr.cells (g := g) rfl i u hu
        rw [add_at] at this
        exact this
      · cases hu
    · have hkc : k ≤ cap := by omega
      simp [Instr.slice, Instr.sliceBounds, Instr.sliceBound, run_underlying Try.underlying33, go_sem, hkc]

set_option maxRecDepth 100000 in
set_option maxHeartbeats 1000000 in
theorem pGet_any (u : Value) (ids : List Int) (n : Int) (h : PSto O w p s) (hok : okS s) (hu : RdV w u (ids.map (Value.int .i64))) (_hb : ids ≠ [] → ∀ k, u.ownBlock = some k → ¬ O k) (hl : ids.length ≤ 1000000) (hw : ∀ i ∈ ids, -9223372036854775808 ≤ i ∧ i ≤ 9223372036854775807) (hn : -9223372036854775808 ≤ n ∧ n ≤ 9223372036854775807) :
    Calls Try.prog 21 #[.pointer (some ⟨p, 0, none⟩), u, .int .i64 n] w fun e w' => ∃ v, e = .returned (.tuple #[v, .int .i64 (getS s ids n).2]) ∧ OwnP w.heap.size w' v (getS s ids n).1 ∧ PStep O w p s w' v := by
  obtain ⟨ai, capi, rfl, hc1, hc2, hca⟩ := RdV.cellsAt hu
  simp only [List.length_map] at hc1 ⊢
  unfold maxLen at hc2
  obtain ⟨h0, h1⟩ := hn
  have HCA := Lib.hid hca
  have HP := Lib.hid h
  have HOK := Lib.hid hok
  have HWF := Lib.hid hw
  clear hca hu h hok hw _hb
  by_cases hneg : n < 0
  · have HG := Lib.hid (show getS s ids n = ([], 1) from by unfold getS; rw [if_pos (.inl hneg)])
    have hd : decide (n < 0) = true := decide_eq_true hneg
    generalize ids.length = N at hc1 hl ⊢
    go_enter Try.func21, Try.ntmps21
    go_wp2_with fail
    go_ret2
    rw [HG.out]
    exact ⟨_, rfl, .inl ⟨rfl, rfl⟩, pstep_same HP.out (Below.refl _ _) (fun k hk => by cases hk)⟩
  · have hd : decide (n < 0) = false := decide_eq_false hneg
    have HND := Lib.hid (pNeed_any (w := w) n ⟨h0, h1⟩)
    have hnd : 0 ≤ needS n ∧ needS n ≤ 9223372036854775807 := by unfold needS; split <;> omega
    by_cases hne : (ids.length : Int) = needS n
    · have hgt : getS s ids n = if (readsS s ids).2 ≠ 0 then ([], (readsS s ids).2) else if ((readsS s ids).1.drop n.toNat).all (· == 0) = true then ((readsS s ids).1.take n.toNat, 0) else ([], 6) := by
        unfold getS
        rw [if_neg (by rintro (h | h); exact hneg h; exact h hne)]
      obtain ⟨M, rfl⟩ := Int.eq_ofNat_of_zero_le (show 0 ≤ n by omega)
      rw [Int.toNat_natCast] at hgt
      have HGT := Lib.hid hgt
      rw [← hne] at HND
      have HNE := Lib.hid hne
      clear hgt hne hnd
      obtain ⟨N, hN⟩ : ∃ N, ids.length = N := ⟨_, rfl⟩
      have HN := Lib.hid hN
      have hMN : M ≤ 56 * N := by
        have h := HNE.out
        rw [hN] at h
        unfold needS at h
        split at h <;> omega
      rw [hN] at hc1 hl HND ⊢
      obtain ⟨i0, hi, hz0, hz1, hz2⟩ := info_parts Try.info5
      clear hN
      go_enter Try.func21, Try.ntmps21
      go_wp2_with fail
      refine HND.out.mono ?_
      rintro e w2 ⟨rfl, hx2⟩
      have HX2 := Lib.hid hx2
      clear hx2
      go_wp2_with fail
      go_loopw [8, 26] (fun o i wr => ∃ (j : Nat) (acc : List UInt8), j ≤ N ∧ i = .int .i64 j ∧ acc.length = 56 * j ∧ wr.ownsRow w.heap.size 5 1 o acc.length (acc.map bv) ∧ readsS s ids = gone acc (readsS s (ids.drop j)) ∧ Ext w wr) (fun _ i _ => N - (intOf i).toNat)
      case atStart => exact ⟨0, [], Nat.zero_le _, rfl, rfl, World.ownsRow_nil _ _ _ _, by rw [List.drop_zero, gone_nil _ (readsS_none s ids)], HX2.out⟩
      case round =>
        obtain ⟨j, acc, hj, rfl, hacc, hown, hrd, hext⟩ := hrel
        obtain ⟨ao, capo, rfl, hco1, hco2⟩ := own_shape hown
        unfold maxLen at hco2
        have HAC := Lib.hid hacc
        have HOW := Lib.hid hown
        have HRD := Lib.hid hrd
        have HE := Lib.hid hext
        clear hrd hext hown
        by_cases hlt : j < N
        · have hji : j < ids.length := by rw [HN.out]; exact hlt
          obtain ⟨x, rfl, hcx⟩ := HCA.out j (.int .i64 ids[j]) (by rw [List.getElem?_map, List.getElem?_eq_getElem hji]; rfl)
          have hcx2 : wr.cell? (x.add j) = some (.int .i64 ids[j]) := (HE.out.cell (lt_of_cell hcx)).trans hcx
          have hwfj := HWF.out ids[j] (List.getElem_mem hji)
          have HRE := Lib.hid (pRead_core (w := wr) ids[j] (HP.out.mono HE.out) HOK.out hwfj)
          by_cases hr0 : (readS s ids[j]).2 = 0
          · have HST := Lib.hid (gone_step hji acc hr0)
            have HLE := Lib.hid (readS_len HOK.out ids[j] hr0)
            rw [hr0] at HRE
            generalize (readS s ids[j]).1 = T at HRE HST HLE
            generalize ids[j] = k at hcx2 HRE
            clear hcx hwfj hr0 hji hacc
            go_wp2_with fail
            refine HRE.out.mono ?_
            rintro e w3 ⟨v, rfl, hov, hx3, -⟩
            have HX3 := Lib.hid (Ext.trans HE.out hx3)
            have HRV := Lib.hid hov.rd
            have HO3 := Lib.hid (owns_later HOW.out hx3)
            have HBV := Lib.hid (bv_oneCell T)
            have HLT := Lib.hid (show acc.length + (T.map bv).length ≤ 60000000 from by rw [List.length_map, HLE.out, HAC.out]; omega)
            have HTM := Lib.hid (show (T.map bv).length = 56 from by rw [List.length_map, HLE.out])
            clear hov hx3
            go_wp2_with (at_builtin; go_must (refine wpList_append_rd rfl (.tmp 39) (.tmp 40) 33 rfl w.heap.size 5 i0 (.int .u8 0) 1 Try.underlying33 hi hz0 hz1 hz2 rfl _ _ _ rfl HO3.out _ _ rfl HRV.out HBV.out (by have := HLT.out; unfold maxLen; omega) (by have := HLT.out; omega) HX3.out.size ?_); intro v5 w5 hown5 hgrow5; have HO5 := Lib.hid hown5; have HX5 := Lib.hid (show Ext w w5 from Below.grown (show Below w.heap.size w w3 from HX3.out) hgrow5 HX3.out.size (fun k hk => (HO3.out.lt k hk).1)); clear hown5 hgrow5)
            go_roundw
            case rel =>
              refine ⟨j + 1, acc ++ T, by omega, by go_num, by rw [List.length_append, HAC.out, HLE.out]; omega, ?_, by rw [HRD.out, HST.out], HX5.out⟩
              have h := HO5.out
              rw [List.map_append, List.length_append]
              rw [List.length_map] at h
              exact h
            case measure => simp [intOf]; omega
          · have HBD := Lib.hid (show readsS s ids = ([], (readS s ids[j]).2) from by rw [HRD.out, gone_bad hji acc hr0])
            have hre := readS_err (s := s) ids[j]
            generalize (readS s ids[j]).2 = E at HRE HBD hr0 hre
            generalize (readS s ids[j]).1 = T at HRE
            generalize ids[j] = k at hcx2 HRE
            have hq0 : (E == 0) = false := beq_eq_false_iff_ne.2 hr0
            have HG := Lib.hid (show getS s ids M = ([], E) from by rw [HGT.out, HBD.out]; exact if_pos hr0)
            have hE0 : 0 ≤ E ∧ E ≤ 6 := by omega
            clear hcx hwfj hr0 hji hre hacc
            go_wp2_with fail
            refine HRE.out.mono ?_
            rintro e w3 ⟨v, rfl, hov, hx3, -⟩
            have HX3 := Lib.hid (Ext.trans HE.out hx3)
            clear hov hx3
            go_wp2_with fail
            go_ret2
            rw [HG.out]
            exact ⟨_, rfl, .inl ⟨rfl, rfl⟩, pstep_same HP.out HX3.out (fun k hk => by cases hk)⟩
        · have hjN : j = N := by omega
          subst hjN
          have HF := Lib.hid (show readsS s ids = (acc, 0) from by rw [HRD.out, List.drop_eq_nil_of_le (by rw [HN.out]; exact Nat.le_refl _)]; simp [readsS, gone])
          have hMa : M ≤ acc.length := by rw [hacc]; exact hMN
          obtain ⟨a1, cap1, hr1, hsl1⟩ := slice_behind _ acc M wr (RdV.of_owns HOW.out) hMa
          obtain ⟨v2, hov2, hob2, hsl2⟩ := slice_ahead _ acc M w.heap.size wr HOW.out hMa
          have HCF := Lib.hid (containsFunc_any _ (acc.drop M) wr hr1 (by rw [List.length_drop]; omega))
          have HOV2 := Lib.hid hov2
          have HOB2 := Lib.hid hob2
          generalize hAL : (acc.drop M).all (· == 0) = B at HCF
          have HGB := Lib.hid (show getS s ids M = if B = true then (acc.take M, 0) else ([], 6) from by
            rw [HGT.out, HF.out]
            simp only
            rw [if_neg (by decide), hAL])
          clear hr1 hov2 hob2 hAL hlt hacc
          cases B with
          | true =>
            go_wp2_with fail
            refine HCF.out.mono ?_
            rintro e w3 ⟨rfl, rfl⟩
            go_wp2_with fail
            go_ret2
            rw [HGB.out]
            exact ⟨_, rfl, HOV2.out, pstep_same HP.out HE.out HOB2.out⟩
          | false =>
            go_wp2_with fail
            refine HCF.out.mono ?_
            rintro e w3 ⟨rfl, rfl⟩
            go_wp2_with fail
            go_ret2
            rw [HGB.out]
            exact ⟨_, rfl, .inl ⟨rfl, rfl⟩, pstep_same HP.out HE.out (fun k hk => by cases hk)⟩
    · have HG := Lib.hid (show getS s ids n = ([], 1) from by unfold getS; rw [if_pos (.inr hne)])
      have hq : ((ids.length : Int) != needS n) = true := by rw [bne_iff_ne]; exact hne
      clear hne
      generalize needS n = ND at HND hnd hq
      generalize ids.length = N at hc1 hl hq ⊢
      go_enter Try.func21, Try.ntmps21
      go_wp2_with fail
      refine HND.out.mono ?_
      rintro e w2 ⟨rfl, hx2⟩
      have HX2 := Lib.hid hx2
      clear hx2
      go_wp2_with fail
      go_ret2
      rw [HG.out]
      exact ⟨_, rfl, .inl ⟨rfl, rfl⟩, pstep_same HP.out HX2.out (fun k hk => by cases hk)⟩

end Go.Proofs.Ythelgjoobckbaaa
