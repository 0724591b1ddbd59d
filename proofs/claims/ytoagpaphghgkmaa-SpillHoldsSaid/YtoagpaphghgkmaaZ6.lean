/-
  Texts of this proof, merged: PagesGets, PagesSays, PagesDoes, PagesFew, PagesShown, PagesPlays, CrcTurn, PagesMath, PagesLeast, Val.
-/
import Derived.Laws.OwnMore
import Derived.WalkKit
import Derived.Sort.Walk0
import Derived.Test.YtoagpaphghgkmaaZ5
import Derived.Test.YtoagpaphghgkmaaZ1
/-
  The program's contract of layer 5: Get.
-/
namespace Go.Proofs.Ytoagpaphghgkmaa
open Go.RowKit Go.BigFrame

variable {O : Nat → Prop} {p : Nat} {s : St} {w : World}

theorem notZero_any (c : UInt8) (w : World) : Calls Try.prog 63 #[.int .u8 c.toNat] w fun e w' => e = .returned (.bool (!(c == 0))) ∧ w = w' := by
  by_cases h : c = 0
  · subst h
    go_enter Try.func63, Try.ntmps63
    go_wp2_with fail
    go_ret
    exact ⟨rfl, rfl⟩
  · have hb : (c == 0) = false := beq_eq_false_iff_ne.2 h
    rw [hb]
    obtain ⟨C, hC⟩ : ∃ C : Nat, C = c.toNat := ⟨_, rfl⟩
    have hz : ((C : Int) != 0) = true := by
      rw [bne_iff_ne]
      intro hh
      exact h (UInt8.toNat_inj.1 (by rw [← hC, show C = 0 by omega]; rfl))
    rw [← hC]
    clear h hb hC
    go_enter Try.func63, Try.ntmps63
    go_wp2_with fail
    go_ret
    exact ⟨rfl, rfl⟩

set_option maxRecDepth 100000 in
theorem indexFunc_any (v : Value) (l : List UInt8) (w : World) (hr : Rd w v l) (hl : l.length ≤ 140737488355328) :
    Calls Try.prog 80 #[v, .func (.func 63) #[] #[]] w fun e w' => ∃ i : Int, e = .returned (.int .i64 i) ∧ -1 ≤ i ∧ i ≤ l.length ∧ decide (0 ≤ i) = !(l.all (· == 0)) ∧ w = w' := by
  obtain ⟨a, cap, rfl, h1, h2, ca⟩ := RdV.cellsAt hr
  rw [List.length_map] at h1 ⊢
  unfold maxLen at h2
  have CA := Lib.hid ca
  obtain ⟨L, hL⟩ : ∃ L, L = l.length := ⟨_, rfl⟩
  rw [← hL] at h1 hl ⊢
  have HL := Lib.hid hL
  clear ca hr hL
  go_enter Try.func80, Try.ntmps80
  go_wp2_with fail
  go_loopw [8] (fun i wr => ∃ j : Nat, j ≤ L ∧ i = .int .i64 j ∧ (l.take j).all (· == 0) = true ∧ w = wr) (fun i _ => L - (intOf i).toNat)
  case atStart => exact ⟨0, Nat.zero_le _, rfl, rfl, rfl⟩
  case round =>
    obtain ⟨j, hj, rfl, hall, rfl⟩ := hrel
    have HA := Lib.hid hall
    clear hall
    by_cases hlt : j < L
    · have hjl : j < l.length := by have := HL.out; omega
      obtain ⟨x, rfl, hc⟩ := CA.out j (bv l[j]) (by rw [List.getElem?_map, List.getElem?_eq_getElem hjl]; rfl)
      have HS := Lib.hid (show (l.take (j + 1)).all (· == 0) = ((l.take j).all (· == 0) && (l[j] == 0)) from by
        rw [List.take_succ_eq_append_getElem hjl, List.all_append]; simp)
      have HM := Lib.hid (List.getElem_mem hjl)
      unfold bv at hc
      have HN := Lib.hid (notZero_any l[j] w)
      generalize l[j] = c at hc HS HN HM
      by_cases h0 : c = 0
      · subst h0
        simp only [beq_self_eq_true, Bool.not_true] at HN
        go_wp2_with fail
        refine HN.out.mono ?_
        rintro e w2 ⟨rfl, rfl⟩
        go_wp2_with fail
        go_roundw
        case rel => exact ⟨j + 1, by omega, by go_num, by rw [HS.out, HA.out]; rfl, trivial⟩
        case measure => simp [intOf]; omega
      · have hb : (c == 0) = false := beq_eq_false_iff_ne.2 h0
        rw [hb] at HN
        have HF := Lib.hid (show l.all (· == 0) = false from by
          rw [Bool.eq_false_iff]
          intro h
          exact h0 (by simpa using List.all_eq_true.1 h c HM.out))
        obtain ⟨C, hC⟩ : ∃ C : Nat, C = c.toNat := ⟨_, rfl⟩
        rw [← hC] at hc HN
        clear hb h0 hC
        go_wp2_with fail
        refine HN.out.mono ?_
        rintro e w2 ⟨rfl, rfl⟩
        go_wp2_with fail
        go_ret
        exact ⟨j, rfl, by omega, by omega, by rw [HF.out]; simp, rfl⟩
    · have HF := Lib.hid (show l.all (· == 0) = true from by
        have h := HA.out
        rw [List.take_of_length_le (by have := HL.out; omega)] at h
        exact h)
      go_wp2_with fail
      go_ret
      exact ⟨-1, rfl, by omega, by omega, by rw [HF.out]; rfl, rfl⟩

theorem containsFunc_any (v : Value) (l : List UInt8) (w : World) (hr : Rd w v l) (hl : l.length ≤ 140737488355328) :
    Calls Try.prog 62 #[v, .func (.func 63) #[] #[]] w fun e w' => e = .returned (.bool (!(l.all (· == 0)))) ∧ w = w' := by
  have H := Lib.hid (indexFunc_any v l w hr hl)
  obtain ⟨B, hB⟩ : ∃ B, B = !(l.all (· == 0)) := ⟨_, rfl⟩
  rw [← hB] at H ⊢
  clear hB hr
  go_enter Try.func62, Try.ntmps62
  go_wp2_with fail
  refine H.out.mono ?_
  rintro e w2 ⟨i, rfl, h1, h2, h3, rfl⟩
  go_wp2_with fail
  go_ret
  exact ⟨rfl, rfl⟩

theorem add_more' (x : Addr) (n i : Nat) : (x.add n).add i = x.add (n + i) := by
  unfold Addr.add
  by_cases hn : n = 0
  · subst hn; simp
  · by_cases hi : i = 0
    · subst hi; simp [hn]
    · simp [hn, hi, Nat.add_assoc]
theorem slice_behind (x : Value) (l : List UInt8) (k : Nat) (w : World) (hr : Rd w x l) (hk : k ≤ l.length) :
    ∃ a cap, Rd w (.slice a (l.length - k) cap) (l.drop k) ∧ ∀ W, (Instr.slice 43 x (some (.int .i64 (k : Int))) none none).run Try.prog W = .ok (.slice a (l.length - k) cap) W := by
  rcases hr with ⟨rfl, h1⟩ | ⟨x, cap, rfl, h2, h3, h4⟩
  · have hl0 : l = [] := by simpa using h1
    subst hl0
    have hk0 : k = 0 := by simpa using hk
    subst hk0
    refine ⟨none, 0, Rd.nil w, fun W => ?_⟩
    simp [Instr.slice, Instr.sliceBounds, Instr.sliceBound, run_underlying Try.underlying43, go_sem]
  · rw [List.length_map] at h2
    by_cases hc : cap = k
    · refine ⟨some x, cap - k, ?_, fun W => ?_⟩
      · have hd : l.drop k = [] := List.drop_eq_nil_of_le (by omega)
        rw [hd, show l.length - k = 0 by omega]
        exact .inr ⟨x, _, rfl, Nat.zero_le _, by omega, fun i u hu => by simp at hu⟩
      · subst hc
        simp [Instr.slice, Instr.sliceBounds, Instr.sliceBound, run_underlying Try.underlying43, go_sem, hk]
    · refine ⟨some (x.add k), cap - k, ?_, fun W => ?_⟩
      · refine .inr ⟨x.add k, cap - k, by rw [List.length_map, List.length_drop], by rw [List.length_map, List.length_drop]; omega, by omega, fun i u hu => ?_⟩
        rw [add_more']
        exact h4 (k + i) u (by rw [List.map_drop, List.getElem?_drop] at hu; exact hu)
      · simp [Instr.slice, Instr.sliceBounds, Instr.sliceBound, run_underlying Try.underlying43, go_sem, hk, hc]
theorem slice_ahead (x : Value) (l : List UInt8) (k base : Nat) (w : World) (hr : w.ownsRow base 5 1 x l.length (l.map bv)) (hk : k ≤ l.length) :
    ∃ v, OwnP base w v (l.take k) ∧ (∀ b, v.ownBlock = some b → base ≤ b) ∧ ∀ W, (Instr.slice 43 x none (some (.int .i64 (k : Int))) none).run Try.prog W = .ok v W := by
  rcases hr.2 with ⟨rfl, h1⟩ | ⟨g, cap, cur, rfl, h2, h3, h4, h5, _⟩
  · have hl0 : l = [] := List.length_eq_zero_iff.1 h1
    subst hl0
    have hk0 : k = 0 := by simpa using hk
    subst hk0
    refine ⟨.slice none 0 0, .inl ⟨rfl, rfl⟩, (fun b hb => by cases hb), fun W => ?_⟩
    simp [Instr.slice, Instr.sliceBounds, Instr.sliceBound, run_underlying Try.underlying43, go_sem]
  · refine ⟨.slice (some ⟨g, 0, none⟩) k cap, .inr ⟨g, 0, cap, by rw [List.length_take, Nat.min_eq_left hk], h2, by rw [List.length_take]; omega, h5, fun i u hu => ?_, fun i _ => hr.frozenAt _⟩, (fun b hb => by cases hb; exact h2), fun W => ?_⟩
    · rw [List.map_take, List.getElem?_take] at hu
      split at hu
      · have := hr.cells (g := g) rfl i u hu
        rw [add_at] at this
        exact this
      · cases hu
    · have hkc : k ≤ cap := by omega
      simp [Instr.slice, Instr.sliceBounds, Instr.sliceBound, run_underlying Try.underlying43, go_sem, hkc]

set_option maxRecDepth 100000 in
set_option maxHeartbeats 1000000 in
theorem pGet_any (u : Value) (ids : List Int) (n : Int) (h : PSto O w p s) (hok : okS s) (hu : RdV w u (ids.map (Value.int .i64))) (_hb : ids ≠ [] → ∀ k, u.ownBlock = some k → ¬ O k) (hl : ids.length ≤ 1000000) (hw : ∀ i ∈ ids, -9223372036854775808 ≤ i ∧ i ≤ 9223372036854775807) (hn : -9223372036854775808 ≤ n ∧ n ≤ 9223372036854775807) :
    Calls Try.prog 37 #[.pointer (some ⟨p, 0, none⟩), u, .int .i64 n] w fun e w' => ∃ v, e = .returned (.tuple #[v, .int .i64 (getS s ids n).2]) ∧ OwnP w.heap.size w' v (getS s ids n).1 ∧ PStep O w p s w' v := by
  obtain ⟨ai, capi, rfl, hc1, hc2, hca⟩ := RdV.cellsAt hu
  simp only [List.length_map] at hc1 ⊢
  unfold maxLen at hc2
  obtain ⟨h0, h1⟩ := hn
  have HCA := Lib.hid hca
  have HP := Lib.hid h
  have HOK := Lib.hid hok
  have HWF := Lib.hid hw
  clear hca hu h hok hw _hb
  by_cases hneg : n < 0
  · have HG := Lib.hid (show getS s ids n = ([], 1) from by unfold getS; rw [if_pos (.inl hneg)])
    have hd : decide (n < 0) = true := decide_eq_true hneg
    generalize ids.length = N at hc1 hl ⊢
    go_enter Try.func37, Try.ntmps37
    go_wp2_with fail
    go_ret2
    rw [HG.out]
    exact ⟨_, rfl, .inl ⟨rfl, rfl⟩, pstep_same HP.out (Below.refl _ _) (fun k hk => by cases hk)⟩
  · have hd : decide (n < 0) = false := decide_eq_false hneg
    have HND := Lib.hid (pNeed_any (w := w) n ⟨h0, h1⟩)
    have hnd : 0 ≤ needS n ∧ needS n ≤ 9223372036854775807 := by unfold needS; split <;> omega
    by_cases hne : (ids.length : Int) = needS n
    · have hgt : getS s ids n = if (readsS s ids).2 ≠ 0 then ([], (readsS s ids).2) else if ((readsS s ids).1.drop n.toNat).all (· == 0) = true then ((readsS s ids).1.take n.toNat, 0) else ([], 6) := by
        unfold getS
        rw [if_neg (by rintro (h | h); exact hneg h; exact h hne)]
      obtain ⟨M, rfl⟩ := Int.eq_ofNat_of_zero_le (show 0 ≤ n by omega)
      rw [Int.toNat_natCast] at hgt
      have HGT := Lib.hid hgt
      rw [← hne] at HND
      have HNE := Lib.hid hne
      clear hgt hne hnd
      obtain ⟨N, hN⟩ : ∃ N, ids.length = N := ⟨_, rfl⟩
      have HN := Lib.hid hN
      have hMN : M ≤ 56 * N := by
        have h := HNE.out
        rw [hN] at h
        unfold needS at h
        split at h <;> omega
      rw [hN] at hc1 hl HND ⊢
      obtain ⟨i0, hi, hz0, hz1, hz2⟩ := info_parts Try.info5
      clear hN
      go_enter Try.func37, Try.ntmps37
      go_wp2_with fail
      refine HND.out.mono ?_
      rintro e w2 ⟨rfl, hx2⟩
      have HX2 := Lib.hid hx2
      clear hx2
      go_wp2_with fail
      go_loopw [8, 26] (fun o i wr => ∃ (j : Nat) (acc : List UInt8), j ≤ N ∧ i = .int .i64 j ∧ acc.length = 56 * j ∧ wr.ownsRow w.heap.size 5 1 o acc.length (acc.map bv) ∧ readsS s ids = gone acc (readsS s (ids.drop j)) ∧ Ext w wr) (fun _ i _ => N - (intOf i).toNat)
      case atStart => exact ⟨0, [], Nat.zero_le _, rfl, rfl, World.ownsRow_nil _ _ _ _, by rw [List.drop_zero, gone_nil _ (readsS_none s ids)], HX2.out⟩
      case round =>
        obtain ⟨j, acc, hj, rfl, hacc, hown, hrd, hext⟩ := hrel
        obtain ⟨ao, capo, rfl, hco1, hco2⟩ := own_shape hown
        unfold maxLen at hco2
        have HAC := Lib.hid hacc
        have HOW := Lib.hid hown
        have HRD := Lib.hid hrd
        have HE := Lib.hid hext
        clear hrd hext hown
        by_cases hlt : j < N
        · have hji : j < ids.length := by rw [HN.out]; exact hlt
          obtain ⟨x, rfl, hcx⟩ := HCA.out j (.int .i64 ids[j]) (by rw [List.getElem?_map, List.getElem?_eq_getElem hji]; rfl)
          have hcx2 : wr.cell? (x.add j) = some (.int .i64 ids[j]) := (HE.out.cell (lt_of_cell hcx)).trans hcx
          have hwfj := HWF.out ids[j] (List.getElem_mem hji)
          have HRE := Lib.hid (pRead_core (w := wr) ids[j] (HP.out.mono HE.out) HOK.out hwfj)
          by_cases hr0 : (readS s ids[j]).2 = 0
          · have HST := Lib.hid (gone_step hji acc hr0)
            have HLE := Lib.hid (readS_len HOK.out ids[j] hr0)
            rw [hr0] at HRE
            generalize (readS s ids[j]).1 = T at HRE HST HLE
            generalize ids[j] = k at hcx2 HRE
            clear hcx hwfj hr0 hji hacc
            go_wp2_with fail
            refine HRE.out.mono ?_
            rintro e w3 ⟨v, rfl, hov, hx3, -⟩
            have HX3 := Lib.hid (Ext.trans HE.out hx3)
            have HRV := Lib.hid hov.rd
            have HO3 := Lib.hid (owns_later HOW.out hx3)
            have HBV := Lib.hid (bv_oneCell T)
            have HLT := Lib.hid (show acc.length + (T.map bv).length ≤ 60000000 from by rw [List.length_map, HLE.out, HAC.out]; omega)
            have HTM := Lib.hid (show (T.map bv).length = 56 from by rw [List.length_map, HLE.out])
            clear hov hx3
            go_wp2_with (at_builtin; go_must (refine wpList_append_rd rfl (.tmp 39) (.tmp 40) 43 rfl w.heap.size 5 i0 (.int .u8 0) 1 Try.underlying43 hi hz0 hz1 hz2 rfl _ _ _ rfl HO3.out _ _ rfl HRV.out HBV.out (by have := HLT.out; unfold maxLen; omega) (by have := HLT.out; omega) HX3.out.size ?_); intro v5 w5 hown5 hgrow5; have HO5 := Lib.hid hown5; have HX5 := Lib.hid (show Ext w w5 from Below.grown (show Below w.heap.size w w3 from HX3.out) hgrow5 HX3.out.size (fun k hk => (HO3.out.lt k hk).1)); clear hown5 hgrow5)
            go_roundw
            case rel =>
              refine ⟨j + 1, acc ++ T, by omega, by go_num, by rw [List.length_append, HAC.out, HLE.out]; omega, ?_, by rw [HRD.out, HST.out], HX5.out⟩
              have h := HO5.out
              rw [List.map_append, List.length_append]
              rw [List.length_map] at h
              exact h
            case measure => simp [intOf]; omega
          · have HBD := Lib.hid (show readsS s ids = ([], (readS s ids[j]).2) from by rw [HRD.out, gone_bad hji acc hr0])
            have hre := readS_err (s := s) ids[j]
            generalize (readS s ids[j]).2 = E at HRE HBD hr0 hre
            generalize (readS s ids[j]).1 = T at HRE
            generalize ids[j] = k at hcx2 HRE
            have hq0 : (E == 0) = false := beq_eq_false_iff_ne.2 hr0
            have HG := Lib.hid (show getS s ids M = ([], E) from by rw [HGT.out, HBD.out]; exact if_pos hr0)
            have hE0 : 0 ≤ E ∧ E ≤ 6 := by omega
            clear hcx hwfj hr0 hji hre hacc
            go_wp2_with fail
            refine HRE.out.mono ?_
            rintro e w3 ⟨v, rfl, hov, hx3, -⟩
            have HX3 := Lib.hid (Ext.trans HE.out hx3)
            clear hov hx3
            go_wp2_with fail
            go_ret2
            rw [HG.out]
            exact ⟨_, rfl, .inl ⟨rfl, rfl⟩, pstep_same HP.out HX3.out (fun k hk => by cases hk)⟩
        · have hjN : j = N := by omega
          subst hjN
          have HF := Lib.hid (show readsS s ids = (acc, 0) from by rw [HRD.out, List.drop_eq_nil_of_le (by rw [HN.out]; exact Nat.le_refl _)]; simp [readsS, gone])
          have hMa : M ≤ acc.length := by rw [hacc]; exact hMN
          obtain ⟨a1, cap1, hr1, hsl1⟩ := slice_behind _ acc M wr (RdV.of_owns HOW.out) hMa
          obtain ⟨v2, hov2, hob2, hsl2⟩ := slice_ahead _ acc M w.heap.size wr HOW.out hMa
          have HCF := Lib.hid (containsFunc_any _ (acc.drop M) wr hr1 (by rw [List.length_drop]; omega))
          have HOV2 := Lib.hid hov2
          have HOB2 := Lib.hid hob2
          generalize hAL : (acc.drop M).all (· == 0) = B at HCF
          have HGB := Lib.hid (show getS s ids M = if B = true then (acc.take M, 0) else ([], 6) from by
            rw [HGT.out, HF.out]
            simp only
            rw [if_neg (by decide), hAL])
          clear hr1 hov2 hob2 hAL hlt hacc
          cases B with
          | true =>
            go_wp2_with fail
            refine HCF.out.mono ?_
            rintro e w3 ⟨rfl, rfl⟩
            go_wp2_with fail
            go_ret2
            rw [HGB.out]
            exact ⟨_, rfl, HOV2.out, pstep_same HP.out HE.out HOB2.out⟩
          | false =>
            go_wp2_with fail
            refine HCF.out.mono ?_
            rintro e w3 ⟨rfl, rfl⟩
            go_wp2_with fail
            go_ret2
            rw [HGB.out]
            exact ⟨_, rfl, .inl ⟨rfl, rfl⟩, pstep_same HP.out HE.out (fun k hk => by cases hk)⟩
    · have HG := Lib.hid (show getS s ids n = ([], 1) from by unfold getS; rw [if_pos (.inr hne)])
      have hq : ((ids.length : Int) != needS n) = true := by rw [bne_iff_ne]; exact hne
      clear hne
      generalize needS n = ND at HND hnd hq
      generalize ids.length = N at hc1 hl hq ⊢
      go_enter Try.func37, Try.ntmps37
      go_wp2_with fail
      refine HND.out.mono ?_
      rintro e w2 ⟨rfl, hx2⟩
      have HX2 := Lib.hid hx2
      clear hx2
      go_wp2_with fail
      go_ret2
      rw [HG.out]
      exact ⟨_, rfl, .inl ⟨rfl, rfl⟩, pstep_same HP.out HX2.out (fun k hk => by cases hk)⟩

end Go.Proofs.Ytoagpaphghgkmaa

/-
  The program's contracts of layer 5, all of them: New, Alloc, Free, Write, Read, Raw, Flip, Put, Get, Drop, Used, Most, Need.
-/

/-
  An act on both stores: the law's own 'does'.
-/
namespace Go.Proofs.Ytoagpaphghgkmaa
open Go.RowKit Go.BigFrame

/-- The program's store and the document's own, that are alike. -/
structure Both (O : Nat → Prop) (w : World) (p q g : Nat) (s : St) : Prop where
  prog : PSto O w p s
  ref : RSto w q g s
  ok : okS s
  nq : ¬ O q
  ng : ¬ O g

/-- What an act leaves. -/
def DoesTo (O : Nat → Prop) (w : World) (p q g : Nat) (s' : St) (e : Ending) (w' : World) : Prop :=
  e = .returned (.bool true) ∧ ∃ O', Both O' w' p q g s' ∧ OnlyS (fun b => O b ∨ b = g) w w' ∧ ∀ b, O' b → O b ∨ w.heap.size ≤ b

theorem PSto.onlyS {O X : Nat → Prop} {w w' : World} {p : Nat} {s : St} (h : PSto O w p s) (ho : OnlyS X w w') (hx : ∀ b, O b → ¬ X b) : PSto O w' p s :=
  h.keep (fun b hb => ho.block b (h.lt b hb) (hx b hb)) ho.size
theorem iv_ints (l : List Nat) : l.map iv = (l.map Int.ofNat).map (Value.int .i64) := by
  rw [List.map_map]
  rfl
theorem cells_onlyS {X : Nat → Prop} {w w' : World} {b : Nat} {xs : List Value} (h : ∀ j u, xs[j]? = some u → w.cell? ⟨b, j, none⟩ = some u) (ho : OnlyS X w w') (hx : ¬ X b) : ∀ j u, xs[j]? = some u → w'.cell? ⟨b, j, none⟩ = some u :=
  fun j u hj => ho.cell (h j u hj) hx

theorem takeS_le : ∀ (n i : Nat) (s : St), (takeS i n s).1.length ≤ s.length
  | 0, i, s => by rw [takeS_zero]; exact Nat.zero_le _
  | n + 1, i, [] => by rw [takeS_nil]; exact Nat.le_refl _
  | n + 1, i, none :: t => by
    rw [takeS_none _ _ _ (by omega)]
    simp only [List.length_cons, Nat.add_sub_cancel]
    have := takeS_le n (i + 1) t
    omega
  | n + 1, i, some p :: t => by
    rw [takeS_some _ _ _ _ (by omega)]
    simp only [List.length_cons]
    have := takeS_le (n + 1) (i + 1) t
    omega
theorem allocS_le (s : St) (n : Int) : (allocS s n).1.1.length ≤ s.length := by
  unfold allocS
  split
  · exact Nat.zero_le _
  · split
    · exact Nat.zero_le _
    · exact takeS_le _ _ _
theorem putS_le (s : St) (l : List UInt8) : (putS s l).1.1.length ≤ s.length := by
  unfold putS
  split
  · exact allocS_le _ _
  · exact Nat.zero_le _

end Go.Proofs.Ytoagpaphghgkmaa

/-
  The law's own 'few', and 'does' of any act.
-/
namespace Go.Proofs.Ytoagpaphghgkmaa
open Go.RowKit Go.BigFrame

/-- An act that is small. -/
def Act5.small (a : Act5) : Prop := a.b.length ≤ 500 ∧ a.l.length ≤ 20

/-- few's answer: the first m acts. -/
def FewTo (w : World) (u : Value) (ls : List Act5) (e : Ending) (w' : World) : Prop :=
  ∃ m ao cap, u = .slice ao ls.length cap ∧ e = .returned (.slice ao m cap) ∧ m ≤ ls.length ∧ m ≤ 80 ∧ (∀ j, (hj : j < ls.length) → j < m → ls[j].small) ∧ w = w'

theorem block_lt {w : World} {v : Value} {xs : List Value} (hr : RdV w v xs) (hne : xs ≠ []) : ∀ k, v.ownBlock = some k → k < w.heap.size := fun k hk => by
  rcases hr with ⟨rfl, h⟩ | ⟨x, cap, rfl, h2, h3, h4⟩
  · exact absurd h hne
  · cases hk
    cases xs with
    | nil => exact absurd rfl hne
    | cons y t =>
      have := lt_of_cell (h4 0 y rfl)
      rwa [add_block] at this

end Go.Proofs.Ytoagpaphghgkmaa

/-
  'shown' (the document's examples) of layer 5.
-/
namespace Go.Proofs.Ytoagpaphghgkmaa
open Go.RowKit Go.BigFrame

theorem needS_57 : needS ((57 : Nat) : Int) = 2 := by decide
theorem shown_put (b : List UInt8) (hb : b.length = 57) : ∃ x y, putS [none, none] b = (([0, 1], 0), [some x, some y]) := by
  have ha : allocS [none, none] 2 = (([0, 1], 0), [some (layP 0 []), some (layP 1 [])]) := rfl
  refine ⟨layP 0 (b.take 56), layP 1 ((b.drop 56).take 56), ?_⟩
  unfold putS
  rw [hb, needS_57, ha, if_pos rfl]
  rfl
theorem shown_full (x y : List UInt8) : allocS [some x, some y] 1 = (([], 4), [some x, some y]) := rfl
theorem shown_drop (x y : List UInt8) : dropS [some x, some y] [0, 1] = [none, none] := rfl
theorem shown_again : ∃ z, allocS [none, none] 1 = (([0], 0), [some z, none]) := ⟨layP 0 [], rfl⟩

theorem zeros57 : (madeCells (Value.int .u8 0).cells (57 * 1)).toList = (List.replicate 57 (0 : UInt8)).map bv := by
  rw [Nat.mul_one, List.map_replicate]
  exact toList_madeCells_one _ _

end Go.Proofs.Ytoagpaphghgkmaa

/-
  The walk of the law PagesPlays.
-/
namespace Go.Proofs.Ytoagpaphghgkmaa
open Go.RowKit Go.BigFrame

/-- What holds between the acts. -/
structure Inv (w w' : World) (p q g n : Nat) (O : Nat → Prop) (s : St) : Prop where
  both : Both O w' p q g s
  len : s.length = n
  own : ∀ b, O b → w.heap.size ≤ b
  q0 : w.heap.size ≤ q
  g0 : w.heap.size ≤ g
  below : Below w.heap.size w w'

theorem Inv.step {w w' w2 : World} {p q g n : Nat} {O O' : Nat → Prop} {s s' : St} (h : Inv w w' p q g n O s) (hb : Both O' w2 p q g s') (hl : s'.length = s.length) (ho : OnlyS (fun b => O b ∨ b = g) w' w2) (hn : ∀ b, O' b → O b ∨ w'.heap.size ≤ b) : Inv w w2 p q g n O' s' :=
  ⟨hb, hl.trans h.len, fun b hb' => by
    rcases hn b hb' with h1 | h1
    · exact h.own b h1
    · exact Nat.le_trans h.below.size h1, h.q0, h.g0, h.below.trans (ho.below h.below.size (fun b hx => by
      rcases hx with hx | hx
      · exact h.own b hx
      · rw [hx]; exact h.g0))⟩
theorem Both.ext {O : Nat → Prop} {w w' : World} {p q g : Nat} {s : St} (h : Both O w p q g s) (hx : Ext w w') : Both O w' p q g s :=
  ⟨h.prog.onlyS (OnlyS.of_ext (X := fun _ => False) hx) (fun _ _ h => h), h.ref.mono hx, h.ok, h.nq, h.ng⟩
theorem Inv.ext {w w' w2 : World} {p q g n : Nat} {O : Nat → Prop} {s : St} (h : Inv w w' p q g n O s) (hx : Ext w' w2) : Inv w w2 p q g n O s :=
  ⟨h.both.ext hx, h.len, h.own, h.q0, h.g0, h.below.trans (hx.mono h.below.size)⟩

theorem ActAt.mono {w w' : World} {cs : List Value} {a : Act5} (h : ActAt w cs a) (hb : Below w.heap.size w w') : ActAt w' cs a := by
  obtain ⟨vb, vl, h1, h2, h3⟩ := h
  exact ⟨vb, vl, h1, h2.mono hb, h3.mono hb⟩
theorem RdActs.mono {w w' : World} {u : Value} {ls : List Act5} (h : RdActs w u ls) (hb : Below w.heap.size w w') : RdActs w' u ls := by
  obtain ⟨ao, cap, h1, h2, h3, h4⟩ := h
  refine ⟨ao, cap, h1, h2, h3, fun j hj => ?_⟩
  obtain ⟨g, off, cs, h5, h6, h7⟩ := h4 j hj
  exact ⟨g, off, cs, h5, h6.mono hb, fun i y hy => (hb.cell (lt_of_cell (h7 i y hy))).trans (h7 i y hy)⟩
theorem act_cells {w : World} {cs : List Value} {a : Act5} (h : ActAt w cs a) : ∃ c0 c1 c2 c3 c4 c5, cs = [c0, c1, c2, c3, c4, c5] := by
  obtain ⟨vb, vl, rfl, _, _⟩ := h
  exact ⟨_, _, _, _, _, _, rfl⟩

/-- A call of the program that leaves the pages as they are. -/
theorem Both.same {O : Nat → Prop} {w w' : World} {p q g : Nat} {s : St} {v : Value} (h : Both O w p q g s) (hs : PStep O w p s w' v) :
    ∃ O', Both O' w' p q g s ∧ OnlyS (fun b => O b ∨ b = g) w w' ∧ (∀ b, O' b → O b ∨ w.heap.size ≤ b) ∧ ∀ k, v.ownBlock = some k → ¬ O' k := by
  obtain ⟨O', hp, ho, hn, hv⟩ := hs
  have hq := lt_of_cell h.ref.top
  have hg := h.ref.lt
  refine ⟨O', ⟨hp, h.ref.onlyS ho h.nq h.ng, h.ok, fun hx => ?_, fun hx => ?_⟩, ho.mono (fun _ _ hx => .inl hx), hn, hv⟩
  · rcases hn q hx with hx | hx
    · exact h.nq hx
    · have : q < w.heap.size := hq
      omega
  · rcases hn g hx with hx | hx
    · exact h.ng hx
    · omega
/-- What changes others alone. -/
theorem Inv.apart {w w' w2 : World} {p q g n : Nat} {O X : Nat → Prop} {s : St} (h : Inv w w' p q g n O s) (ho : OnlyS X w' w2) (hx : ∀ b, X b → w.heap.size ≤ b ∧ ¬ O b ∧ b ≠ q ∧ b ≠ g) : Inv w w2 p q g n O s :=
  ⟨⟨h.both.prog.onlyS ho (fun b hb hb' => (hx b hb').2.1 hb), h.both.ref.onlyS ho (fun hq => (hx q hq).2.2.1 rfl) (fun hg => (hx g hg).2.2.2 rfl), h.both.ok, h.both.nq, h.both.ng⟩, h.len, h.own, h.q0, h.g0, h.below.trans (ho.below h.below.size (fun b hb => (hx b hb).1))⟩
/-- The block of bytes of one's own. -/
def InRow (v : Value) (n : Nat) (b : Nat) : Prop := 0 < n ∧ v.ownBlock = some b
theorem OwnP.row {base : Nat} {w : World} {v : Value} {l : List UInt8} (h : OwnP base w v l) : ∀ b, InRow v l.length b → base ≤ b ∧ b < w.heap.size := fun b hb => by
  obtain ⟨h0, h1⟩ := hb
  rcases h with ⟨rfl, rfl⟩ | ⟨g, off, cap, rfl, h2, h3, h4, h5, h6⟩
  · simp at h0
  · cases h1
    exact ⟨h2, lt_of_cell (h5 0 (bv (l[0]'h0)) (by rw [List.getElem?_map, List.getElem?_eq_getElem h0]; rfl))⟩

theorem OwnP.shape {base : Nat} {w : World} {v : Value} {l : List UInt8} (h : OwnP base w v l) : ∃ a cap, v = .slice a l.length cap ∧ l.length ≤ cap ∧ cap ≤ maxLen := by
  rcases h with ⟨rfl, rfl⟩ | ⟨g, off, cap, rfl, _, h2, h3, _⟩
  · exact ⟨none, 0, rfl, Nat.le_refl _, by simp [maxLen]⟩
  · exact ⟨_, cap, rfl, h2, h3⟩

theorem writesS_length : ∀ (ids : List Nat) (b : List UInt8) (s : St), (writesS ids b s).length = s.length
  | [], _, _ => rfl
  | id :: t, b, s => by
    unfold writesS
    rw [writesS_length, List.length_set]
theorem allocS_length (s : St) (n : Int) : (allocS s n).2.length = s.length := by
  unfold allocS
  split
  · rfl
  · split
    · rfl
    · exact takeS_length _ _ _
theorem freeS_length (s : St) (id : Int) : (freeS s id).2.length = s.length := by
  unfold freeS setS
  split
  · rfl
  · simp
theorem dropS_length : ∀ (ids : List Int) (s : St), (dropS s ids).length = s.length
  | [], _ => rfl
  | id :: t, s => by
    unfold dropS
    rw [dropS_length, freeS_length]
theorem actS_length (s : St) (a : Act5) : (actS s a).length = s.length := by
  unfold actS
  split
  · exact allocS_length _ _
  split
  · exact freeS_length _ _
  split
  · unfold writeS setS
    split
    · rfl
    · split
      · rfl
      · simp
  split
  · unfold flipS setS
    split
    · rfl
    · split
      · simp
      · rfl
  split
  · unfold putS
    split
    · simp only
      rw [writesS_length, allocS_length]
    · rfl
  split
  · rfl
  · exact dropS_length _ _

end Go.Proofs.Ytoagpaphghgkmaa

/-
  Bits within 32 that are turned, and what the sum is then. No program.
-/
namespace Go.Proofs.Ytoagpaphghgkmaa

/-- The bits that are turned. -/
def turns (n a : Nat) (which : Nat) : List Bool := List.replicate a false ++ ((List.range (min 32 (n - a))).map (fun i => which.testBit i) ++ List.replicate (n - a - min 32 (n - a)) false)
theorem turns_length (n a which : Nat) (h : a ≤ n) : (turns n a which).length = n := by
  unfold turns
  rw [List.length_append, List.length_append, List.length_replicate, List.length_replicate, List.length_map, List.length_range]
  omega
theorem turns_get (n a which k : Nat) (h : a ≤ n) (hk : k < n) : (turns n a which)[k]? = some (decide (a ≤ k ∧ k < a + 32) && which.testBit (k - a)) := by
  unfold turns
  by_cases h1 : k < a
  · rw [List.getElem?_append_left (by rw [List.length_replicate]; exact h1), List.getElem?_replicate, if_pos h1, decide_eq_false (by omega)]
    rfl
  · rw [List.getElem?_append_right (by rw [List.length_replicate]; omega), List.length_replicate]
    by_cases h2 : k < a + 32
    · rw [List.getElem?_append_left (by rw [List.length_map, List.length_range]; omega), List.getElem?_map, List.getElem?_range (by omega), decide_eq_true (by omega)]
      rfl
    · rw [List.getElem?_append_right (by rw [List.length_map, List.length_range]; omega), List.length_map, List.length_range, List.getElem?_replicate, if_pos (by omega), decide_eq_false (by omega)]
      rfl

/-- Bytes whose bits are others just where they are turned come to 0 only where none is turned. -/
theorem burst_sum (x y : List UInt8) (a which : Nat) (hl : y.length = x.length) (ha : a ≤ 8 * x.length)
    (hb : ∀ k, k < 8 * x.length → (bitsOf y)[k]? = (bitsOf x)[k]?.map fun b => b ^^ (decide (a ≤ k ∧ k < a + 32) && which.testBit (k - a))) (h0 : sumOf x = 0#32) :
    sumOf y = 0#32 ↔ ∀ i, i < 32 → a + i < 8 * x.length → which.testBit i = false := by
  have hx := bitsOf_length x
  have hy := bitsOf_length y
  have ht := turns_length (8 * x.length) a which ha
  have e : bitsOf y = List.zipWith (· ^^ ·) (bitsOf x) (turns (8 * x.length) a which) := by
    refine List.ext_getElem? fun k => ?_
    by_cases hk : k < 8 * x.length
    · rw [hb k hk, List.getElem?_zipWith, turns_get _ _ _ _ ha hk, List.getElem?_eq_getElem (by omega)]
      rfl
    · rw [List.getElem?_eq_none (by omega), List.getElem?_eq_none (by rw [List.length_zipWith]; omega)]
  have h1 : sumOf y = feed 0#32 (turns (8 * x.length) a which) := by
    unfold sumOf more at h0 ⊢
    have := feed_xor (bitsOf x) (turns (8 * x.length) a which) 0xFFFFFFFF#32 0#32 (by omega)
    rw [← e, h0, BitVec.xor_zero, BitVec.zero_xor] at this
    exact this
  rw [h1]
  unfold turns
  rw [feed_burst _ _ _ (by rw [List.length_map, List.length_range]; omega)]
  constructor
  · intro hh i hi hai
    exact hh _ (List.mem_map.2 ⟨i, List.mem_range.2 (by omega), rfl⟩)
  · intro hh b hbm
    obtain ⟨i, hi, rfl⟩ := List.mem_map.1 hbm
    have := List.mem_range.1 hi
    exact hh i (by omega) (by omega)

/-- One bit is turned. -/
theorem turn_bit (l : List UInt8) (k : Nat) (c : UInt8) (hc : l[k / 8]? = some c) (j : Nat) :
    (bitsOf (l.set (k / 8) (c ^^^ UInt8.ofNat (2 ^ (7 - k % 8)))))[j]? = (bitsOf l)[j]?.map fun b => b ^^ decide (j = k) := by
  have hk : k / 8 < l.length := (List.getElem?_eq_some_iff.1 hc).1
  have hp : (UInt8.ofNat (2 ^ (7 - k % 8))).toNat = 2 ^ (7 - k % 8) := by
    rw [UInt8.toNat_ofNat']
    exact Nat.mod_eq_of_lt (Nat.pow_lt_pow_right (by decide) (by omega))
  rw [bitsOf_get, bitsOf_get]
  by_cases h : j / 8 = k / 8
  · rw [h, List.getElem?_set_self hk, hc]
    simp only [Option.map_some, Option.some.injEq]
    rw [UInt8.toNat_xor, hp, Nat.testBit_xor, Nat.testBit_two_pow]
    congr 1
    exact decide_eq_decide.2 (by omega)
  · rw [List.getElem?_set_ne (fun e => h e.symm), decide_eq_false (by omega)]
    simp
    rfl

end Go.Proofs.Ytoagpaphghgkmaa

/-
  What was put is got; what acts leave as it was; a page of which bits are others. No program.
-/
namespace Go.Proofs.Ytoagpaphghgkmaa
open Go.RowKit Go.BigFrame

/-- These pages hold these bytes. -/
def Holds (s : St) : List Nat → List UInt8 → Prop
  | [], x => x = []
  | id :: t, x => x ≠ [] ∧ s[id]? = some (some (layP id (x.take 56))) ∧ Holds s t (x.drop 56)

theorem fill_fill (b : List UInt8) (h : b.length ≤ 56) : fill (fill b) = fill b := fill_full _ (fill_length b h)
theorem layP_fill (id : Nat) (b : List UInt8) (h : b.length ≤ 56) : layP id (fill b) = layP id b := by
  unfold layP
  rw [fill_fill b h]
theorem pageS_at {s : St} {id : Nat} {o : Option (List UInt8)} (h : s[id]? = some o) : pageS s (id : Int) = o := by
  unfold pageS
  rw [if_pos (by omega), Int.toNat_natCast, h]
  rfl
theorem read_laid {s : St} {id : Nat} {b : List UInt8} (h : s[id]? = some (some (layP id b))) (hb : b.length ≤ 56) : readS s (id : Int) = (fill b, 0) := by
  unfold readS
  rw [pageS_at h]
  simp only
  rw [Int.toNat_natCast, layP_take id b hb, layP_fill id b hb, if_pos rfl]
theorem needS_nil : needS ((0 : Nat) : Int) = 0 := rfl
theorem needS_step {n : Nat} (h : 0 < n) : needS (n : Int) = needS ((n - 56 : Nat) : Int) + 1 := by
  unfold needS
  by_cases h56 : n ≤ 56
  · rw [if_neg (by omega), if_pos (by omega)]
    omega
  · rw [if_neg (by omega), if_neg (by omega)]
    omega
theorem Holds.count {s : St} : ∀ {ids : List Nat} {x : List UInt8}, Holds s ids x → (ids.length : Int) = needS (x.length : Int)
  | [], x, h => by
    have h1 : x = [] := h
    rw [h1]; rfl
  | id :: t, x, h => by
    obtain ⟨h1, _, h3⟩ := h
    have ih := h3.count
    rw [List.length_drop] at ih
    rw [needS_step (List.length_pos_iff.2 h1), ← ih]
    simp
theorem Holds.reads {s : St} : ∀ {ids : List Nat} {x : List UInt8}, Holds s ids x → ∃ k, readsS s (ids.map fun (i : Nat) => (i : Int)) = (x ++ zeros k, 0)
  | [], x, h => ⟨0, by have h1 : x = [] := h; rw [h1]; rfl⟩
  | id :: t, x, h => by
    obtain ⟨h1, h2, h3⟩ := h
    obtain ⟨k, hk⟩ := h3.reads
    have hr := read_laid h2 (by rw [List.length_take]; omega)
    by_cases hx : x.length ≤ 56
    · have hd : x.drop 56 = [] := List.drop_of_length_le hx
      refine ⟨56 - x.length + k, ?_⟩
      simp only [List.map_cons]
      unfold readsS
      rw [hr, hk, hd]
      simp only [if_pos]
      rw [List.take_of_length_le hx]
      unfold fill zeros
      simp [List.replicate_append_replicate]
    · refine ⟨k, ?_⟩
      simp only [List.map_cons]
      unfold readsS
      rw [hr, hk]
      simp only [if_pos]
      rw [fill_full _ (by rw [List.length_take]; omega), ← List.append_assoc, List.take_append_drop]
/-- What pages hold is got. -/
theorem Holds.got {s : St} {ids : List Nat} {x : List UInt8} (h : Holds s ids x) : getS s (ids.map fun (i : Nat) => (i : Int)) (x.length : Int) = (x, 0) := by
  obtain ⟨k, hk⟩ := h.reads
  have hc := h.count
  unfold getS
  rw [if_neg (by rintro (h | h); omega; exact h (by rw [List.length_map]; exact hc)), hk]
  simp only
  rw [if_neg (by decide), Int.toNat_natCast, if_pos]
  · simp
  · simp [zeros]

theorem Holds.keep {s s' : St} : ∀ {ids : List Nat} {x : List UInt8}, Holds s ids x → (∀ i ∈ ids, ∀ q, s[i]? = some (some q) → s'[i]? = some (some q)) → Holds s' ids x
  | [], _, h, _ => h
  | _ :: _, _, ⟨h1, h2, h3⟩, hk => ⟨h1, hk _ (.head _) _ h2, h3.keep (fun i hi => hk i (.tail _ hi))⟩
theorem Holds.page {s : St} : ∀ {ids : List Nat} {x : List UInt8}, Holds s ids x → ∀ i ∈ ids, ∃ c, c.length ≤ 56 ∧ s[i]? = some (some (layP i c))
  | id :: t, x, ⟨_, h2, h3⟩, i, hi => by
    rcases List.mem_cons.1 hi with rfl | hi
    · exact ⟨_, by rw [List.length_take]; omega, h2⟩
    · exact h3.page i hi

theorem writesS_other : ∀ (ids : List Nat) (b : List UInt8) (s : St) (i : Nat), i ∉ ids → (writesS ids b s)[i]? = s[i]?
  | [], _, _, _, _ => rfl
  | id :: t, b, s, i, h => by
    unfold writesS
    rw [writesS_other t _ _ i (fun hh => h (.tail _ hh)), List.getElem?_set_ne (fun e => h (by rw [e]; exact .head _))]
theorem writesS_holds : ∀ (ids : List Nat) (x : List UInt8) (s : St), ids.Nodup → (∀ i ∈ ids, i < s.length) → (ids.length : Int) = needS (x.length : Int) → Holds (writesS ids x s) ids x
  | [], x, s, _, _, hn => by
    show x = []
    cases x with
    | nil => rfl
    | cons a t =>
      rw [needS_step (by simp)] at hn
      have : 0 ≤ needS (((a :: t).length - 56 : Nat) : Int) := by unfold needS; split <;> omega
      rw [List.length_nil] at hn
      omega
  | id :: t, x, s, hd, hl, hn => by
    have hx : x ≠ [] := by
      rintro rfl
      simp only [List.length_nil, List.length_cons] at hn
      rw [needS_nil] at hn
      omega
    have hd' := List.nodup_cons.1 hd
    rw [needS_step (List.length_pos_iff.2 hx)] at hn
    refine ⟨hx, ?_, ?_⟩
    · unfold writesS
      rw [writesS_other t _ _ id hd'.1, List.getElem?_set_self (hl id (.head _))]
    · unfold writesS
      exact writesS_holds t (x.drop 56) _ hd'.2 (fun i hi => by rw [List.length_set]; exact hl i (.tail _ hi)) (by rw [List.length_drop]; simp only [List.length_cons] at hn; omega)
theorem takeS_nodup : ∀ (n i : Nat) (s : St), (takeS i n s).1.Nodup
  | 0, i, s => by rw [takeS_zero]; exact List.nodup_nil
  | n + 1, i, [] => by rw [takeS_nil]; exact List.nodup_nil
  | n + 1, i, none :: t => by
    simp only [takeS]
    refine List.nodup_cons.2 ⟨fun h => ?_, takeS_nodup n (i + 1) t⟩
    have := (takeS_lt n (i + 1) t i h).1
    omega
  | n + 1, i, some q :: t => by
    simp only [takeS]
    exact takeS_nodup (n + 1) (i + 1) t
theorem takeS_free : ∀ (n i : Nat) (s : St), ∀ x ∈ (takeS i n s).1, s[x - i]? = some none
  | 0, i, s, x, h => by rw [takeS_zero] at h; cases h
  | n + 1, i, [], x, h => by rw [takeS_nil] at h; cases h
  | n + 1, i, none :: t, x, h => by
    simp only [takeS, List.mem_cons] at h
    rcases h with rfl | h
    · simp
    · have h1 := takeS_free n (i + 1) t x h
      have h2 := (takeS_lt n (i + 1) t x h).1
      rw [show x - i = (x - (i + 1)) + 1 by omega]
      exact h1
  | n + 1, i, some q :: t, x, h => by
    simp only [takeS] at h
    have h1 := takeS_free (n + 1) (i + 1) t x h
    have h2 := (takeS_lt (n + 1) (i + 1) t x h).1
    rw [show x - i = (x - (i + 1)) + 1 by omega]
    exact h1
theorem setsS_other : ∀ (ids : List Nat) (s : St) (i : Nat), i ∉ ids → (setsS ids s)[i]? = s[i]?
  | [], _, _, _ => rfl
  | id :: t, s, i, h => by
    show (setsS t (s.set id (some (layP id []))))[i]? = _
    rw [setsS_other t _ i (fun hh => h (.tail _ hh)), List.getElem?_set_ne (fun e => h (by rw [e]; exact .head _))]
theorem allocS_keeps {s : St} {n : Int} {i : Nat} {q : List UInt8} (h : s[i]? = some (some q)) : (allocS s n).2[i]? = some (some q) := by
  unfold allocS
  split
  · exact h
  · split
    · exact h
    · rw [takeS_all, setsS_other _ _ _ (fun hh => ?_)]
      · exact h
      · have := takeS_free _ _ _ i hh
        rw [Nat.sub_zero, h] at this
        cases this
theorem allocS_free {s : St} {n : Int} : ∀ x ∈ (allocS s n).1.1, s[x]? = some none := fun x hx => by
  unfold allocS at hx
  split at hx
  · cases hx
  · split at hx
    · cases hx
    · have := takeS_free _ _ _ x hx
      rwa [Nat.sub_zero] at this
theorem putS_keeps {s : St} {b : List UInt8} {i : Nat} {q : List UInt8} (h : s[i]? = some (some q)) : (putS s b).2[i]? = some (some q) := by
  unfold putS
  split
  · simp only
    rw [writesS_other _ _ _ _ (fun hh => ?_)]
    · exact allocS_keeps h
    · have := allocS_free i hh
      rw [h] at this
      cases this
  · exact h
theorem set_keeps {s : St} {id : Int} {i : Nat} {q : List UInt8} {o : Option (List UInt8)} (h : s[i]? = some (some q)) (hid : 0 ≤ id) (hne : id ≠ i) : (setS s id o)[i]? = some (some q) := by
  unfold setS
  rw [List.getElem?_set_ne (by omega)]
  exact h
theorem freeS_keeps {s : St} {id : Int} {i : Nat} {q : List UInt8} (h : s[i]? = some (some q)) (hne : id ≠ i) : (freeS s id).2[i]? = some (some q) := by
  unfold freeS
  cases hp : pageS s id with
  | none => exact h
  | some p => exact set_keeps h (pageS_lt hp).1 hne
theorem dropS_keeps : ∀ (ids : List Int) (s : St) {i : Nat} {q : List UInt8}, s[i]? = some (some q) → (∀ j ∈ ids, j ≠ (i : Int)) → (dropS s ids)[i]? = some (some q)
  | [], _, _, _, h, _ => h
  | id :: t, s, _, _, h, hj => by
    unfold dropS
    exact dropS_keeps t _ (freeS_keeps h (hj id (.head _))) (fun j hj' => hj j (.tail _ hj'))
/-- An act on others leaves a page as it is. -/
theorem actS_keeps {s : St} {a : Act5} {i : Nat} {q : List UInt8} (h : s[i]? = some (some q)) (h1 : 0 < a.k % 7 → a.k % 7 < 4 → a.at' ≠ (i : Int)) (h2 : ∀ j ∈ a.l, j ≠ (i : Int)) : (actS s a)[i]? = some (some q) := by
  unfold actS
  split
  · exact allocS_keeps h
  split
  · exact freeS_keeps h (h1 (by omega) (by omega))
  split
  · unfold writeS
    cases hp : pageS s a.at' with
    | none => exact h
    | some p =>
      simp only
      split
      · exact h
      · exact set_keeps h (pageS_lt hp).1 (h1 (by omega) (by omega))
  split
  · unfold flipS
    cases hp : pageS s a.at' with
    | none => exact h
    | some p =>
      simp only
      split
      · exact set_keeps h (pageS_lt hp).1 (h1 (by omega) (by omega))
      · exact h
  split
  · exact putS_keeps h
  split
  · exact h
  · exact dropS_keeps _ _ h h2

/-- What was put is held by its pages. -/
theorem putS_holds {s : St} {x : List UInt8} (h : (putS s x).1.2 = 0) : Holds (putS s x).2 (putS s x).1.1 x ∧ (putS s x).1.1.Nodup ∧ (∀ i ∈ (putS s x).1.1, s[i]? = some none) ∧ ((putS s x).1.1.length : Int) = needS (x.length : Int) := by
  have hs : (allocS s (needS x.length)).1.2 = 0 := by
    unfold putS at h
    by_cases he : (allocS s (needS x.length)).1.2 = 0
    · exact he
    · rw [if_neg he] at h
      exact h
  have hfit : ¬ needS (x.length : Int) < 0 ∧ ¬ (s.length : Int) - usedS s < needS (x.length : Int) := by
    unfold allocS at hs
    split at hs
    · cases hs
    · split at hs
      · cases hs
      · exact ⟨by assumption, by assumption⟩
  have hput : putS s x = (((allocS s (needS x.length)).1.1, 0), writesS (allocS s (needS x.length)).1.1 x (allocS s (needS x.length)).2) := by unfold putS; rw [if_pos hs]
  have hal := allocS_fits (s := s) (needS (x.length : Int)) hfit.1 hfit.2
  have hus := (List.countP_le_length : usedS s ≤ s.length)
  have hn : 0 ≤ needS (x.length : Int) := by unfold needS; split <;> omega
  have hcnt := takeS_count (needS (x.length : Int)).toNat 0 s (by omega)
  rw [hput, hal]
  simp only
  refine ⟨writesS_holds _ x _ (takeS_nodup _ _ _) (fun i hi => ?_) (by rw [hcnt]; omega), takeS_nodup _ _ _, fun i hi => ?_, by rw [hcnt]; omega⟩
  · rw [takeS_length]
    have := (takeS_lt _ _ _ i hi).2
    omega
  · have := takeS_free _ _ _ i hi
    rwa [Nat.sub_zero] at this

/-- A page of which bits are others is told. -/
theorem read_turned {s : St} {id : Nat} {c p : List UInt8} {a which : Nat} (h : s[id]? = some (some p)) (hc : c.length ≤ 56) (hl : p.length = 64) (_ha : a ≤ 512)
    (hb : ∀ k, k < 512 → (bitsOf p)[k]? = (bitsOf (layP id c))[k]?.map fun b => b ^^ (decide (a ≤ k ∧ k < a + 32) && which.testBit (k - a)))
    (ht : ∃ i, i < 32 ∧ a + i < 512 ∧ which.testBit i = true) : readS s (id : Int) = ([], 6) := by
  have hx := layP_length id c hc
  have hz : sumOf (layP id c) = 0#32 := sealed_zero _
  have hs := burst_sum (layP id c) p a which (by omega) (by omega) (fun k hk => hb k (by omega)) hz
  unfold readS
  rw [pageS_at h]
  simp only
  rw [Int.toNat_natCast, if_neg]
  intro he
  have h0 : sumOf p = 0#32 := by
    rw [← he]
    exact sealed_zero _
  obtain ⟨i, h1, h2, h3⟩ := ht
  have := hs.1 h0 i h1 (by omega)
  rw [h3] at this
  cases this
theorem reads_bad {s : St} : ∀ (ids : List Int), (∀ i ∈ ids, (readS s i).2 = 0 ∨ (readS s i).2 = 6) → (∃ i ∈ ids, (readS s i).2 = 6) → readsS s ids = ([], 6)
  | [], _, h => by obtain ⟨i, hi, _⟩ := h; cases hi
  | id :: t, h1, h2 => by
    unfold readsS
    rcases h1 id (.head _) with h | h
    · rw [if_pos h]
      have ih := reads_bad t (fun i hi => h1 i (.tail _ hi)) (by
        obtain ⟨i, hi, h6⟩ := h2
        rcases List.mem_cons.1 hi with rfl | hi
        · rw [h] at h6; cases h6
        · exact ⟨i, hi, h6⟩)
      rw [ih]
      rfl
    · rw [if_neg (by rw [h]; decide), h]
theorem get_bad {s : St} {ids : List Int} {n : Nat} (hn : (ids.length : Int) = needS (n : Int)) (h1 : ∀ i ∈ ids, (readS s i).2 = 0 ∨ (readS s i).2 = 6) (h2 : ∃ i ∈ ids, (readS s i).2 = 6) : getS s ids (n : Int) = ([], 6) := by
  unfold getS
  rw [if_neg (by rintro (h | h); omega; exact h hn), reads_bad ids h1 h2]
  rfl

end Go.Proofs.Ytoagpaphghgkmaa

/-
  The walk of the law PagesLeast.
-/
namespace Go.Proofs.Ytoagpaphghgkmaa
open Go.RowKit Go.BigFrame

/-- The list of the caller's own is changed. -/
theorem LInv.put {wr : World} {p b : Nat} {O : Nat → Prop} {s : St} (h1 : PSto O wr p s) (h2 : ¬ O b) (v : Value) (i : Nat) : PSto O (wr.setCell ⟨b, i, none⟩ v) p s :=
  h1.keep (fun x hx => Below.heap_setCell _ _ _ _ (fun e => h2 (by rw [← show x = b from e]; exact hx))) (by simp [World.setCell])

theorem takeS_used : ∀ (n i : Nat) (s : St), n + usedS s ≤ s.length → usedS (takeS i n s).2 = usedS s + n
  | 0, i, s, _ => by rw [takeS_zero]; rfl
  | n + 1, i, [], h => by simp at h
  | n + 1, i, none :: t, h => by
    have := takeS_used n (i + 1) t (by simp [usedS] at h ⊢; omega)
    simp only [takeS]
    unfold usedS at this ⊢
    rw [List.countP_cons, this, List.countP_cons]
    simp
    omega
  | n + 1, i, some q :: t, h => by
    have := takeS_used (n + 1) (i + 1) t (by simp [usedS] at h ⊢; omega)
    simp only [takeS]
    unfold usedS at this ⊢
    rw [List.countP_cons, this, List.countP_cons]
    simp
    omega
theorem used_none {s : St} {i : Nat} {q : List UInt8} (h : s[i]? = some (some q)) : usedS (s.set i none) + 1 = usedS s := by
  induction s generalizing i with
  | nil => simp at h
  | cons a t ih =>
    cases i with
    | zero =>
      simp only [List.getElem?_cons_zero, Option.some.injEq] at h
      subst h
      simp [usedS]
    | succ i =>
      simp only [List.getElem?_cons_succ] at h
      have := ih h
      simp only [usedS, List.set_cons_succ, List.countP_cons] at this ⊢
      omega
theorem used_le (s : St) : usedS s ≤ s.length := List.countP_le_length
theorem takeS_S2 (j n : Nat) (x : List UInt8) (t : St) : takeS j n (some x :: t) = ((takeS (j + 1) n t).1, some x :: (takeS (j + 1) n t).2) := by
  cases n with
  | zero => rw [takeS_zero, takeS_zero]
  | succ n => rfl

theorem bools_array (n : Nat) : ((List.replicate n false).map Value.bool).toArray = Array.replicate n (.bool false) := by simp
end Go.Proofs.Ytoagpaphghgkmaa

/-
  Values, their order, truths: over numbers and lists of bytes. No program.
-/
namespace Go.Proofs.Ytoagpaphghgkmaa
open Go.RowKit

/-- A value. -/
structure V where
  k : Int
  n : Int
  s : List UInt8
deriving DecidableEq

def V.zero : V := ⟨0, 0, []⟩
/-- As a value of the model. -/
def V.val (v : V) : Value := .agg #[.int .u8 v.k, .int .i64 v.n, .string ⟨v.s.toArray⟩]
def V.cells (v : V) : List Value := [.int .u8 v.k, .int .i64 v.n, .string ⟨v.s.toArray⟩]
/-- What may come in. -/
structure V.fits (v : V) : Prop where
  k0 : 0 ≤ v.k
  k1 : v.k ≤ 255
  lo : -9223372036854775808 ≤ v.n
  hi : v.n ≤ 9223372036854775807

/-- Which values may be. -/
def rightV (v : V) : Bool :=
  (decide (v.k = 0) && decide (v.n = 0) && decide (v.s = [])) || (decide (v.k = 1) && (decide (v.n = 0) || decide (v.n = 1)) && decide (v.s = [])) ||
  (decide (v.k = 2) && decide (v.s = [])) || (decide (v.k = 3) && decide (v.n = 0) && decide (v.s.length ≤ 1024))

theorem rightV_iff (v : V) : rightV v = true ↔ (v.k = 0 ∧ v.n = 0 ∧ v.s = []) ∨ (v.k = 1 ∧ (v.n = 0 ∨ v.n = 1) ∧ v.s = []) ∨ (v.k = 2 ∧ v.s = []) ∨ (v.k = 3 ∧ v.n = 0 ∧ v.s.length ≤ 1024) := by
  unfold rightV
  simp only [Bool.or_eq_true, Bool.and_eq_true, decide_eq_true_eq, and_assoc, or_assoc]

def cmpN (a b : Int) : Int := if a = b then 0 else if a < b then -1 else 1
def cmpB (a b : List UInt8) : Int := if a = b then 0 else if Op.bytesLess a b = true then -1 else 1
/-- How two values stand. -/
def cmpV (a b : V) : Int := if a.k = b.k then (if a.n = b.n then cmpB a.s b.s else cmpN a.n b.n) else cmpN a.k b.k

theorem cmpN_zero {a b : Int} : cmpN a b = 0 ↔ a = b := by unfold cmpN; split <;> (try split) <;> omega
theorem cmpN_neg (a b : Int) : cmpN b a = -cmpN a b := by unfold cmpN; repeat' split <;> try omega
theorem cmpN_three (a b : Int) : cmpN a b = -1 ∨ cmpN a b = 0 ∨ cmpN a b = 1 := by
  unfold cmpN
  split
  · exact .inr (.inl rfl)
  · split
    · exact .inl rfl
    · exact .inr (.inr rfl)
theorem cmpN_lt {a b : Int} : cmpN a b = -1 ↔ a < b := by
  unfold cmpN
  by_cases h : a = b
  · subst h; simp
  · rw [if_neg h]
    by_cases h2 : a < b
    · simp [h2]
    · simp [h2]

theorem less_iff (a b : List UInt8) : Op.bytesLess a b = true ↔ a < b := by rw [bytesLess_eq]; simp
theorem less_asymm {a b : List UInt8} (h : a < b) : ¬ b < a := List.not_lt.2 (List.le_of_lt h)

theorem cmpB_zero {a b : List UInt8} : cmpB a b = 0 ↔ a = b := by
  unfold cmpB
  by_cases h : a = b
  · simp [h]
  · rw [if_neg h]
    split <;> simp [h]
theorem cmpB_three (a b : List UInt8) : cmpB a b = -1 ∨ cmpB a b = 0 ∨ cmpB a b = 1 := by
  unfold cmpB
  split
  · exact .inr (.inl rfl)
  · split
    · exact .inl rfl
    · exact .inr (.inr rfl)
theorem cmpB_lt {a b : List UInt8} : cmpB a b = -1 ↔ a < b := by
  unfold cmpB
  by_cases h : a = b
  · subst h
    simp
  · rw [if_neg h]
    by_cases hl : Op.bytesLess a b = true
    · rw [if_pos hl]
      simp [(less_iff a b).1 hl]
    · rw [if_neg hl]
      simp only [less_iff] at hl
      simp [hl]
theorem less_total (a b : List UInt8) (h : a ≠ b) : a < b ∨ b < a := by
  rcases Classical.em (a < b) with h1 | h1
  · exact .inl h1
  · right
    rcases Classical.em (b < a) with h2 | h2
    · exact h2
    · exact absurd (List.le_antisymm (List.not_lt.1 h2) (List.not_lt.1 h1)) h
theorem cmpB_neg (a b : List UInt8) : cmpB b a = -cmpB a b := by
  by_cases h : a = b
  · subst h
    have := (cmpB_zero (a := a) (b := a)).2 rfl
    omega
  · rcases less_total a b h with hl | hl
    · have h1 := cmpB_lt.2 hl
      have h2 : cmpB b a ≠ -1 := fun e => less_asymm hl (cmpB_lt.1 e)
      have h3 : cmpB b a ≠ 0 := fun e => h (cmpB_zero.1 e).symm
      have := cmpB_three b a
      omega
    · have h1 := cmpB_lt.2 hl
      have h2 : cmpB a b ≠ -1 := fun e => less_asymm hl (cmpB_lt.1 e)
      have h3 : cmpB a b ≠ 0 := fun e => h (cmpB_zero.1 e)
      have := cmpB_three a b
      omega

theorem cmpV_zero {a b : V} : cmpV a b = 0 ↔ a = b := by
  obtain ⟨k, n, s⟩ := a
  obtain ⟨k', n', s'⟩ := b
  unfold cmpV
  simp only [V.mk.injEq]
  by_cases hk : k = k'
  · rw [if_pos hk]
    by_cases hn : n = n'
    · rw [if_pos hn, cmpB_zero]
      simp [hk, hn]
    · rw [if_neg hn, cmpN_zero]
      simp [hn]
  · rw [if_neg hk, cmpN_zero]
    simp [hk]
theorem cmpV_three (a b : V) : cmpV a b = -1 ∨ cmpV a b = 0 ∨ cmpV a b = 1 := by
  unfold cmpV
  split
  · split
    · exact cmpB_three _ _
    · exact cmpN_three _ _
  · exact cmpN_three _ _
theorem cmpV_neg (a b : V) : cmpV b a = -cmpV a b := by
  unfold cmpV
  by_cases hk : a.k = b.k
  · rw [if_pos hk, if_pos hk.symm]
    by_cases hn : a.n = b.n
    · rw [if_pos hn, if_pos hn.symm, cmpB_neg]
    · rw [if_neg hn, if_neg (Ne.symm hn), cmpN_neg]
  · rw [if_neg hk, if_neg (Ne.symm hk), cmpN_neg]
theorem cmpV_trans {a b c : V} (h1 : cmpV a b = -1) (h2 : cmpV b c = -1) : cmpV a c = -1 := by
  unfold cmpV at *
  by_cases hk : a.k = b.k
  · by_cases hk2 : b.k = c.k
    · rw [if_pos hk] at h1
      rw [if_pos hk2] at h2
      rw [if_pos (hk.trans hk2)]
      by_cases hn : a.n = b.n
      · by_cases hn2 : b.n = c.n
        · rw [if_pos hn] at h1
          rw [if_pos hn2] at h2
          rw [if_pos (hn.trans hn2)]
          exact cmpB_lt.2 (List.lt_trans (cmpB_lt.1 h1) (cmpB_lt.1 h2))
        · rw [if_neg hn2] at h2
          rw [if_neg (by rw [hn]; exact hn2), hn]
          exact h2
      · rw [if_neg hn] at h1
        have l1 := cmpN_lt.1 h1
        by_cases hn2 : b.n = c.n
        · rw [if_neg (by rw [← hn2]; exact hn), ← hn2]
          exact h1
        · rw [if_neg hn2] at h2
          have l2 := cmpN_lt.1 h2
          rw [if_neg (by omega)]
          exact cmpN_lt.2 (by omega)
    · rw [if_neg hk2] at h2
      rw [if_neg (by rw [hk]; exact hk2), hk]
      exact h2
  · rw [if_neg hk] at h1
    have l1 := cmpN_lt.1 h1
    by_cases hk2 : b.k = c.k
    · rw [if_neg (by rw [← hk2]; exact hk), ← hk2]
      exact h1
    · rw [if_neg hk2] at h2
      have l2 := cmpN_lt.1 h2
      rw [if_neg (by omega)]
      exact cmpN_lt.2 (by omega)

/-- The law of the order, of any three. -/
theorem cmpV_law (a b c : V) : (0 < cmpV a b ∨ 0 < cmpV b c) ∨ (cmpV a c ≤ 0 ∧ ((cmpV a b = 0 ∧ cmpV b c = 0) ∨ cmpV a c < 0)) := by
  rcases cmpV_three a b with h | h | h
  · rcases cmpV_three b c with h2 | h2 | h2
    · have := cmpV_trans h h2
      omega
    · have e := cmpV_zero.1 h2
      subst e
      omega
    · omega
  · have e := cmpV_zero.1 h
    subst e
    have := cmpV_three a c
    omega
  · omega

/-! ### Truths -/

def tr (a : Int) : Int := if 2 < a then 1 else a
theorem tr_three {a : Int} (h : 0 ≤ a) : tr a = 0 ∨ tr a = 1 ∨ tr a = 2 := by unfold tr; split <;> omega
def andT (a b : Int) : Int := min (tr a) (tr b)
def orT (a b : Int) : Int := max (tr a) (tr b)
def notT (a : Int) : Int := 2 - tr a

/-- What is known of two values. -/
def knownT (a b : V) (is : Bool) : Int := if a.k = 0 ∨ b.k = 0 then 1 else if is = true then 2 else 0
def equalT (a b : V) : Int := knownT a b (decide (cmpV a b = 0))
def lessT (a b : V) : Int := knownT a b (decide (cmpV a b < 0))

/-! ### Rows of values in memory -/

/-- A slice reads as these values. -/
def RdVals (w : World) (u : Value) (vs : List V) : Prop :=
  ∃ ao cap, u = .slice ao vs.length cap ∧ vs.length ≤ cap ∧ cap ≤ maxLen ∧ ∀ j, (hj : j < vs.length) → ∃ g off, ao = some ⟨g, off, none⟩ ∧ ∀ i y, (vs[j].cells)[i]? = some y → w.cell? ⟨g, off + j * 3 + i, none⟩ = some y

/-- A slice reads as these rows of values. -/
def RdRows (w : World) (u : Value) (rs : List (List V)) : Prop :=
  ∃ ao cap, u = .slice ao rs.length cap ∧ rs.length ≤ cap ∧ cap ≤ maxLen ∧ ∀ j, (hj : j < rs.length) → ∃ x v, ao = some x ∧ RdVals w v rs[j] ∧ w.cell? (x.add j) = some v

theorem RdVals.mono {w w' : World} {u : Value} {vs : List V} (h : RdVals w u vs) (hb : Below w.heap.size w w') : RdVals w' u vs := by
  obtain ⟨ao, cap, h1, h2, h3, h4⟩ := h
  refine ⟨ao, cap, h1, h2, h3, fun j hj => ?_⟩
  obtain ⟨g, off, h5, h6⟩ := h4 j hj
  exact ⟨g, off, h5, fun i y hy => (hb.cell (World.block_lt_of_cell? w _ (h6 i y hy))).trans (h6 i y hy)⟩
theorem RdRows.mono {w w' : World} {u : Value} {rs : List (List V)} (h : RdRows w u rs) (hb : Below w.heap.size w w') : RdRows w' u rs := by
  obtain ⟨ao, cap, h1, h2, h3, h4⟩ := h
  refine ⟨ao, cap, h1, h2, h3, fun j hj => ?_⟩
  obtain ⟨x, v, h5, h6, h7⟩ := h4 j hj
  exact ⟨x, v, h5, h6.mono hb, (hb.cell (World.block_lt_of_cell? w _ h7)).trans h7⟩
theorem RdVals.nil (w : World) : RdVals w (.slice none 0 0) [] := ⟨none, 0, rfl, Nat.le_refl _, by simp [maxLen], fun j hj => by simp at hj⟩
theorem RdRows.nil (w : World) : RdRows w (.slice none 0 0) [] := ⟨none, 0, rfl, Nat.le_refl _, by simp [maxLen], fun j hj => by simp at hj⟩
theorem RdVals.shape {w : World} {u : Value} {vs : List V} (h : RdVals w u vs) : ∃ a cap, u = .slice a vs.length cap ∧ vs.length ≤ cap ∧ cap ≤ maxLen := by
  obtain ⟨a, cap, h1, h2, h3, _⟩ := h
  exact ⟨a, cap, h1, h2, h3⟩
theorem RdRows.shape {w : World} {u : Value} {rs : List (List V)} (h : RdRows w u rs) : ∃ a cap, u = .slice a rs.length cap ∧ rs.length ≤ cap ∧ cap ≤ maxLen := by
  obtain ⟨a, cap, h1, h2, h3, _⟩ := h
  exact ⟨a, cap, h1, h2, h3⟩

/-- What a row counts for. -/
def rowCost (vs : List V) : Int := 8 + ((vs.map fun v => 8 + v.s.length).sum : Nat)
def rowsCost (rs : List (List V)) : Int := (rs.map rowCost).sum

end Go.Proofs.Ytoagpaphghgkmaa
