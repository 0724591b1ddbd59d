/-
  Texts of this proof, merged: LosersPlay, LosersSort, OpenLists, LosAsk.
-/
import Derived.Deep.CutBlock
import Derived.Test.YtodjaggihmcllaaZ11
import Derived.Test.YtodjaggihmcllaaZ4
/-
  The walk of the law LosersPlay.
-/
namespace Go.Proofs.Ytodjaggihmcllaa
open Go.RowKit Go.BigFrame

set_option maxRecDepth 100000 in
set_option maxHeartbeats 4000000 in
theorem losersPlay_walk (u : Value) (xs : List (List V)) (x : Value) (ks : List Ky) (v : Value) (ms : List (List V)) (w : World) (hu : RdRows w u xs) (hfx : ∀ r ∈ xs, ∀ v ∈ r, v.fits ∧ v.s.length ≤ maxLen) (hx : RdKs w x ks) (_hk : ∀ k ∈ ks, k.fits) (hv : RdRows w v ms) (hfm : ∀ r ∈ ms, ∀ v ∈ r, v.fits ∧ v.s.length ≤ maxLen) :
    Calls Try.prog 3 #[u, x, v] w fun e w' => e = .returned (.bool true) ∧ Below w.heap.size w w' := by
  obtain ⟨i1, hi1, hy0, hy1, hy2⟩ := info_parts Try.info_row
  obtain ⟨ua, uc, rfl, -, -⟩ := hu.shape
  obtain ⟨va, vc, rfl, -, -⟩ := hv.shape
  obtain ⟨fh, hfh, -, hu1, hu2, hat⟩ := hu.heads
  obtain ⟨gh, hgh, -, hv1, hv2, hbt⟩ := hv.heads
  have HAT := Lib.hid hat
  have HFH := Lib.hid hfh
  have HBT := Lib.hid hbt
  have HGH := Lib.hid hgh
  have HFX := Lib.hid hfx
  have HFM := Lib.hid hfm
  have HX := Lib.hid hx
  unfold maxLen at hu2 hv2
  obtain ⟨N, hN⟩ : ∃ N, xs.length = N := ⟨_, rfl⟩
  have HN := Lib.hid hN
  obtain ⟨M, hM⟩ : ∃ M, ms.length = M := ⟨_, rfl⟩
  have HM := Lib.hid hM
  rw [hN] at hu1 ⊢
  rw [hM] at hv1 ⊢
  clear hu hv hat hfh hbt hgh hfx hfm hx hN hM
  go_enter Try.func3, Try.ntmps3
  go_wp2_with fail
  refine (shown16_any w).mono ?_
  rintro e w0 ⟨rfl, x0⟩
  have H0 := Lib.hid x0
  clear x0
  go_upto_block 0 with fail
  go_cut [8, 9, 10] from 31 to 55 (fun xv _ _ W => ∃ (hs : List Value) (os : List (Option (List V))), W.ownsRow w.heap.size 26 1 xv hs.length hs ∧ HdI (fun k => xv.ownBlock ≠ some k) W hs os ∧ hs.length ≤ 18 ∧ GoodO os ∧ Below w.heap.size w W)
  case first =>
    go_wp2_with fail
    go_loopw [8, 9, 10, 31] (fun xv _ _ i wr => ∃ (j : Nat) (hs : List Value) (os : List (Option (List V))), j ≤ N ∧ i = .int .i64 j ∧ hs.length = j ∧ j ≤ 18 ∧ wr.ownsRow w.heap.size 26 1 xv hs.length hs ∧ HdI (fun k => xv.ownBlock ≠ some k) wr hs os ∧ GoodO os ∧ Below w.heap.size w wr) (fun _ _ _ i _ => N - (intOf i).toNat)
    case atStart => exact ⟨0, [], [], Nat.zero_le _, rfl, rfl, by omega, owns_nil _ _ _ _, HdI.nil _ _, fun r hr => by simp at hr, H0.out⟩
    case round =>
      obtain ⟨j, hs, os, hj, rfl, hlen, hj18, hxo, hhi, hgood, hb⟩ := hrel
      have HLEN := Lib.hid hlen
      have HXO := Lib.hid hxo
      have HHI := Lib.hid hhi
      have HGOOD := Lib.hid hgood
      have HB := Lib.hid hb
      clear hlen hxo hhi hgood hb
      by_cases hlt : j < N
      · have hjl : j < xs.length := by have := HN.out; omega
        obtain ⟨a1, a2, a3, ha, hra⟩ := HFH.out.get j hjl
        obtain ⟨g, off, rfl, c0⟩ := HAT.out j _ ha
        have y0 := (HB.out.cell (lt_of_cell c0)).trans c0
        have hfj := HFX.out xs[j] (List.getElem_mem hjl)
        have HROW := Lib.hid (row16_any _ xs[j] wr (hra.mono HB.out) hfj)
        have HOK := Lib.hid (fun (h : rowOk xs[j] = true) => rowOk_fit h hfj)
        have HRD := Lib.hid (hra.mono HB.out)
        have hal : a2 = xs[j].length := hra.plain.1
        have hac := hra.plain.2.2.1
        unfold maxLen at hac
        generalize xs[j] = r at HROW HOK HRD hal
        have HAL := Lib.hid hal
        clear ha hra c0 hfj hal
        obtain ⟨xa, xc, rfl, -, -⟩ := own_shapeP HXO.out
        by_cases h18 : 18 ≤ j
        · have d1 : decide ((j : Int) ≥ 18) = true := decide_eq_true (by omega)
          have d1' : decide (18 ≤ j) = true := decide_eq_true h18
          go_wp2_with fail
          go_meet
          exact ⟨hs, os, HXO.out, HHI.out, by have := HLEN.out; omega, HGOOD.out, HB.out⟩
        · have d1 : decide ((j : Int) ≥ 18) = false := decide_eq_false (by omega)
          have d1' : decide (18 ≤ j) = false := decide_eq_false h18
          generalize hR : rowOk r = R at HROW
          have HRR := Lib.hid hR
          clear hR
          go_wp2_with fail
          refine HROW.out.mono ?_
          rintro e w1 ⟨rfl, x1⟩
          have HX1 := Lib.hid x1
          clear x1
          cases R with
          | false =>
            go_wp2_with fail
            go_meet
            exact ⟨hs, os, owns_extS HXO.out HX1.out, HHI.out.ext HX1.out, by have := HLEN.out; omega, HGOOD.out, HB.out.trans (Below.of_ext HB.out.size HX1.out)⟩
          | true =>
            have HFIT := Lib.hid (HOK.out HRR.out)
            have HXO1 := Lib.hid (owns_extS HXO.out HX1.out)
            have HHI1 := Lib.hid (HHI.out.ext HX1.out)
            have HB1 := Lib.hid (HB.out.trans (Below.of_ext HB.out.size HX1.out))
            have HSZ1 := Lib.hid HB1.out.size
            have hshl : hs.length ≤ 10000000 := by have := HLEN.out; omega
            by_cases hz : 0 < a2
            · have d2 : decide ((a2 : Int) > 0) = true := decide_eq_true (by omega)
              have d2' : decide (0 < a2) = true := decide_eq_true hz
              have HRD1 := Lib.hid ((HRD.out.mono HX1.out).mono (ext_new w1 (.cells #[] 38)))
              have HRL := Lib.hid (show ([] : List V).length + r.length ≤ 100000000 from by have := HFIT.out.1; simp; omega)
              go_wp2_with (at_builtin; first
                | (refine wpList_append_valsN rfl (.tmp 47) (.tmp 48) 26 rfl Try.underlying26 w1.heap.size _ ([] : List V) _ r rfl (empty_vals w1) rfl HRD1.out HRL.out (by simp) ?_
                   intro v2 w2 hown2 hbel2 hon2 hnil2
                   rw [List.nil_append] at hown2
                   obtain ⟨p1, p2, hp⟩ := owns3_shape hown2
                   subst hp
                   have HX2 := Lib.hid (show Ext w1 w2 from (show Below w1.heap.size w1 _ from ext_new w1 _).trans hbel2)
                   have HXO2 := Lib.hid (owns_extS HXO1.out HX2.out)
                   have HV2 := Lib.hid (show OptI (fun k => (Value.slice xa hs.length xc).ownBlock ≠ some k) w2 (.slice p1 r.length p2) (some r) from ⟨OptV.of_own hown2 (fun e => by have := (hnil2.1 e).1; cases this), fun _ k hk e => by
                     have h1 := (hown2.lt k hk).1
                     have h2 := (HXO1.out.lt k e).2
                     omega⟩)
                   have HSZ2 := Lib.hid (Nat.le_trans HSZ1.out HX2.out.size)
                   clear hown2 hbel2 hon2 hnil2)
                | (refine wpList_append_one rfl (.tmp 46) (.tmp 50) 22 rfl w.heap.size 26 i1 (.slice none 0 0) 1 24 Try.underlying22 hi1 hy0 hy1 hy2 rfl (by decide) (by decide) _ hs.length hs [.slice p1 r.length p2] rfl HXO2.out rfl rfl (by simp [Value.oneCell']) hshl HSZ2.out ?_
                   intro v5 w5 h5a h5b h5c h5d
                   have HXO5 := Lib.hid h5a
                   have HW5 := Lib.hid h5b
                   have HY5 := Lib.hid h5c
                   have HG5 := Lib.hid h5d
                   clear h5a h5b h5c h5d))
              have HHI5 := Lib.hid (((((HHI1.out.ext HX2.out).snoc HV2.out).turn (X' := fun k => (Value.slice xa hs.length xc).ownBlock ≠ some k ∧ v5.ownBlock ≠ some k) (fun k hk h1 => ⟨h1, fun h2 => by
                rcases HG5.out with e | ⟨k', e, hle⟩
                · exact h1 (e ▸ h2)
                · rw [e] at h2
                  cases h2
                  omega⟩)).onlyS HY5.out (fun k hk => hk.1)).turn (X' := fun k => v5.ownBlock ≠ some k) (fun k _ hk => hk.2))
              have HB5 := Lib.hid ((HB1.out.trans (Below.of_ext HB1.out.size HX2.out)).trans HW5.out)
              go_roundw
              case rel => exact ⟨j + 1, hs ++ [.slice p1 r.length p2], os ++ [some r], by omega, by go_num, by rw [List.length_append, HLEN.out]; rfl, by omega, by rw [List.length_append]; exact HXO5.out, HHI5.out, HGOOD.out.snoc (fun r' e => by cases e; exact HFIT.out), HB5.out⟩
              case measure => simp [intOf]; omega
            · have d2 : decide ((a2 : Int) > 0) = false := decide_eq_false (by omega)
              have d2' : decide (0 < a2) = false := decide_eq_false hz
              go_wp2_with (at_builtin; go_must (refine wpList_append_one rfl (.tmp 52) (.tmp 53) 22 rfl w.heap.size 26 i1 (.slice none 0 0) 1 24 Try.underlying22 hi1 hy0 hy1 hy2 rfl (by decide) (by decide) _ hs.length hs [.slice none 0 0] rfl HXO1.out rfl rfl (by simp [Value.oneCell']) hshl HSZ1.out ?_); intro v5 w5 h5a h5b h5c h5d; have HXO5 := Lib.hid h5a; have HW5 := Lib.hid h5b; have HY5 := Lib.hid h5c; have HG5 := Lib.hid h5d; clear h5a h5b h5c h5d)
              have HHI5 := Lib.hid ((((HHI1.out.snoc (o := none) rfl).turn (X' := fun k => (Value.slice xa hs.length xc).ownBlock ≠ some k ∧ v5.ownBlock ≠ some k) (fun k hk h1 => ⟨h1, fun h2 => by
                rcases HG5.out with e | ⟨k', e, hle⟩
                · exact h1 (e ▸ h2)
                · rw [e] at h2
                  cases h2
                  omega⟩)).onlyS HY5.out (fun k hk => hk.1)).turn (X' := fun k => v5.ownBlock ≠ some k) (fun k _ hk => hk.2))
              have HB5 := Lib.hid (HB1.out.trans HW5.out)
              go_roundw
              case rel => exact ⟨j + 1, hs ++ [.slice none 0 0], os ++ [none], by omega, by go_num, by rw [List.length_append, HLEN.out]; rfl, by omega, by rw [List.length_append]; exact HXO5.out, HHI5.out, HGOOD.out.snoc (fun r' e => by cases e), HB5.out⟩
              case measure => simp [intOf]; omega
      · go_wp2_with fail
        go_meet
        exact ⟨hs, os, HXO.out, HHI.out, by have := HLEN.out; omega, HGOOD.out, HB.out⟩
  case rest =>
  obtain ⟨hs, os, hxo, hhi, hhl, hgood, hb⟩ := hcut
  have HXO := Lib.hid hxo
  have HHI := Lib.hid hhi
  have HGOOD := Lib.hid hgood
  have HB := Lib.hid hb
  obtain ⟨xa, xc, rfl, hxc1, hxc2⟩ := own_shapeP HXO.out
  unfold maxLen at hxc2
  clear hxo hhi hgood hb
  go_wp2_with fail
  refine (some16_any _ ks wc (HX.out.mono HB.out)).mono ?_
  rintro e w2 ⟨⟨v2, rfl, k2⟩, rfl⟩
  have HK := Lib.hid k2
  clear k2
  have hkl : (ks.take 10).length ≤ 1000000 := by rw [List.length_take]; omega
  have HKL := Lib.hid hkl
  clear hkl
  generalize ks.take 10 = kk at HK HKL
  have HOL := Lib.hid HHI.out.1
  have hol : os.length ≤ 18 := by rw [← HOL.out]; exact hhl
  go_wp2_with fail
  refine (pNew16_any _ v2 hs os kk w2 w2 (Ext.keeps.refl _) (RdV.of_owns HXO.out) HHI.out.opt HK.out HKL.out (HGOOD.out.fit.le (by decide)) (fun r hr => Nat.le_trans (HGOOD.out r hr).1 (by decide)) (by omega)).mono ?_
  rintro e wn ⟨⟨h16, rfl⟩ | ⟨h16, p, O, n, rfl, ht, -, -, hO⟩, xn⟩
  · have d1 : decide ((hs.length : Int) > 16) = true := decide_eq_true (by have := HOL.out; omega)
    have d1' : decide (16 < hs.length) = true := decide_eq_true (by have := HOL.out; omega)
    have HFIN := Lib.hid (show Below w.heap.size w wn from HB.out.trans (Below.of_ext HB.out.size xn))
    clear xn
    go_wp2_with fail
    go_ret
    exact ⟨rfl, HFIN.out⟩
  have d1 : decide ((hs.length : Int) > 16) = false := decide_eq_false (by have := HOL.out; omega)
  have d1' : decide (16 < hs.length) = false := decide_eq_false (by have := HOL.out; omega)
  have HT := Lib.hid (TW.of_new (X := fun b => b < w2.heap.size) ht hO (fun _ h => h))
  have HXN := Lib.hid xn
  have HHN := Lib.hid ((HHI.out.turn (X' := fun k => k < w2.heap.size) (fun k hk _ => hk)).ext xn)
  have HRX := Lib.hid (((RdV.of_owns HXO.out).mono xn).mono (ext_new wn (.cells #[] 26)))
  have HONE := Lib.hid HHI.out.opt.oneCell
  clear ht hO xn HXO HHI
  go_upto_block 2 with (at_builtin; go_must (refine wpList_append_rdA rfl (.tmp 82) (.tmp 83) 22 rfl wn.heap.size 26 i1 (.slice none 0 0) 24 Try.underlying22 hi1 hy0 hy1 hy2 rfl _ 0 [] rfl (empty_rows wn) _ hs rfl HRX.out HONE.out (by unfold maxLen; omega) (by omega) (by simp) ?_); intro wv W2 h2a h2b h2c h2d; have HWO := Lib.hid h2a; have HW2 := Lib.hid h2b; clear h2a h2b h2c h2d)
  have HWO2 := HWO.out
  rw [List.nil_append, Nat.zero_add] at HWO2
  replace HWO := Lib.hid HWO2
  clear HWO2
  obtain ⟨wa, wcp, rfl, -, -⟩ := own_shapeP HWO.out
  obtain ⟨NW, hNW⟩ : ∃ NW, hs.length = NW := ⟨_, rfl⟩
  have HNW := Lib.hid hNW
  rw [hNW] at HWO ⊢
  have hNW18 : NW ≤ 18 := by omega
  have HX2 := Lib.hid (show Ext wn W2 from (show Below wn.heap.size wn _ from ext_new wn _).trans HW2.out)
  have HT2 := Lib.hid (HT.out.more HX2.out (Y := fun b => b < w2.heap.size ∨ (Value.slice wa NW wcp).ownBlock = some b) (fun b hb => hb.imp id fun h => (HWO.out.lt b h).1))
  have HHI2 := Lib.hid ((HHN.out.ext HX2.out).turn (X' := fun k => (k < w2.heap.size ∨ (Value.slice wa NW wcp).ownBlock = some k) ∧ (Value.slice wa NW wcp).ownBlock ≠ some k) (fun k _ hk => ⟨.inl hk, fun e => by
    have h1 := (HWO.out.lt k e).1
    have h2 := HXN.out.size
    omega⟩))
  have HB2 := Lib.hid (show Below w2.heap.size w2 W2 from Ext.trans HXN.out HX2.out)
  have HXL := Lib.hid (show ∀ b, (b < w2.heap.size ∨ (Value.slice wa NW wcp).ownBlock = some b) → b < W2.heap.size from fun b hb => by
    rcases hb with hb | hb
    · have := HB2.out.size; omega
    · exact (HWO.out.lt b hb).2)
  have HWB := Lib.hid (show ∀ k, (Value.slice wa NW wcp).ownBlock = some k → w2.heap.size ≤ k from fun k hk => by
    have h1 := (HWO.out.lt k hk).1
    have h2 := HXN.out.size
    omega)
  have HHS := Lib.hid hNW
  clear HT HHN HRX HONE HW2 hNW
  go_cut [15, 16, 17, 18, 19, 20, 21, 22, 23] from 87 to 157 (fun _ _ _ _ _ _ _ _ _ W => ∃ (X : Nat → Prop) (os : List (Option (List V))) (hs : List Value) (n : Int), TW w2.heap.size X W p os kk n ∧ (∀ b, X b → b < W.heap.size) ∧ (∀ b, (Value.slice wa NW wcp).ownBlock = some b → X b) ∧ W.ownsRow wn.heap.size 26 1 (.slice wa NW wcp) NW hs ∧ HdI (fun k => X k ∧ (Value.slice wa NW wcp).ownBlock ≠ some k) W hs os ∧ GoodO os ∧ Below w2.heap.size w2 W)
  case first =>
    go_wp2_with fail
    go_loopw [15, 16, 17, 18, 19, 20, 21, 22, 23, 87] (fun _ _ _ _ _ _ _ _ _ i wr => ∃ (c : Nat) (X : Nat → Prop) (os : List (Option (List V))) (hs : List Value) (n : Int), c ≤ M ∧ i = .int .i64 c ∧ TW w2.heap.size X wr p os kk n ∧ (∀ b, X b → b < wr.heap.size) ∧ (∀ b, (Value.slice wa NW wcp).ownBlock = some b → X b) ∧ wr.ownsRow wn.heap.size 26 1 (.slice wa NW wcp) NW hs ∧ HdI (fun k => X k ∧ (Value.slice wa NW wcp).ownBlock ≠ some k) wr hs os ∧ GoodO os ∧ Below w2.heap.size w2 wr) (fun _ _ _ _ _ _ _ _ _ i _ => M - (intOf i).toNat)
    case atStart => exact ⟨0, _, os, hs, n, Nat.zero_le _, rfl, HT2.out, HXL.out, fun b hb => .inr hb, HWO.out, HHI2.out, HGOOD.out, HB2.out⟩
    case round =>
      clear HT2 HXL HWO HHI2 HGOOD HB2 HOL hol h16 d1 d1' hhl HNW HHS
      obtain ⟨c, X, os, hs, n, hc, rfl, htw, hX, hXw, hwo, hhi, hgood, hbr⟩ := hrel
      have HTW := Lib.hid htw
      have HXL := Lib.hid hX
      have HXW := Lib.hid hXw
      have HWO := Lib.hid hwo
      have HHI := Lib.hid hhi
      have HGOOD := Lib.hid hgood
      have HBR := Lib.hid hbr
      clear htw hX hXw hwo hhi hgood hbr
      by_cases hlt : c < M
      · have hcl : c < ms.length := by have := HM.out; omega
        obtain ⟨a1, a2, a3, ha, hra⟩ := HGH.out.get c hcl
        obtain ⟨g, off, rfl, c0⟩ := HBT.out c _ ha
        have HBW := Lib.hid (HB.out.trans (show Below w.heap.size w2 wr from Below.of_ext HB.out.size HBR.out))
        have y0 := (HBW.out.cell (lt_of_cell c0)).trans c0
        have hfj := HFM.out ms[c] (List.getElem_mem hcl)
        have HROW := Lib.hid (row16_any _ ms[c] wr (hra.mono HBW.out) hfj)
        have HOK := Lib.hid (fun (h : rowOk ms[c] = true) => rowOk_fit h hfj)
        have HRD := Lib.hid hra
        have hal : a2 = ms[c].length := hra.plain.1
        have hac := hra.plain.2.2.1
        unfold maxLen at hac
        generalize ms[c] = r at HROW HOK HRD hal
        have HAL := Lib.hid hal
        clear ha hra c0 hfj hal HBW
        by_cases h60 : 60 ≤ c
        · have d1 : decide ((c : Int) ≥ 60) = true := decide_eq_true (by omega)
          have d1' : decide (60 ≤ c) = true := decide_eq_true h60
          go_wp2_with fail
          go_meet
          exact ⟨X, os, hs, n, HTW.out, HXL.out, HXW.out, HWO.out, HHI.out, HGOOD.out, HBR.out⟩
        · have d1 : decide ((c : Int) ≥ 60) = false := decide_eq_false (by omega)
          have d1' : decide (60 ≤ c) = false := decide_eq_false h60
          generalize hR : rowOk r = R at HROW
          have HRR := Lib.hid hR
          clear hR
          go_wp2_with fail
          refine HROW.out.mono ?_
          rintro e w1 ⟨rfl, x1⟩
          have HTW1 := Lib.hid (HTW.out.ext x1)
          have HXL1 := Lib.hid (show ∀ b, X b → b < w1.heap.size from fun b hb => Nat.lt_of_lt_of_le (HXL.out b hb) x1.size)
          have HWO1 := Lib.hid (owns_extS HWO.out x1)
          have HHI1 := Lib.hid (HHI.out.ext x1)
          have HBR1 := Lib.hid (HBR.out.trans (Below.of_ext HBR.out.size x1))
          clear x1 HTW HXL HWO HHI HBR HROW
          cases R with
          | false =>
            go_wp2_with fail
            go_meet
            exact ⟨X, os, hs, n, HTW1.out, HXL1.out, HXW.out, HWO1.out, HHI1.out, HGOOD.out, HBR1.out⟩
          | true =>
            have HFIT := Lib.hid (HOK.out HRR.out)
            clear HOK HRR
            go_wp2_with fail
            refine (next16_any w2.heap.size X p os kk n w1 HTW1.out HXL1.out).mono ?_
            have HREF := Lib.hid (fun W u (hu : RdV W u hs) (hh : HdOpt W hs os) (hx : RdKs W v2 kk) => refNext16_any u v2 hs os kk 200 W hu hh hx HGOOD.out.fit)
            obtain ⟨I, hI⟩ : ∃ I, nextI kk os = I := ⟨_, rfl⟩
            obtain ⟨Q, hQ⟩ : ∃ Q, nextB kk os = Q := ⟨_, rfl⟩
            rw [hI, hQ] at HREF
            rw [hI, hQ]
            have HI := Lib.hid hI
            have HQ := Lib.hid hQ
            clear hI hQ
            rintro e w3 ⟨rfl, ht3, ho3⟩
            have HTW3 := Lib.hid ht3
            have HXL3 := Lib.hid (show ∀ b, X b → b < w3.heap.size from fun b hb => Nat.lt_of_lt_of_le (HXL1.out b hb) ho3.size)
            have HWO3 := Lib.hid (owns_others HWO1.out ho3 (fun k hk h => h.2 (HXW.out k hk)))
            have HHI3 := Lib.hid (HHI1.out.onlyS ho3 (fun k hk h => h.2 hk.1))
            have HBR3 := Lib.hid (HBR1.out.trans (ho3.below HBR1.out.size (fun b hb => hb.1)))
            clear ht3 ho3 HTW1 HXL1 HWO1 HHI1 HBR1
            go_wp2_with fail
            refine (HREF.out w3 _ (RdV.of_owns HWO3.out) HHI3.out.opt (HK.out.mono HBR3.out)).mono ?_
            rintro e w4 ⟨rfl, x4⟩
            have HTW4 := Lib.hid (HTW3.out.ext x4)
            have HXL4 := Lib.hid (show ∀ b, X b → b < w4.heap.size from fun b hb => Nat.lt_of_lt_of_le (HXL3.out b hb) x4.size)
            have HWO4 := Lib.hid (owns_extS HWO3.out x4)
            have HHI4 := Lib.hid (HHI3.out.ext x4)
            have HBR4 := Lib.hid (HBR3.out.trans (Below.of_ext HBR3.out.size x4))
            have HRD4 := Lib.hid (HRD.out.mono (HB.out.trans (show Below w.heap.size w2 w4 from Below.of_ext HB.out.size HBR4.out)))
            clear x4 HTW3 HXL3 HWO3 HHI3 HBR3 HRD HREF
            have HRL := Lib.hid (show ([] : List V).length + r.length ≤ 100000000 from by have := HFIT.out.1; simp; omega)
            have HRDA := Lib.hid (HRD4.out.mono (ext_new w4 (.cells #[] 38)))
            go_upto_if 112 with fail
            go_cut [21] from 110 to 115 (fun nv W => ∃ o, NX w4.heap.size W nv o ∧ Ext w4 W)
            case first =>
              by_cases hz : 0 < a2
              · have d2 : decide ((a2 : Int) > 0) = true := decide_eq_true (by omega)
                have d2' : decide (0 < a2) = true := decide_eq_true hz
                have HRNE := Lib.hid (show r ≠ [] from fun e => by have := HAL.out; rw [e] at this; simp at this; omega)
                go_wp2_with (at_builtin; go_must (refine wpList_append_valsN rfl (.tmp 113) (.tmp 114) 26 rfl Try.underlying26 w4.heap.size _ ([] : List V) _ r rfl (empty_vals w4) rfl HRDA.out HRL.out (by simp) ?_); intro v5 w5 hown5 hbel5 hon5 hnil5; have HX5 := Lib.hid (show Ext w4 w5 from (show Below w4.heap.size w4 _ from ext_new w4 _).trans hbel5); have HN5 := Lib.hid (show v5 ≠ .slice none 0 0 from fun e => by have := (hnil5.1 e).1; cases this); have HO5 := Lib.hid hown5; clear hown5 hbel5 hon5 hnil5)
                go_meet
                have h5 := HO5.out
                rw [List.nil_append] at h5
                exact ⟨some r, ⟨⟨h5, HN5.out⟩, HRNE.out, HFIT.out⟩, HX5.out⟩
              · have d2 : decide ((a2 : Int) > 0) = false := decide_eq_false (by omega)
                have d2' : decide (0 < a2) = false := decide_eq_false hz
                go_wp2_with fail
                go_meet
                exact ⟨none, rfl, Ext.keeps.refl _⟩
            case rest =>
            obtain ⟨o, hnx, x5⟩ := hcut
            generalize wc = w5 at hnx x5 ⊢
            obtain ⟨na, nc, e21⟩ := hnx.shape
            subst e21
            obtain ⟨NL, hNL⟩ : ∃ NL, (o.getD []).length = NL := ⟨_, rfl⟩
            have HNL := Lib.hid hNL
            rw [hNL] at hnx ⊢
            have HNX := Lib.hid hnx
            have HTW5 := Lib.hid (HTW4.out.more x5 (Y := fun b => X b ∨ (Value.slice na NL nc).ownBlock = some b) (fun b hb => hb.imp id fun h => (HNX.out.lt h).1))
            have HXL5 := Lib.hid (show ∀ b, (X b ∨ (Value.slice na NL nc).ownBlock = some b) → b < w5.heap.size from fun b hb => by
              rcases hb with hb | hb
              · exact Nat.lt_of_lt_of_le (HXL4.out b hb) x5.size
              · exact (HNX.out.lt hb).2)
            have HWO5 := Lib.hid (owns_extS HWO4.out x5)
            have HHI5 := Lib.hid (HHI4.out.ext x5)
            have HBR5 := Lib.hid (HBR4.out.trans (Below.of_ext HBR4.out.size x5))
            clear hNL hnx x5 HTW4 HWO4 HHI4 HRD4 HRDA HRL HFIT HAL
            go_wp2_with fail
            refine (put16_any w2.heap.size (fun b => X b ∨ (Value.slice na NL nc).ownBlock = some b) p os kk n _ o w5 HTW5.out HNX.out.opt (fun r hr => ⟨(HNX.out.fit r hr).2.le (by decide), Nat.le_trans (HNX.out.fit r hr).1 (by decide)⟩) HXL5.out).mono ?_
            rw [HQ.out]
            obtain ⟨E, hE⟩ : ∃ E : Int, (if Q = true then 0 else 2) = E := ⟨_, rfl⟩
            rw [hE]
            have HEE := Lib.hid hE
            clear hE
            rintro e w6 ⟨rfl, ho6, n', ht6, -, -⟩
            have HTW6 := Lib.hid ht6
            have HSZ6 := Lib.hid ho6.size
            have HWO6 := Lib.hid (owns_others HWO5.out ho6 (fun k hk h => h.2 (.inl (HXW.out k hk))))
            have HHI6 := Lib.hid (HHI5.out.onlyS ho6 (fun k hk h => h.2 (.inl hk.1)))
            have HBR6 := Lib.hid (HBR5.out.trans (ho6.below HBR5.out.size (fun b hb => hb.1)))
            have HSP6 := Lib.hid (show Spl w4.heap.size w6 (.slice na NL nc) NL from by
              have h := HNX.out.spl
              rw [HNL.out] at h
              exact h.onlyS ho6 (fun k hk h => h.2 (.inr hk)))
            have HRN6 := Lib.hid (show RdVals w6 (.slice na NL nc) (o.getD []) from HNX.out.opt.rd.onlyS ho6 (fun _ k hk h => h.2 (.inr hk)))
            have HOFIT := Lib.hid HNX.out.fit
            have HONE := Lib.hid (show ∀ r, o = some r → r ≠ [] from fun r e => by
              have h := HNX.out
              rw [e] at h
              exact h.2.1)
            have HNB := Lib.hid (show ∀ b, (Value.slice na NL nc).ownBlock = some b → w4.heap.size ≤ b ∧ b < w5.heap.size from fun b hb => HNX.out.lt hb)
            have HSX := Lib.hid (show ∀ b, X b → b < w6.heap.size ∧ (Value.slice na NL nc).ownBlock ≠ some b from fun b hb => ⟨Nat.lt_of_lt_of_le (HXL5.out b (.inl hb)) ho6.size, fun e => by
              have h1 := (HNX.out.lt e).1
              have h2 := HXL4.out b hb
              omega⟩)
            clear ht6 ho6 HTW5 HXL5 HWO5 HHI5 HBR5 HNX
            go_upto_region 28 with fail
            go_cut [140] from 119 to 139 (fun t W => t = .bool false ∧ W = w6)
            case first =>
              have q0 : (I != I) = false := bne_self_eq_false _
              cases Q with
              | false =>
                obtain rfl : E = 2 := by have := HEE.out; simpa using this.symm
                go_wp2_with fail
                go_meet
                exact ⟨rfl, rfl⟩
              | true =>
                obtain rfl : E = 0 := by have := HEE.out; simpa using this.symm
                go_wp2_with fail
                go_meet
                exact ⟨rfl, rfl⟩
            case rest =>
            obtain ⟨rfl, rfl⟩ := hcut
            go_upto_if 141 with fail
            go_cut [] from 141 to 146 (fun W => ∃ (Xn : Nat → Prop) (hs9 : List Value), TW w2.heap.size (fun b => Xn b ∨ (Value.slice na NL nc).ownBlock = some b) W p (putS kk os o) kk n' ∧ (∀ b, Xn b → b < W.heap.size ∧ (Value.slice na NL nc).ownBlock ≠ some b) ∧ (∀ b, (Value.slice wa NW wcp).ownBlock = some b → Xn b) ∧ W.ownsRow wn.heap.size 26 1 (.slice wa NW wcp) NW hs9 ∧ HdI (fun k => Xn k ∧ (Value.slice wa NW wcp).ownBlock ≠ some k) W hs9 (putS kk os o) ∧ Spl w4.heap.size W (.slice na NL nc) NL ∧ Below w2.heap.size w2 W)
            case first =>
              cases Q with
              | false =>
                go_wp2_with fail
                go_meet
                exact ⟨X, hs, HTW6.out, HSX.out, HXW.out, HWO6.out, by rw [putS_none _ HQ.out]; exact HHI6.out, HSP6.out, HBR6.out⟩
              | true =>
                obtain ⟨i, r0, hIi, hoi, hns⟩ := nextI_range HQ.out
                obtain rfl : I = (i : Int) := HI.out.symm.trans hIi
                have HNS := Lib.hid hns
                have hiN : i < NW := by
                  have h1 := (List.getElem?_eq_some_iff.1 hoi).1
                  have h2 := HHI6.out.1
                  have h3 := HWO6.out.1
                  omega
                obtain ⟨g8, hg8, -⟩ := own_at HWO6.out hiN
                subst hg8
                have HNLB := Lib.hid (show ([] : List V).length + (o.getD []).length ≤ 100000000 from by
                  have h1 := HNL.out
                  cases o with
                  | none => simp
                  | some r' => have := (HOFIT.out r' rfl).1; simp; omega)
                clear hIi hoi hns
                go_wp2_with (at_builtin; go_must (refine wpList_append_valsN rfl (.const (.slice none 0 0)) (.tmp 144) 26 rfl Try.underlying26 wc.heap.size (.slice none 0 0) ([] : List V) _ (o.getD []) rfl (owns_nil _ _ _ _) rfl HRN6.out HNLB.out (Nat.le_refl _) ?_); intro v8 w8 hown8 hbel8 hon8 hnil8; rw [List.nil_append] at hown8; obtain ⟨p8, c8, e8⟩ := owns3_shape hown8; subst e8; have HX8 := Lib.hid (show Ext wc w8 from hbel8); have HO8 := Lib.hid hown8; have HN8 := Lib.hid hnil8; obtain ⟨q8, cG⟩ : ∃ q, w8.cell? ⟨g8, i, none⟩ = some q := ⟨_, ((owns_extS HWO6.out hbel8).cellAt i (by omega)).trans (List.getElem?_eq_getElem (by have := HWO6.out.1; omega))⟩; have fG := (owns_extS HWO6.out hbel8).frozenAt i; have HST := Lib.hid (((owns_extS HWO6.out hbel8).stored i (.slice p8 (o.getD []).length c8)).1); clear hown8 hbel8 hon8 hnil8)
                have hXg : X g8 := HXW.out g8 rfl
                have hg6 := (HSX.out g8 hXg).1
                have hBg : w2.heap.size ≤ g8 := HWB.out g8 rfl
                have HOS := Lib.hid (only_set g8 i w8 (.slice p8 (o.getD []).length c8))
                have HV8 := Lib.hid (show OptI (fun k => (X k ∨ (Value.slice p8 (o.getD []).length c8).ownBlock = some k) ∧ (Value.slice (some ⟨g8, 0, none⟩) NW wcp).ownBlock ≠ some k) w8 (.slice p8 (o.getD []).length c8) o from by
                  have h1 := HO8.out
                  have h2 := HN8.out
                  cases o with
                  | none => exact h2.2 (by simp)
                  | some r' =>
                    have hne : r' ≠ [] := HONE.out r' rfl
                    refine ⟨OptV.of_own h1 (fun e => hne (by have := h2.1 e; simpa using this)), fun _ k hk => ⟨.inr hk, fun e => ?_⟩⟩
                    have h3 := (h1.lt k hk).1
                    have h4 : g8 = k := Option.some.inj e
                    have h5 := hg6
                    rw [h4] at h5
                    exact absurd h3 (Nat.not_le.2 h5))
                go_meet
                refine ⟨fun b => X b ∨ (Value.slice p8 (o.getD []).length c8).ownBlock = some b, hs.set i (.slice p8 (o.getD []).length c8), ?_, ?_, fun b hb => .inl (HXW.out b hb), HST.out, ?_, ?_, ?_⟩
                · refine (HTW6.out.more HX8.out (Y := fun b => (X b ∨ (Value.slice p8 (o.getD []).length c8).ownBlock = some b) ∨ (Value.slice na NL nc).ownBlock = some b) ?_).wrote HOS.out (fun b hb => by subst hb; exact .inl (.inl hXg)) (fun b hb => by subst hb; exact hBg)
                  intro b hb
                  rcases hb with (hb | hb) | hb
                  · exact .inl (.inl hb)
                  · exact .inr (HO8.out.lt b hb).1
                  · exact .inl (.inr hb)
                · intro b hb
                  have hs8 := HOS.out.size
                  have hs6 := HX8.out.size
                  rcases hb with hb | hb
                  · exact ⟨by have := (HSX.out b hb).1; omega, (HSX.out b hb).2⟩
                  · have h1 := HO8.out.lt b hb
                    refine ⟨by omega, fun e => ?_⟩
                    have h2 := (HNB.out b e).2
                    have h3 := HSZ6.out
                    omega
                · rw [putS_some _ HNS.out]
                  exact ((((HHI6.out.ext HX8.out).turn (fun k _ hk => ⟨.inl hk.1, hk.2⟩)).set i HV8.out).onlyS HOS.out (fun k hk e => hk.2 (e ▸ rfl)))
                · exact (HSP6.out.onlyS (Y := fun _ => False) (OnlyS.of_ext HX8.out) (fun _ _ h => h)).onlyS HOS.out (fun k hk e => (HSX.out g8 hXg).2 (e ▸ hk))
                · exact (HBR6.out.trans (Below.of_ext HBR6.out.size HX8.out)).trans (HOS.out.below (Nat.le_trans HBR6.out.size HX8.out.size) (fun b hb => by subst hb; exact hBg))
            case rest =>
            obtain ⟨Xn, hs9, ht9, hxn9, hxw9, hwo9, hhi9, hsp9, hbr9⟩ := hcut
            have HGOOD9 := Lib.hid (show GoodO (putS kk os o) from by
              unfold putS
              split
              · exact HGOOD.out.set HOFIT.out _
              · exact HGOOD.out)
            generalize putS kk os o = os9 at ht9 hhi9 HGOOD9
            generalize wc = w9 at ht9 hxn9 hwo9 hhi9 hsp9 hbr9 ⊢
            have HT9 := Lib.hid ht9
            have HXN9 := Lib.hid hxn9
            have HXW9 := Lib.hid hxw9
            have HWO9 := Lib.hid hwo9
            have HHI9 := Lib.hid hhi9
            have HSP9 := Lib.hid hsp9
            have HBR9 := Lib.hid hbr9
            clear ht9 hxn9 hxw9 hwo9 hhi9 hsp9 hbr9 HTW6 HWO6 HHI6 HBR6 HSP6 HRN6 HONE HSX HOFIT HGOOD HXW HXL4 HI HQ HEE HSZ6 HNL
            have hnc0 := hlt
            go_wp2_with fail
            go_loopw [23, 149] (fun _ i wr => ∃ q : Nat, q ≤ NL ∧ i = .int .i64 q ∧ Spl w4.heap.size wr (.slice na NL nc) NL ∧ OnlyS (fun k => (Value.slice na NL nc).ownBlock = some k) w9 wr) (fun _ i _ => NL - (intOf i).toNat)
            case atStart => exact ⟨0, Nat.zero_le _, rfl, HSP9.out, OnlyS.refl _ _⟩
            case round =>
              obtain ⟨q, hq, rfl, hsp, hos⟩ := hrel
              have HSPR := Lib.hid hsp
              have HOSR := Lib.hid hos
              clear hsp hos
              by_cases hq2 : q < NL
              · obtain ⟨gn, hgn, ⟨y, cY⟩, fY, -, hn1, hn2, hset⟩ := HSPR.out.get hq2
                subst hgn
                have HSET := Lib.hid (hset (.int .i64 (-77)))
                unfold maxLen at hn2
                clear hset
                go_wp2_with fail
                go_roundw
                case rel => exact ⟨q + 1, by omega, by go_num, HSET.out, HOSR.out.trans (only_set _ _ _ _) (fun k _ h => by subst h; rfl)⟩
                case measure => simp [intOf]; omega
              · go_wp2_with fail
                go_roundw
                case rel =>
                  refine ⟨c + 1, Xn, os9, hs9, n', by omega, by go_num, ?_, fun b hb => Nat.lt_of_lt_of_le (HXN9.out b hb).1 HOSR.out.size, HXW9.out, owns_others HWO9.out HOSR.out (fun k hk h => (HXN9.out k (HXW9.out k hk)).2 h), HHI9.out.onlyS HOSR.out (fun k hk h => (HXN9.out k hk.1).2 h), HGOOD9.out, ?_⟩
                  · exact (HT9.out.wrote HOSR.out (fun b hb => .inr hb) (fun b hb => Nat.le_trans HBR4.out.size (HNB.out b hb).1)).more (Ext.keeps.refl _) (fun b hb => .inl (.inl hb))
                  · exact HBR9.out.trans (HOSR.out.below HBR9.out.size (fun b hb => Nat.le_trans HBR4.out.size (HNB.out b hb).1))
                case measure => simp [intOf]; omega
      · go_wp2_with fail
        go_meet
        exact ⟨X, os, hs, n, HTW.out, HXL.out, HXW.out, HWO.out, HHI.out, HGOOD.out, HBR.out⟩
  case rest =>
  obtain ⟨X, os, hs, n, htw, hX, hXw, hwo, hhi, hgood, hbr⟩ := hcut
  generalize wc = w3 at htw hX hwo hhi hbr ⊢
  have HX := Lib.hid hX
  have HXW := Lib.hid hXw
  have HWO := Lib.hid hwo
  have HHI := Lib.hid hhi
  have HGOOD := Lib.hid hgood
  have HBR := Lib.hid hbr
  have HTW := Lib.hid htw
  clear htw hX hXw hwo hhi hgood hbr
  go_wp2_with fail
  refine (next16_any w2.heap.size X p os kk n w3 HTW.out HX.out).mono ?_
  have HREF := Lib.hid (fun W u (hu : RdV W u hs) (hh : HdOpt W hs os) (hx : RdKs W v2 kk) => refNext16_any u v2 hs os kk 200 W hu hh hx HGOOD.out.fit)
  generalize nextI kk os = I at HREF ⊢
  generalize nextB kk os = Q at HREF ⊢
  rintro e w4 ⟨rfl, ht4, ho4⟩
  have HWO4 := Lib.hid (owns_others HWO.out ho4 (fun k hk h => h.2 (HXW.out k hk)))
  have HHI4 := Lib.hid (HHI.out.onlyS ho4 (fun k hk h => h.2 hk.1))
  have HBR4 := Lib.hid (HBR.out.trans (ho4.below HBR.out.size (fun b hb => hb.1)))
  clear ht4 ho4
  go_wp2_with fail
  refine (HREF.out w4 _ (RdV.of_owns HWO4.out) HHI4.out.opt (HK.out.mono HBR4.out)).mono ?_
  rintro e w5 ⟨rfl, x5⟩
  have HFIN := Lib.hid (show Below w.heap.size w w5 from HB.out.trans (show Below w.heap.size w2 w5 from Below.of_ext HB.out.size (Ext.trans HBR4.out x5)))
  clear x5
  have q0 : (I == I) = true := beq_self_eq_true _
  cases Q with
  | false =>
    go_wp2_with fail
    go_ret
    exact ⟨rfl, HFIN.out⟩
  | true =>
    go_wp2_with fail
    go_ret
    exact ⟨rfl, HFIN.out⟩

end Go.Proofs.Ytodjaggihmcllaa

/-
  The walk of the law LosersSort.
-/
namespace Go.Proofs.Ytodjaggihmcllaa
open Go.RowKit Go.BigFrame

theorem flat_few (ls : List (List (List V))) (n : Nat) (h : ∀ l ∈ ls, l.length ≤ n) : ls.flatten.length ≤ n * ls.length := by
  induction ls with
  | nil => simp
  | cons a t ih =>
    rw [List.flatten_cons, List.length_append, List.length_cons, Nat.mul_succ]
    have h1 := h a (by simp)
    have h2 := ih fun l hl => h l (by simp [hl])
    omega

set_option maxRecDepth 100000 in
set_option maxHeartbeats 4000000 in
theorem losersSort_walk (u : Value) (ls : List (List (List V))) (x : Value) (ks : List Ky) (w : World) (hu : RdLs w u ls) (hf : ∀ l ∈ ls, ∀ r ∈ l, ∀ v ∈ r, v.fits ∧ v.s.length ≤ maxLen) (hx : RdKs w x ks) (_hk : ∀ k ∈ ks, k.fits) :
    Calls Try.prog 4 #[u, x] w fun e w' => e = .returned (.bool true) ∧ Below w.heap.size w w' := by
  obtain ⟨i1, hi1, hy0, hy1, hy2⟩ := info_parts Try.info_row
  obtain ⟨i2, hi2, hq0, hq1, hq2⟩ := info_parts Try.info_rows
  have HU := Lib.hid hu
  have HF := Lib.hid hf
  have HX := Lib.hid hx
  clear hu hf hx
  go_enter Try.func4, Try.ntmps4
  go_wp2_with fail
  refine (shown16_any w).mono ?_
  rintro e w0 ⟨rfl, x0⟩
  have H0 := Lib.hid x0
  clear x0
  go_wp2_with fail
  refine (few16_any _ ls w0 (HU.out.mono H0.out) HF.out).mono ?_
  rintro e w1 ⟨⟨v1, M, rfl, hl, hfw⟩, x1⟩
  have HL := Lib.hid (hl.mono x1)
  have HFW := Lib.hid hfw
  have H1 := Lib.hid (Ext.trans H0.out x1)
  clear hl hfw x1
  generalize ls.take M = L0 at HL HFW
  go_wp2_with fail
  refine (some16_any _ ks w1 (HX.out.mono H1.out)).mono ?_
  rintro e w2 ⟨⟨v2, rfl, k2⟩, rfl⟩
  have HK := Lib.hid k2
  clear k2
  have hkl : (ks.take 10).length ≤ 1000000 := by rw [List.length_take]; omega
  have HKL := Lib.hid hkl
  clear hkl
  generalize ks.take 10 = kk at HK HKL
  obtain ⟨la, lc, rfl, hlc1, hlc2⟩ := HL.out.shape
  obtain ⟨K, hK, hKa, hKb⟩ : ∃ K : Nat, min (L0.length : Int) 16 = (K : Int) ∧ K ≤ L0.length ∧ K ≤ 16 := ⟨min L0.length 16, by omega, by omega, by omega⟩
  have HLK := Lib.hid (HL.out.take K hKa)
  have HFK := Lib.hid (HFW.out.take K)
  have HLEN := Lib.hid (show (L0.take K).length = K by rw [List.length_take]; omega)
  have hcap : K ≤ lc := by omega
  unfold maxLen at hlc2
  generalize L0.take K = L at HLK HFK HLEN
  obtain ⟨N0, hN0⟩ : ∃ N0, L0.length = N0 := ⟨_, rfl⟩
  rw [hN0] at hK hKa hlc1 ⊢
  clear HL HFW HU HF HX hN0
  go_wp2_with fail
  go_loopw [8, 9, 11, 26] (fun sv av _ i wr => ∃ (j : Nat) (sh ah : List Value), j ≤ K ∧ i = .int .i64 j ∧ wr.ownsRow w2.heap.size 22 1 sv sh.length sh ∧ wr.ownsRow w2.heap.size 26 1 av ah.length ah ∧ LsX (fun k => sv.ownBlock = some k ∨ av.ownBlock = some k) wr sh ((L.take j).map (sortS kk)) ∧ HdRows w2 ah (L.take j).flatten ∧ Below w2.heap.size w2 wr) (fun _ _ _ i _ => K - (intOf i).toNat)
  case atStart => exact ⟨0, [], [], Nat.zero_le _, rfl, owns_nil _ _ _ _, owns_nil _ _ _ _, LsX.nil _ _, HdRows.nil _, Below.refl _ _⟩
  case round =>
    obtain ⟨j, sh, ah, hj, rfl, hso, hao, hls, hah, hb2⟩ := hrel
    have HSO := Lib.hid hso
    have HAO := Lib.hid hao
    have HLS := Lib.hid hls
    have HAH := Lib.hid hah
    have HB2 := Lib.hid hb2
    clear hso hao hls hah hb2
    by_cases hlt : j < K
    · have hjl : j < L.length := by have := HLEN.out; omega
      obtain ⟨g, off, a, c, rfl, c0, hl⟩ := HLK.out.at j hjl
      have x0 := (HB2.out.cell (lt_of_cell c0)).trans c0
      have HTS := Lib.hid (List.take_succ_eq_append_getElem hjl)
      have hfl := HFK.out.2 L[j] (List.getElem_mem hjl)
      have HFL := Lib.hid (HFK.out.fitL L[j] (List.getElem_mem hjl))
      have hl30 := hfl.1
      have HAL := Lib.hid (show ah.length ≤ 30 * j from by
        rw [HAH.out.1]
        have h1 := flat_few (L.take j) 30 (fun l hl => (HFK.out.2 l (List.mem_of_mem_take hl)).1)
        have h2 : (L.take j).length ≤ j := by rw [List.length_take]; omega
        have := Nat.mul_le_mul_left 30 h2
        omega)
      have HSHL := Lib.hid (show sh.length = j from by rw [HLS.out.1, List.length_map, List.length_take]; omega)
      have HSORT := Lib.hid (pSort15_any _ v2 L[j] kk wr (hl.mono HB2.out) (HK.out.mono HB2.out) HFL.out (by omega))
      have HLV := Lib.hid hl
      generalize L[j] = l at x0 HTS hl30 HSORT HLV
      clear hfl c0 hl HFL
      obtain ⟨sa, sc, rfl, -, -⟩ := own_shapeP HSO.out
      obtain ⟨aa, ac, rfl, -, -⟩ := own_shapeP HAO.out
      go_wp2_with fail
      refine HSORT.out.mono ?_
      rintro e w3 ⟨⟨o, rfl, ho⟩, x3⟩
      have HOX := Lib.hid (ho.off (X := fun k => (Value.slice sa sh.length sc).ownBlock = some k ∨ (Value.slice aa ah.length ac).ownBlock = some k) (fun k hk => by
        rcases hk with hk | hk
        · exact (HSO.out.lt k hk).2
        · exact (HAO.out.lt k hk).2))
      obtain ⟨oa, oc, rfl, -, -⟩ := ho.rv.shape
      have HSO3 := Lib.hid (owns_extS HSO.out x3)
      have HAO3 := Lib.hid (owns_extS HAO.out x3)
      have HLS3 := Lib.hid ((HLS.out.ext x3).snoc HOX.out)
      have HB23 := Lib.hid (HB2.out.trans (Below.of_ext HB2.out.size x3))
      have HSL := Lib.hid (show (sortS kk l).length = l.length from (sortS_is kk l).length (cmpR_pre kk))
      generalize hS : sortS kk l = S at HLS3 HSL
      have HS := Lib.hid hS
      obtain ⟨SN, hSN⟩ : ∃ SN, S.length = SN := ⟨_, rfl⟩
      rw [hSN] at HLS3 ⊢
      have hshl : sh.length ≤ 10000000 := by have := HSHL.out; omega
      have HSZ3 := Lib.hid HB23.out.size
      clear ho x3 HSORT HOX HSO HAO HLS HB2 hSN hS
      go_upto_region 10 with (at_builtin; go_must (refine wpList_append_one rfl (.tmp 30) (.tmp 34) 40 rfl w2.heap.size 22 i2 (.slice none 0 0) 1 24 Try.underlying40 hi2 hq0 hq1 hq2 rfl (by decide) (by decide) _ sh.length sh [.slice oa SN oc] rfl HSO3.out rfl rfl (by simp [Value.oneCell']) hshl HSZ3.out ?_); intro v5 w5 h5a h5b h5c h5d; have HSO5 := Lib.hid h5a; have HW5 := Lib.hid h5b; have HY5 := Lib.hid h5c; have HG5 := Lib.hid h5d; clear h5a h5b h5c h5d)
      have HAO5 := Lib.hid (owns_beside HAO3.out HY5.out (own_apart (by decide) HAO3.out HSO3.out))
      have HLS5 := Lib.hid (((HLS3.out.turn (X' := fun k => (Value.slice sa sh.length sc).ownBlock = some k ∨ (Value.slice aa ah.length ac).ownBlock = some k ∨ v5.ownBlock = some k) (fun k hk => by
        rcases hk with hk | hk | hk
        · exact .inl (.inl hk)
        · exact .inl (.inr hk)
        · rcases HG5.out with e | ⟨k', e, hle⟩
          · exact .inl (.inl (e ▸ hk))
          · rw [e] at hk
            cases hk
            exact .inr hle)).onlyS HY5.out (fun k hk => .inl hk)).turn (X' := fun k => v5.ownBlock = some k ∨ (Value.slice aa ah.length ac).ownBlock = some k) (fun k hk => by
        rcases hk with hk | hk
        · exact .inl (.inr (.inr hk))
        · exact .inl (.inr (.inl hk))))
      have HB25 := Lib.hid (HB23.out.trans HW5.out)
      obtain ⟨lh, hlv, hlh⟩ := HLV.out
      have HLH := Lib.hid (hlv.mono HB25.out)
      have HLD := Lib.hid hlh
      have HONE := Lib.hid hlh.oneCell
      have hll : lh.length ≤ 30 := by rw [hlh.1]; exact hl30
      have hal2 := HAL.out
      have HSZ5 := Lib.hid HB25.out.size
      clear hlv hlh HLV
      obtain ⟨sa5, sc5, rfl, -, -⟩ := own_shapeP HSO5.out
      go_wp2_with (at_builtin; go_must (refine wpList_append_rdA rfl (.tmp 36) (.tmp 37) 22 rfl w2.heap.size 26 i1 (.slice none 0 0) 24 Try.underlying22 hi1 hy0 hy1 hy2 rfl _ _ _ rfl HAO5.out _ lh rfl HLH.out HONE.out (by unfold maxLen; omega) (by omega) HSZ5.out ?_); intro v6 w6 h6a h6b h6c h6d; have HAO6 := Lib.hid h6a; have HW6 := Lib.hid h6b; have HY6 := Lib.hid h6c; have HG6 := Lib.hid h6d; clear h6a h6b h6c h6d)
      have HSO6 := Lib.hid (owns_beside HSO5.out HY6.out (own_apart (by decide) HSO5.out HAO5.out))
      have HLS6 := Lib.hid (((HLS5.out.turn (X' := fun k => (Value.slice sa5 (sh.length + 1) sc5).ownBlock = some k ∨ (Value.slice aa ah.length ac).ownBlock = some k ∨ v6.ownBlock = some k) (fun k hk => by
        rcases hk with hk | hk | hk
        · exact .inl (.inl hk)
        · exact .inl (.inr hk)
        · rcases HG6.out with e | ⟨k', e, hle⟩
          · exact .inl (.inr (e ▸ hk))
          · rw [e] at hk
            cases hk
            exact .inr hle)).onlyS HY6.out (fun k hk => .inr (.inl hk))).turn (X' := fun k => (Value.slice sa5 (sh.length + 1) sc5).ownBlock = some k ∨ v6.ownBlock = some k) (fun k hk => by
        rcases hk with hk | hk
        · exact .inl (.inl hk)
        · exact .inl (.inr (.inr hk))))
      have HB26 := Lib.hid (HB25.out.trans HW6.out)
      go_roundw
      case rel => exact ⟨j + 1, sh ++ [.slice oa SN oc], ah ++ lh, by omega, by go_num, by rw [List.length_append]; exact HSO6.out, by rw [List.length_append]; exact HAO6.out, by rw [HTS.out, List.map_append, List.map_cons, List.map_nil, HS.out]; exact HLS6.out, by rw [HTS.out, List.flatten_append, List.flatten_cons, List.flatten_nil, List.append_nil]; exact HAH.out.append HLD.out, HB26.out⟩
      case measure => simp [intOf]; omega
    · have hjK : j = K := by omega
      have HALL := Lib.hid (show L.take j = L from List.take_of_length_le (by have := HLEN.out; omega))
      rw [HALL.out] at HLS HAH
      have HRL := Lib.hid (show RdLs wr _ (L.map (sortS kk)) from ⟨sh, RdV.of_owns HSO.out, HLS.out.hd⟩)
      have HRA := Lib.hid (show RdRV wr _ L.flatten from ⟨ah, RdV.of_owns HAO.out, HAH.out.mono HB2.out⟩)
      have HFLT := Lib.hid (show FitL L.flatten from ⟨fun r hr => by
        obtain ⟨l, hl, hrl⟩ := List.mem_flatten.1 hr
        exact (HFK.out.fitL l hl).1 r hrl, fun r hr => by
        obtain ⟨l, hl, hrl⟩ := List.mem_flatten.1 hr
        exact (HFK.out.fitL l hl).2 r hrl⟩)
      have HLL := Lib.hid (show L.flatten.length ≤ 480 from by
        have h1 := flat_few L 30 (fun l hl => (HFK.out.2 l hl).1)
        have := HLEN.out
        omega)
      have HSL := Lib.hid (show (L.map (sortS kk)).flatten.length ≤ 480 from by
        have e : (L.map (sortS kk)).flatten.length = L.flatten.length := by
          rw [List.length_flatten, List.length_flatten, List.map_map]
          congr 1
          refine List.map_congr_left fun l _ => ?_
          exact (sortS_is kk l).length (cmpR_pre kk)
        rw [e]
        exact HLL.out)
      go_wp2_with fail
      refine (pMerge16_any _ v2 (L.map (sortS kk)) kk wr HRL.out (HK.out.mono HB2.out) HKL.out (fun l hl => by
        obtain ⟨m, hm, rfl⟩ := List.mem_map.1 hl
        exact (HFK.out.fitL m hm).sort kk) (by rw [List.length_map]; have := HLEN.out; omega) (Nat.le_trans HSL.out (by decide))).mono ?_
      rintro e w3 ⟨⟨o, rfl, ho⟩, x3⟩
      rw [mergeL_sortS] at ho
      have HO := Lib.hid ho
      have HX3 := Lib.hid x3
      clear ho x3
      go_wp2_with fail
      refine (pSort15_any _ v2 L.flatten kk w3 (HRA.out.mono HX3.out) ((HK.out.mono HB2.out).mono HX3.out) HFLT.out (Nat.le_trans HLL.out (by decide))).mono ?_
      rintro e w4 ⟨⟨p, rfl, hp⟩, x4⟩
      have HP := Lib.hid hp.rd
      have HO4 := Lib.hid (HO.out.mono x4)
      have HX4 := Lib.hid (Ext.trans HX3.out x4)
      clear hp x4
      go_wp2_with fail
      refine (refSameRows_any o p _ _ w4 HO4.out HP.out).mono ?_
      rw [decide_eq_true rfl]
      rintro e w5 ⟨rfl, x5⟩
      have HFIN := Lib.hid (show Ext w w5 from Ext.trans (Ext.trans H1.out HB2.out) (Ext.trans HX4.out x5))
      clear x5
      go_wp2_with fail
      go_ret
      exact ⟨rfl, HFIN.out⟩

end Go.Proofs.Ytodjaggihmcllaa

/-
  What an argument that came in as a row of rows of rows of values is to a walk.
-/
namespace Go.Proofs.Ytodjaggihmcllaa
open Go.ChangeShapes Go.WideShapes Go.ChangeAt Go.RowKit Go.Joins Go.Deep

section
variable {H : Type} {enc : TypeId × Value → H} {P : Program} {w : World} {base : Nat} {held : Bool}

theorem read_lists {t q r e : TypeId} {f0 f1 f2 : Field} {v : Value} {d : DataW H} {ps : List MemPlace} (ht : P.underlying t = some (.slice q)) (hq : P.underlying q = some (.slice r)) (hr : P.underlying r = some (.slice e)) (hs : P.underlying e = some (.struct #[f0, f1, f2])) (h0 : P.underlying f0.type = some (.int .u8)) (h1 : P.underlying f1.type = some (.int .i64)) (h2 : P.underlying f2.type = some .string)
    (hone : oneCellFields P #[f0, f1, f2] = true) (hC : P.cellsOf e = 3) (hR : P.cellsOf r = 1) (hQ : P.cellsOf q = 1) (hv : v.cells.toList = [v]) (h : DataW.Trod enc P w base (fun _ => true) held t v d ps) :
    ∃ ls : List (List (List V)), RdLs w v ls ∧ ∀ l ∈ ls, ∀ vs ∈ l, ∀ x ∈ vs, x.fits ∧ x.s.length ≤ maxLen := by
  obtain ⟨fuel, hf⟩ := h
  rw [hv] at hf
  rcases open_slice1 ht hQ hf with ⟨hcs, _⟩ | ⟨a, len, cap, m, n, W, D, Pl, hcs, _, hl, hm, hmm, _, hi⟩
  · obtain rfl : v = .slice none 0 0 := by simpa using hcs
    exact ⟨[], RdLs.nil w, by simp⟩
  · obtain rfl : v = .slice (some a) len cap := by simpa using hcs
    have hmc : m = cap := by simpa using hmm
    have key : ∀ i, i < len → ∃ l : List (List V), (∀ vs ∈ l, ∀ x ∈ vs, x.fits ∧ x.s.length ≤ maxLen) ∧ RdRV w (W i) l ∧ w.cell? (a.add i) = some (W i) := fun i hi' => by
      obtain ⟨hc, ht'⟩ := hi i (by omega)
      obtain ⟨a', l', c', e'⟩ := slice_form hq ht'
      have e'' : W i = .slice a' l' c' := by simpa using e'
      have htr : DataW.Trod enc P w base (fun _ => true) held q (W i) (D i) (Pl i) := ⟨n, by rw [e'']; rw [e''] at ht'; exact ht'⟩
      obtain ⟨vs, hvs, hfit⟩ := read_rows (v := W i) (d := D i) (ps := Pl i) hq hr hs h0 h1 h2 hone hC hR (by rw [e'']; rfl) htr
      exact ⟨vs, hfit, RdRV.of_rows hvs (read_nil hq (by rw [e'']; rfl) htr), hc⟩
    have hall : ∃ ls : List (List (List V)), ls.length = len ∧ ∀ i, (hi : i < ls.length) → (∀ vs ∈ ls[i], ∀ x ∈ vs, x.fits ∧ x.s.length ≤ maxLen) ∧ RdRV w (W i) ls[i] ∧ w.cell? (a.add i) = some (W i) := by
      refine ⟨(List.range len).map fun i => if h : i < len then (key i h).choose else [], by simp, fun i hi' => ?_⟩
      have hil : i < len := by simpa using hi'
      rw [List.getElem_map, List.getElem_range, dif_pos hil]
      exact (key i hil).choose_spec
    obtain ⟨ls, hlen, hls⟩ := hall
    refine ⟨ls, ⟨(List.range len).map W, .inr ⟨a, cap, by simp, by simp; omega, hm, fun i u hu => ?_⟩, by simp [hlen], fun i h1 h2 => ?_⟩, fun x hx => ?_⟩
    · obtain ⟨hil, e⟩ := List.getElem?_eq_some_iff.1 hu
      rw [List.getElem_map, List.getElem_range] at e
      rw [← e]
      exact (hls i (by rw [hlen]; simpa using hil)).2.2
    · rw [List.getElem_map, List.getElem_range]
      exact (hls i h2).2.1
    · obtain ⟨i, hi', rfl⟩ := List.mem_iff_getElem.1 hx
      exact (hls i hi').1

end
end Go.Proofs.Ytodjaggihmcllaa

/-
  Where lists have been taken from so far, as lists. No program.
-/
namespace Go.Proofs.Ytodjaggihmcllaa

/-- The heads, where so many have been taken. -/
def headsAt (L : List (List (List V))) (ats : List Nat) : List (Option (List V)) := List.zipWith (fun l a => l[a]?) L ats

theorem headsAt_length {L : List (List (List V))} {ats : List Nat} (h : ats.length = L.length) : (headsAt L ats).length = L.length := by
  unfold headsAt
  rw [List.length_zipWith, h, Nat.min_self]
theorem headsAt_get {L : List (List (List V))} {ats : List Nat} (h : ats.length = L.length) {i : Nat} (hi : i < L.length) : (headsAt L ats)[i]? = some (L[i][ats[i]'(by omega)]?) := by
  unfold headsAt
  rw [List.getElem?_eq_getElem (by rw [List.length_zipWith]; omega), List.getElem_zipWith]
theorem headsAt_zero (L : List (List (List V))) : headsAt L (List.replicate L.length 0) = L.map List.head? := by
  induction L with
  | nil => rfl
  | cons l t ih =>
    unfold headsAt at ih ⊢
    rw [List.length_cons, List.replicate_succ, List.zipWith_cons_cons, ih, List.map_cons]
    cases l <;> rfl
theorem headsAt_set {L : List (List (List V))} {ats : List Nat} (h : ats.length = L.length) {i : Nat} (hi : i < L.length) (a : Nat) : headsAt L (ats.set i a) = (headsAt L ats).set i (L[i][a]?) := by
  apply List.ext_getElem?
  intro j
  by_cases hj : j < L.length
  · rw [headsAt_get (by rw [List.length_set]; exact h) hj, List.getElem?_set]
    by_cases e : i = j
    · subst e
      rw [if_pos rfl, if_pos (by rw [headsAt_length h]; exact hi)]
      simp
    · rw [if_neg e, headsAt_get h hj]
      simp [e]
  · rw [List.getElem?_eq_none (by rw [headsAt_length (by rw [List.length_set]; exact h)]; omega), List.getElem?_eq_none (by rw [List.length_set, headsAt_length h]; omega)]

theorem sum_set (ats : List Nat) (i : Nat) (hi : i < ats.length) : (ats.set i (ats[i] + 1)).sum = ats.sum + 1 := by
  induction ats generalizing i with
  | nil => simp at hi
  | cons a t ih =>
    cases i with
    | zero => simp; omega
    | succ i =>
      have := ih i (by simpa using hi)
      simp only [List.set_cons_succ, List.sum_cons, List.getElem_cons_succ]
      omega
theorem sum_most (ats : List Nat) (n : Nat) (h : ∀ i, (hi : i < ats.length) → ats[i] ≤ n) : ats.sum ≤ n * ats.length := by
  induction ats with
  | nil => simp
  | cons a t ih =>
    have h0 := h 0 (by simp)
    have h1 := ih fun i hi => h (i + 1) (by simpa using hi)
    simp only [List.getElem_cons_zero] at h0
    rw [List.sum_cons, List.length_cons, Nat.mul_succ]
    omega
/-- All are taken. -/
theorem sum_all {ats ns : List Nat} (n : Nat) (h : ats.length = ns.length) (h1 : ∀ i, (hi : i < ats.length) → ats[i] ≤ ns[i]'(h ▸ hi)) (h2 : ∀ i, (hi : i < ns.length) → ns[i] ≤ n) (hs : ats.sum = n * ats.length) : ats = ns := by
  induction ats generalizing ns with
  | nil => cases ns with | nil => rfl | cons _ _ => simp at h
  | cons a t ih =>
    cases ns with
    | nil => simp at h
    | cons m u =>
      have a0 := h1 0 (by simp)
      have b0 := h2 0 (by simp)
      have h' : t.length = u.length := by simpa using h
      have at' : ∀ i, (hi : i < t.length) → t[i] ≤ u[i]'(h' ▸ hi) := fun i hi => h1 (i + 1) (by simpa using hi)
      have bt : ∀ i, (hi : i < u.length) → u[i] ≤ n := fun i hi => h2 (i + 1) (by simpa using hi)
      have hm := sum_most t n fun i hi => Nat.le_trans (at' i hi) (bt i (h' ▸ hi))
      simp only [List.getElem_cons_zero] at a0 b0
      rw [List.sum_cons, List.length_cons, Nat.mul_succ] at hs
      rw [ih h' at' bt (by omega), show a = m by omega]

/-- No head is left: all are taken. -/
theorem headsAt_none {L : List (List (List V))} {ats : List Nat} (h : ats.length = L.length) (hle : ∀ i, (hi : i < ats.length) → ats[i] ≤ (L[i]'(h ▸ hi)).length) (hn : ∀ (i : Nat) (r : List V), (headsAt L ats)[i]? ≠ some (some r)) : ats = L.map List.length := by
  apply List.ext_getElem (by rw [List.length_map, h])
  intro i h1 h2
  rw [List.getElem_map]
  have h3 := hle i h1
  by_cases e : ats[i] < (L[i]'(h ▸ h1)).length
  · exfalso
    refine hn i ((L[i]'(h ▸ h1))[ats[i]]) ?_
    rw [headsAt_get h (h ▸ h1), List.getElem?_eq_getElem e]
  · omega

end Go.Proofs.Ytodjaggihmcllaa
