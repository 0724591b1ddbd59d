/-
  Texts of this proof, merged.
-/
import Derived.Test.YtaoegcakefodaaaGreatZ1
import Derived.Test.YtaoegcakefodaaaGreatY1
import Derived.Test.YtaoegcakefodaaaGreatZ2
import Derived.Test.YtaoegcakefodaaaGreatZ3
import Derived.Test.YtaoegcakefodaaaGreatZ4
import Derived.Test.YtaoegcakefodaaaGreatZ5
import Derived.Test.YtaoegcakefodaaaGreatZ6
import Derived.Test.YtaoegcakefodaaaGreatZ7
import Derived.Test.YtaoegcakefodaaaGreatY2
import Derived.Test.YtaoegcakefodaaaGreatZ8
import Derived.Test.YtaoegcakefodaaaGreatZ9
import Derived.Test.YtaoegcakefodaaaGreatZ10
import Derived.Test.YtaoegcakefodaaaGreatZ11
import Derived.Test.YtaoegcakefodaaaGreatZ12
import Derived.Test.YtaoegcakefodaaaGreatZ13
import Derived.Test.YtaoegcakefodaaaGreatZ14
import Derived.Test.YtaoegcakefodaaaGreatZ15
import Derived.Test.YtaoegcakefodaaaGreatZ16
import Derived.Test.YtaoegcakefodaaaGreatZ17
import Derived.Test.YtaoegcakefodaaaGreatZ18
import Derived.Test.YtaoegcakefodaaaGreatZ19
import Derived.Test.YtaoegcakefodaaaGreatZ20
import Derived.Test.YtaoegcakefodaaaGreatZ21
import Derived.Test.YtaoegcakefodaaaGreatZ22
import Derived.Test.YtaoegcakefodaaaGreatZ23
import Derived.Test.YtaoegcakefodaaaGreatZ24
namespace Go.Proofs.YtaoegcakefodaaaGreat
open Go.RowKit Go.BigFrame
theorem allocS_length (s : St) (n : Int) : (allocS s n).2.length = s.length := by
  unfold allocS
  split
  · rfl
  · split
    · rfl
    · exact takeS_length _ _ _
end Go.Proofs.YtaoegcakefodaaaGreat

namespace Go.Proofs.YtaoegcakefodaaaGreat
open Go.RowKit Go.BigFrame
theorem take_held {n was : Int} (h0 : 0 ≤ was) (h1 : was ≤ n) : takeP ⟨n, 0, 0⟩ was = (0, ⟨n, was, was⟩) := by
  unfold takeP
  rw [if_neg (by omega), if_neg (by simp only; omega)]
  simp only [Int.zero_add]
  rw [Int.max_eq_right h0]
theorem alloc_held {M k : Nat} (h : k ≤ M) : usedS (allocS (List.replicate M none) (k : Int)).2 = k ∧ (allocS (List.replicate M none) (k : Int)).1.2 = 0 := by
  have hu := used_none17 M
  have ha := allocS_fits (s := (List.replicate M none : St)) (k : Int) (by omega) (by rw [hu, List.length_replicate]; omega)
  rw [ha]
  refine ⟨?_, rfl⟩
  have := takeS_used k 0 (List.replicate M none : St) (by rw [hu, List.length_replicate]; omega)
  rw [hu, Nat.zero_add] at this
  exact this
set_option maxRecDepth 100000 in
set_option maxHeartbeats 4000000 in
theorem sorterLeaves_walk (u : Value) (rs : List (List V)) (x : Value) (ks : List Ky) (fan most now many taken : Int) (w : World) (hu0 : RdRows w u rs) (hf : ∀ r ∈ rs, ∀ v ∈ r, v.fits ∧ v.s.length ≤ maxLen) (hz : ∀ n c, u = .slice none n c → n = 0 ∧ c = 0) (hx : RdKs w x ks) (_hk : ∀ k ∈ ks, k.fits) (hfan : -9223372036854775808 ≤ fan ∧ fan ≤ 9223372036854775807) (hmost : 0 ≤ most ∧ most ≤ 65535) (hnow : 0 ≤ now ∧ now ≤ 65535) (hmany : 0 ≤ many ∧ many ≤ 255) (htaken : 0 ≤ taken ∧ taken ≤ 255) :
    Calls Tryz.prog 4 #[u, x, .int .i64 fan, .int .u16 most, .int .u16 now, .int .u8 many, .int .u8 taken] w fun e w' => e = .returned (.bool true) ∧ Below w.heap.size w w' := by
  have hu := RdRV.of_rows hu0 hz
  clear hu0 hz
  obtain ⟨hf0, hf1⟩ := hfan
  obtain ⟨N, hN⟩ : ∃ N : Int, N = most % 2001 := ⟨_, rfl⟩
  have hN0 : 0 ≤ N ∧ N ≤ 2000 := by omega
  obtain ⟨WAS, hW⟩ : ∃ W : Int, W = now % (N + 1) := ⟨_, rfl⟩
  have hW0 : 0 ≤ WAS ∧ WAS ≤ N := by
    have h1 := Int.emod_nonneg now (show N + 1 ≠ 0 by omega)
    have h2 := Int.emod_lt_of_pos now (show 0 < N + 1 by omega)
    omega
  obtain ⟨M, hM⟩ : ∃ M : Int, M = many % 101 := ⟨_, rfl⟩
  have hM0 : 0 ≤ M ∧ M ≤ 100 := by omega
  obtain ⟨US, hUS⟩ : ∃ U : Int, U = taken % (M + 1) := ⟨_, rfl⟩
  have hU0 : 0 ≤ US ∧ US ≤ M := by
    have h1 := Int.emod_nonneg taken (show M + 1 ≠ 0 by omega)
    have h2 := Int.emod_lt_of_pos taken (show 0 < M + 1 by omega)
    omega
  have HF := Lib.hid hf
  have HU := Lib.hid hu
  have HX := Lib.hid hx
  have HNN := Lib.hid hN
  have HWW := Lib.hid hW
  have HMM := Lib.hid hM
  have HUS := Lib.hid hUS
  obtain ⟨hN1, hN2⟩ := hN0
  obtain ⟨hW1, hW2⟩ := hW0
  obtain ⟨hM1, hM2⟩ := hM0
  obtain ⟨hU1, hU2⟩ := hU0
  obtain ⟨hmo1, hmo2⟩ := hmost
  obtain ⟨hno1, hno2⟩ := hnow
  obtain ⟨hma1, hma2⟩ := hmany
  obtain ⟨hta1, hta2⟩ := htaken
  clear hu hf hx hN hW hM hUS
  go_enter Tryz.func4, Tryz.ntmps4
  go_wp2_with fail
  refine (shown18_any _).mono ?_
  rintro e w1 ⟨rfl, x1⟩
  have X1 := Lib.hid x1
  clear x1
  go_wp2_with fail
  refine (few18_any _ rs w w1 HU.out X1.out HF.out).mono ?_
  rintro e w2 ⟨⟨v, Mf, rfl, hv, hfw⟩, x2⟩
  generalize rs.take Mf = xs at hv hfw
  have X2 := Lib.hid (Ext.trans X1.out x2)
  have HV := Lib.hid (hv.mono X2.out)
  have HW := Lib.hid hfw
  have HC := Lib.hid (cost_few hfw)
  have HC9 := Lib.hid (fun r hr => Int.le_trans (cost_few hfw r hr) (show (100000 : Int) ≤ 1000000000 by decide))
  clear hv hfw x2 X1
  go_wp2_with fail
  refine (some18_any x ks w2 (HX.out.mono X2.out)).mono ?_
  rintro e w3 ⟨⟨k, rfl, hk⟩, rfl⟩
  have HK := Lib.hid hk
  have hkl : (ks.take 10).length ≤ 10 := List.length_take_le _ _
  generalize ks.take 10 = kx at HK hkl
  clear hk
  go_wp2_with fail
  rw [← HNN.out]
  refine (purNew_any N _ (by omega)).mono ?_
  rintro e w4 hN4
  unfold PurNewed at hN4
  rcases hN4 with ⟨_, _, q, rfl, hq4, hg4, hx4⟩ | ⟨h, _⟩
  rotate_left
  · omega
  have HQ4 := Lib.hid hq4
  have HX4 := Lib.hid hx4
  have HG4 := Lib.hid hg4
  clear hq4 hx4 hg4
  go_wp2_with fail
  rw [← HMM.out]
  refine (pNew_any M (by omega)).mono ?_
  rintro e w5 hN5
  unfold PNewed at hN5
  rcases hN5 with ⟨_, _, p, O1, rfl, hp5, ho5, hx5⟩ | ⟨h, _⟩
  rotate_left
  · omega
  have HP5 := Lib.hid hp5
  have HO5 := Lib.hid ho5
  have HX5 := Lib.hid hx5
  clear hp5 ho5 hx5
  go_wp2_with fail
  refine wp_region_segs Ext Ext.keeps [([0, 1, 2, 3, 4, 5, 6, 7, 8, 9, 10, 11, 12, 13], none)] (by kernel_rfl) (by kernel_rfl) (fun c a a' w e h => (by exact ⟨e ▸ h.1, h.2⟩)) ?_
  simp only [pickSegs, pickOps, List.map_cons, List.map_nil, Option.map_none, Option.getD_some, List.getElem?_toArray, List.getElem?_cons_zero, List.getElem?_cons_succ]
  refine wpSegs_none ?_
  repeat go_big_quiet_step (fail)
  refine wpQuiet_nil (wpSegs_nil ?_)
  go_wp2_with fail
  rw [← HWW.out, ← HMM.out, ← HUS.out]
  obtain ⟨Un, hUn⟩ : ∃ U : Nat, (U : Int) = US := ⟨US.toNat, by omega⟩
  obtain ⟨Mn, hMn⟩ : ∃ n : Nat, M.toNat = n := ⟨_, rfl⟩
  have hUM : Un ≤ Mn := by omega
  rw [hMn] at HP5
  have HAL := Lib.hid (alloc_held hUM)
  have HALL := Lib.hid (allocS_length (List.replicate Mn none : St) (Un : Int))
  have HOK0 := Lib.hid (show okS (List.replicate Mn none : St) from ⟨by rw [List.length_replicate]; omega, fun p hp => by have := List.eq_of_mem_replicate hp; cases this⟩)
  have HOK7 := Lib.hid (allocS_ok HOK0.out (Un : Int))
  have hlq := HQ4.out.lt
  have HOq1 := Lib.hid (show ¬ O1 q from fun h => by have := HO5.out q h; omega)
  subst hUn
  clear hMn hUM
  have HTK := Lib.hid (take_held (n := N) hW1 hW2)
  have hTAKE := purTake_any (w := w5.drew) WAS ((HQ4.out.ext HX5.out).ext (Ext.drew w5)) (by omega)
  rw [HTK.out] at hTAKE
  refine hTAKE.mono ?_
  rintro e w6 ⟨rfl, hq6, ho6⟩
  have HQ6 := Lib.hid hq6
  have HO6 := Lib.hid ho6
  have HP6 := Lib.hid ((HP5.out.onlyS (OnlyS.of_ext (X := fun _ => False) (Ext.drew w5)) (fun _ _ h => h)).onlyS (OnlyS.of_onlyP (X := fun b => b = q) ho6 rfl) (fun b hb e => HOq1.out (e ▸ hb)))
  clear hTAKE hq6 ho6
  go_wp2_with fail
  refine (pAlloc_any (w := w6) (Un : Int) HP6.out HOK0.out (by omega)).mono ?_
  rintro e w7 ⟨v7, rfl, -, O2, k1, k2, k3, -⟩
  generalize hS7 : (allocS (List.replicate Mn none) (Un : Int)).2 = S7 at k1 HAL HALL HOK7
  have HUS7 := Lib.hid HAL.out.1
  have HP7 := Lib.hid k1
  have HO7 := Lib.hid k2
  have HN7 := Lib.hid k3
  have hq0 : w3.heap.size ≤ q := by have := HG4.out; omega
  have hs5 : w4.heap.size ≤ w5.heap.size := HX5.out.size
  have hs6 : w5.heap.size ≤ w6.heap.size := HO6.out.size
  have HOq := Lib.hid (show ¬ O2 q from fun h => by
    rcases k3 q h with h1 | h1
    · exact HOq1.out h1
    · omega)
  have HQ7 := Lib.hid (HQ6.out.onlyS k2 HOq1.out)
  have hs34 : w3.heap.size ≤ w4.heap.size := HX4.out.size
  have HYB := Lib.hid (fun i (hi : O2 i ∨ i = q) => show w3.heap.size ≤ i from by
    rcases hi with h | h
    · rcases k3 i h with h1 | h1
      · have := HO5.out i h1
        omega
      · omega
    · omega)
  have HEX := Lib.hid (show Below w3.heap.size w3 w7 from (show Below w3.heap.size w3 w5 from Ext.trans HX4.out HX5.out).trans (((OnlyS.trans (OnlyS.of_ext (X := fun b => b = q) (Ext.drew w5)) (OnlyS.of_onlyP (X := fun b => b = q) HO6.out rfl) fun _ _ h => h).below (by omega) (fun b e => by omega)).trans (k2.below (by omega) (fun b hb => by have := HO5.out b hb; omega))))
  have HBEL := Lib.hid (fun W (hW : OnlyS (fun i => O2 i ∨ i = q) w7 W) => show Ext w3 W from HEX.out.trans (hW.below HEX.out.size HYB.out))
  have HFIT := Lib.hid (show ∀ r ∈ xs, mayR r = 0 ∧ FitR 5000 r from fun r hr => ⟨(HW.out.2.1 r hr).2.1, fun v hv => ⟨((HW.out.2.1 r hr).2.2 v hv).1, Nat.le_trans ((HW.out.2.1 r hr).2.2 v hv).2 (by decide)⟩⟩)
  have hx60 := HW.out.1
  clear k1 k2 k3 hS7
  go_wp2_with fail
  refine (pSort18_any (fun i => O2 i ∨ i = q) O2 p q S7 ⟨N, WAS, WAS⟩ v k xs kx fan w7 HP7.out HOK7.out HQ7.out HOq.out (fun i h => h) (fun W hW => HV.out.mono (HBEL.out W hW)) (fun W hW => HK.out.mono (HBEL.out W hW)) (by omega) (by omega) HFIT.out (by omega)).mono ?_
  rintro e w8 ⟨out, E, O', pu', rfl, hp8, hq8, hm8, hn8, ho8, hO8, hq8', hb1, hb2, hb3, hb4⟩
  have HP8 := Lib.hid hp8
  have HQ8 := Lib.hid hq8
  have hn8' : pu'.now = WAS := hn8
  have hpk : pu'.peak ≤ N := by
    have h := hq8.ok.p1
    rw [hm8] at h
    exact h
  have HB8 := Lib.hid (show Ext w3 w8 from HBEL.out w8 ho8)
  have H1 := Lib.hid hb1
  have H2 := Lib.hid hb2
  have H3 := Lib.hid (fun h : E = 0 => hb3 h w8 (OnlyS.refl _ _))
  have H4 := Lib.hid hb4
  clear hp8 hq8 hm8 hn8 ho8 hO8 hq8' hb1 hb2 hb3 hb4
  go_wp2_with fail
  refine (purNow_any HQ8.out).mono ?_
  rw [hn8']
  rintro e w9 ⟨rfl, rfl⟩
  clear hn8'
  go_wp2_with fail
  refine (pUsed_any HP8.out).mono ?_
  rw [show ((usedS S7 : Nat) : Int) = (Un : Int) from by rw [HUS7.out]]
  rintro e w10 ⟨rfl, x10⟩
  have HQ10 := Lib.hid (HQ8.out.ext x10)
  have X10 := Lib.hid (Ext.trans HB8.out x10)
  have X810 := Lib.hid x10
  clear x10
  go_wp2_with fail
  refine (purPeak_any HQ10.out).mono ?_
  obtain ⟨PK, hPK⟩ : ∃ PK, pu'.peak = PK := ⟨_, rfl⟩
  rw [hPK] at hpk
  rw [hPK]
  rintro e w11 ⟨rfl, rfl⟩
  have dpk : decide (PK > N) = false := decide_eq_false (by omega)
  have dpk' : decide (N < PK) = false := decide_eq_false (by omega)
  clear hPK
  have HE0 := Lib.hid (fun h : E ≠ 0 => (show RdRows w10 out [] from (H4.out h).mono X810.out))
  by_cases hfan : fan < 2 ∨ 16 < fan
  · have hE := H1.out hfan
    have HL := Lib.hid (HE0.out (by omega))
    subst hE
    have HFIN := Lib.hid (Ext.trans X2.out X10.out)
    obtain ⟨oa, oc, hoe, -, -⟩ := HL.out.shape
    subst hoe
    by_cases hf2 : fan < 2
    · have d1 : decide (fan < 2) = true := decide_eq_true hf2
      go_wp2_with fail
      go_ret
      exact ⟨rfl, HFIN.out⟩
    · have d1 : decide (fan < 2) = false := decide_eq_false hf2
      have d2 : decide (fan > 16) = true := decide_eq_true (by omega)
      have d2' : decide (16 < fan) = true := decide_eq_true (by omega)
      go_wp2_with fail
      go_ret
      exact ⟨rfl, HFIN.out⟩
  · have d1 : decide (fan < 2) = false := decide_eq_false (by omega)
    have d2 : decide (fan > 16) = false := decide_eq_false (by omega)
    have d2' : decide (16 < fan) = false := decide_eq_false (by omega)
    obtain ⟨hE1, hE2, hE3, -, -⟩ := H2.out (by omega) (by omega)
    have hle := runsG_le (N - WAS) xs 0 0
    obtain ⟨RN, hRN⟩ : ∃ RN, runsR xs (N - WAS) = RN := ⟨_, rfl⟩
    have HRN := Lib.hid hRN
    rw [show runsG (N - WAS) xs 0 0 = RN from hRN] at hle
    obtain ⟨R, G⟩ := RN
    simp only [hRN] at hE2 hE3
    simp only at hE2 hE3 hle
    clear hRN
    go_wp2_with fail
    refine (refRuns18_any v xs (N - WAS) w10 (HV.out.mono X10.out).rd (Nat.le_trans HW.out.1 (by decide)) HC9.out (by omega)).mono ?_
    rw [HRN.out]
    rintro e w12 ⟨rfl, x12⟩
    have X12 := Lib.hid (Ext.trans X10.out x12)
    have HE12 := Lib.hid (fun h : E ≠ 0 => (show RdRows w12 out [] from (HE0.out h).mono x12))
    have HE13 := Lib.hid (fun h : E = 0 => (show RdRows w12 out (sortS kx xs) from (((H3.out h).mono X810.out).mono x12).rd))
    have HFIN := Lib.hid (Ext.trans X2.out X12.out)
    clear x12
    rcases hle.2 with hG | hG
    · subst hG
      have hR60 : R ≤ 60 := by omega
      rcases hE1 with rfl | rfl | rfl
      · have HOUT := Lib.hid (HE13.out rfl)
        obtain ⟨oa, on, oc, hoe⟩ : ∃ a n c, out = .slice a n c := by
          obtain ⟨a, c, h, -, -⟩ := HOUT.out.shape
          exact ⟨_, _, _, h⟩
        subst hoe
        by_cases hR2 : R < 2
        · have d3 : decide ((R : Int) < 2) = true := decide_eq_true (by omega)
          have d3' : decide (R < 2) = true := decide_eq_true hR2
          go_wp2_with fail
          refine (refSort15_any v k xs kx 5000 w12 (HV.out.mono X12.out).rd (HK.out.mono X12.out) (fun r hr => (HFIT.out r hr).2) (by omega)).mono ?_
          rintro e w13 ⟨⟨o13, rfl, h13⟩, x13⟩
          have HO13 := Lib.hid h13.rd
          have X13 := Lib.hid x13
          clear h13 x13
          go_wp2_with fail
          refine (refSameRows_any (.slice oa on oc) o13 (sortS kx xs) (sortS kx xs) w13 (HOUT.out.mono X13.out) HO13.out).mono ?_
          rw [decide_eq_true rfl]
          rintro e w14 ⟨rfl, x14⟩
          have X14 := Lib.hid (Ext.trans HFIN.out (Ext.trans X13.out x14))
          clear x14
          go_wp2_with fail
          go_ret
          exact ⟨rfl, X14.out⟩
        · have d3 : decide ((R : Int) < 2) = false := decide_eq_false (by omega)
          have d3' : decide (R < 2) = false := decide_eq_false hR2
          go_wp2_with fail
          refine (refSort15_any v k xs kx 5000 w12 (HV.out.mono X12.out).rd (HK.out.mono X12.out) (fun r hr => (HFIT.out r hr).2) (by omega)).mono ?_
          rintro e w13 ⟨⟨o13, rfl, h13⟩, x13⟩
          have HO13 := Lib.hid h13.rd
          have X13 := Lib.hid x13
          clear h13 x13
          go_wp2_with fail
          refine (refSameRows_any (.slice oa on oc) o13 (sortS kx xs) (sortS kx xs) w13 (HOUT.out.mono X13.out) HO13.out).mono ?_
          rw [decide_eq_true rfl]
          rintro e w14 ⟨rfl, x14⟩
          have X14 := Lib.hid (Ext.trans HFIN.out (Ext.trans X13.out x14))
          clear x14
          go_wp2_with fail
          go_ret
          exact ⟨rfl, X14.out⟩
      · have HL := Lib.hid (HE12.out (by decide))
        obtain ⟨oa, oc, hoe, -, -⟩ := HL.out.shape
        subst hoe
        have hR2 : ¬ R < 2 := fun h => absurd (hE3 rfl h) (by decide)
        have d3 : decide ((R : Int) < 2) = false := decide_eq_false (by omega)
        have d3' : decide (R < 2) = false := decide_eq_false (by omega)
        go_wp2_with fail
        go_ret
        exact ⟨rfl, HFIN.out⟩
      · have HL := Lib.hid (HE12.out (by decide))
        obtain ⟨oa, oc, hoe, -, -⟩ := HL.out.shape
        subst hoe
        have hR2 : ¬ R < 2 := fun h => absurd (hE3 rfl h) (by decide)
        have d3 : decide ((R : Int) < 2) = false := decide_eq_false (by omega)
        have d3' : decide (R < 2) = false := decide_eq_false (by omega)
        go_wp2_with fail
        go_ret
        exact ⟨rfl, HFIN.out⟩
    · subst hG
      have hne : E ≠ 0 := hE2 (by decide)
      have HL := Lib.hid (HE12.out hne)
      obtain ⟨oa, oc, hoe, -, -⟩ := HL.out.shape
      subst hoe
      rcases hE1 with h | rfl | rfl
      · exact absurd h hne
      · go_wp2_with fail
        go_ret
        exact ⟨rfl, HFIN.out⟩
      · go_wp2_with fail
        go_ret
        exact ⟨rfl, HFIN.out⟩
end Go.Proofs.YtaoegcakefodaaaGreat

