/-
  Texts of this proof, merged: LosersAsked, LosersNil.
-/
import Derived.Deep.CutBlock
import Derived.Test.YtodjaggihmcllaaZ12
import Derived.Test.YtodjaggihmcllaaZ4
import Derived.Test.YtodjaggihmcllaaZ11
/-
  The walk of the law LosersAsked.
-/
namespace Go.Proofs.Ytodjaggihmcllaa
open Go.RowKit Go.BigFrame

theorem make_ats (w : World) (n : Nat) (hn : n ≤ 100000) : ∃ w', (Instr.makeSlice 48 (.int .i64 (n : Int)) (.int .i64 (n : Int))).run Try.prog w = .ok (.slice (some ⟨w.heap.size, 0, none⟩) n n) w' ∧ w'.ownsRow w.heap.size 3 1 (.slice (some ⟨w.heap.size, 0, none⟩) n n) n ((List.replicate n 0).map fun a : Nat => Value.int .i64 (a : Int)) ∧ Ext w w' := by
  obtain ⟨i0, hi, hz0, hz1, hz2⟩ := info_parts Try.info_int8
  obtain ⟨w', hrun, hown, hgrow⟩ := run_makeSlice_full (P := Try.prog) w w.heap.size 48 3 i0 (.int .i64 0) 1 Try.underlying48 hi hz0 hz1 .i64 .i64 n (by omega) (by rw [hz2]; omega) (by unfold maxLen; omega) (Nat.le_refl _)
  refine ⟨w', hrun, ?_, ⟨hgrow.os, hgrow.tape, hgrow.output, hgrow.size, fun k hk => hgrow.block k hk (by simp)⟩⟩
  have e : (madeCells (Value.int .i64 0).cells (n * 1)).toList = (List.replicate n 0).map fun a : Nat => Value.int .i64 (a : Int) := by
    rw [Nat.mul_one, List.map_replicate]
    exact toList_madeCells_one _ _
  rwa [e] at hown

set_option maxRecDepth 100000 in
set_option maxHeartbeats 4000000 in
theorem losersAsked_walk (u : Value) (ls : List (List (List V))) (x : Value) (ks : List Ky) (w : World) (hu : RdLs w u ls) (hf : ∀ l ∈ ls, ∀ r ∈ l, ∀ v ∈ r, v.fits ∧ v.s.length ≤ maxLen) (hx : RdKs w x ks) (_hk : ∀ k ∈ ks, k.fits) :
    Calls Try.prog 5 #[u, x] w fun e w' => e = .returned (.bool true) ∧ Below w.heap.size w w' := by
  obtain ⟨i1, hi1, hy0, hy1, hy2⟩ := info_parts Try.info_row
  have HU := Lib.hid hu
  have HF := Lib.hid hf
  have HX := Lib.hid hx
  clear hu hf hx
  go_enter Try.func5, Try.ntmps5
  go_wp2_with fail
  refine (shown16_any w).mono ?_
  rintro e w0 ⟨rfl, x0⟩
  have H0 := Lib.hid x0
  clear x0
  go_wp2_with fail
  refine (few16_any _ ls w0 (HU.out.mono H0.out) HF.out).mono ?_
  rintro e w1 ⟨⟨v1, M, rfl, hl, hfw⟩, x1⟩
  have HL := Lib.hid (hl.mono x1)
  have HFW := Lib.hid hfw
  have H1 := Lib.hid (Ext.trans H0.out x1)
  clear hl hfw x1
  generalize ls.take M = L0 at HL HFW
  go_wp2_with fail
  refine (some16_any _ ks w1 (HX.out.mono H1.out)).mono ?_
  rintro e w2 ⟨⟨v2, rfl, k2⟩, rfl⟩
  have HK := Lib.hid k2
  clear k2
  have hkl : (ks.take 10).length ≤ 1000000 := by rw [List.length_take]; omega
  have HKL := Lib.hid hkl
  clear hkl
  generalize ks.take 10 = kk at HK HKL
  obtain ⟨la, lc, rfl, hlc1, hlc2⟩ := HL.out.shape
  obtain ⟨K, hK, hKa, hKb⟩ : ∃ K : Nat, min (L0.length : Int) 16 = (K : Int) ∧ K ≤ L0.length ∧ K ≤ 16 := ⟨min L0.length 16, by omega, by omega, by omega⟩
  have HLK := Lib.hid (HL.out.take K hKa)
  have HFK := Lib.hid (HFW.out.take K)
  have HLEN := Lib.hid (show (L0.take K).length = K by rw [List.length_take]; omega)
  have hcap : K ≤ lc := by omega
  unfold maxLen at hlc2
  generalize L0.take K = L at HLK HFK HLEN
  obtain ⟨N0, hN0⟩ : ∃ N0, L0.length = N0 := ⟨_, rfl⟩
  rw [hN0] at hK hKa hlc1 ⊢
  clear HL HFW HU HF HX hN0
  go_wp2_with fail
  go_loopw [8, 10, 32] (fun xv _ i wr => ∃ (j : Nat) (hs : List Value), j ≤ K ∧ i = .int .i64 j ∧ wr.ownsRow w2.heap.size 26 1 xv hs.length hs ∧ HdI (fun k => xv.ownBlock ≠ some k) wr hs ((L.take j).map List.head?) ∧ Below w2.heap.size w2 wr) (fun _ _ i _ => K - (intOf i).toNat)
  case atStart => exact ⟨0, [], Nat.zero_le _, rfl, owns_nil _ _ _ _, HdI.nil _ _, Below.refl _ _⟩
  case round =>
    obtain ⟨j, hs, hj, rfl, hxo, hhi, hb⟩ := hrel
    have HXO := Lib.hid hxo
    have HHI := Lib.hid hhi
    have HB := Lib.hid hb
    clear hxo hhi hb
    by_cases hlt : j < K
    · have hjl : j < L.length := by have := HLEN.out; omega
      obtain ⟨g, off, a, c, rfl, c0, hl⟩ := HLK.out.at j hjl
      have x0 := (HB.out.cell (lt_of_cell c0)).trans c0
      have HTS := Lib.hid (List.take_succ_eq_append_getElem hjl)
      have hfl := HFK.out.2 L[j] (List.getElem_mem hjl)
      have hshl : hs.length ≤ 10000000 := by
        have h1 := HHI.out.1
        rw [List.length_map, List.length_take] at h1
        omega
      have HSZ := Lib.hid HB.out.size
      have HFL := Lib.hid hfl.2
      have hl30 := hfl.1
      have HLV := Lib.hid hl
      have hcap2 := hl.shape
      generalize L[j] = l at x0 HTS hl30 HLV HFL
      clear hfl c0 hl hcap2
      obtain ⟨xa, xc, rfl, -, -⟩ := own_shapeP HXO.out
      cases l with
      | nil =>
        have d2 : decide ((([] : List (List V)).length : Int) > 0) = false := by decide
        have hnil0 : ([] : List (List V)).length = 0 := rfl
        rw [hnil0] at x0
        clear d2 hnil0
        go_wp2_with (at_builtin; go_must (refine wpList_append_one rfl (.tmp 47) (.tmp 48) 22 rfl w2.heap.size 26 i1 (.slice none 0 0) 1 24 Try.underlying22 hi1 hy0 hy1 hy2 rfl (by decide) (by decide) _ hs.length hs [.slice none 0 0] rfl HXO.out rfl rfl (by simp [Value.oneCell']) hshl HSZ.out ?_); intro v5 w5 h5a h5b h5c h5d; have HXO5 := Lib.hid h5a; have HW5 := Lib.hid h5b; have HY5 := Lib.hid h5c; have HG5 := Lib.hid h5d; clear h5a h5b h5c h5d)
        have HHI5 := Lib.hid ((((HHI.out.snoc (o := none) rfl).turn (X' := fun k => (Value.slice xa hs.length xc).ownBlock ≠ some k ∧ v5.ownBlock ≠ some k) (fun k hk h1 => ⟨h1, fun h2 => by
          rcases HG5.out with e | ⟨k', e, hle⟩
          · exact h1 (e ▸ h2)
          · rw [e] at h2
            cases h2
            omega⟩)).onlyS HY5.out (fun k hk => hk.1)).turn (X' := fun k => v5.ownBlock ≠ some k) (fun k _ hk => hk.2))
        have HB5 := Lib.hid (HB.out.trans HW5.out)
        go_roundw
        case rel => exact ⟨j + 1, hs ++ [.slice none 0 0], by omega, by go_num, by rw [List.length_append]; exact HXO5.out, by rw [HTS.out, List.map_append]; exact HHI5.out, HB5.out⟩
        case measure => simp [intOf]; omega
      | cons r t =>
        obtain ⟨NL, hNL⟩ : ∃ NL, (r :: t).length = NL := ⟨_, rfl⟩
        have hNL0 : 0 < NL := by rw [← hNL]; simp
        have hlv := HLV.out
        rw [hNL] at x0 hlv
        obtain ⟨a1, a2, a3, g3, off3, r', t', b1, b2, he, ha, cx, hrd, -, -⟩ := hlv.cut hNL0
        cases he
        subst ha
        have y0' : ∀ ob, (wr.alloc ob).cell? ⟨g3, off3, none⟩ = some (.slice a1 a2 a3) := fun ob => ((ext_new wr ob).cell (lt_of_cell ((HB.out.cell (lt_of_cell cx)).trans cx))).trans ((HB.out.cell (lt_of_cell cx)).trans cx)
        have HRD1 := Lib.hid ((hrd.mono HB.out).mono (ext_new wr (.cells #[] 38)))
        have HRL := Lib.hid (show ([] : List V).length + r.length ≤ 100000000 from by have := (HFL.out r (by simp)).1; simp; omega)
        have d2 : decide ((NL : Int) > 0) = true := decide_eq_true (by omega)
        have d2' : decide (0 < NL) = true := decide_eq_true hNL0
        clear hNL hlv cx hrd HLV
        go_wp2_with (at_builtin; first
          | (refine wpList_append_valsN rfl (.tmp 40) (.tmp 43) 26 rfl Try.underlying26 wr.heap.size _ ([] : List V) _ r rfl (empty_vals wr) rfl HRD1.out HRL.out (by simp) ?_
             intro v3 w3 hown3 hbel3 hon3 hnil3
             rw [List.nil_append] at hown3
             obtain ⟨p1, p2, hp⟩ := owns3_shape hown3
             subst hp
             have HX3 := Lib.hid (show Ext wr w3 from (show Below wr.heap.size wr _ from ext_new wr _).trans hbel3)
             have HXO3 := Lib.hid (owns_extS HXO.out HX3.out)
             have HV3 := Lib.hid (show OptI (fun k => (Value.slice xa hs.length xc).ownBlock ≠ some k) w3 (.slice p1 r.length p2) (some r) from ⟨OptV.of_own hown3 (fun e => by have := (hnil3.1 e).1; cases this), fun _ k hk e => by
               have h1 := (hown3.lt k hk).1
               have h2 := (HXO.out.lt k e).2
               omega⟩)
             have HSZ3 := Lib.hid (Nat.le_trans HSZ.out HX3.out.size)
             clear hown3 hbel3 hon3 hnil3)
          | (refine wpList_append_one rfl (.tmp 39) (.tmp 45) 22 rfl w2.heap.size 26 i1 (.slice none 0 0) 1 24 Try.underlying22 hi1 hy0 hy1 hy2 rfl (by decide) (by decide) _ hs.length hs [.slice p1 r.length p2] rfl HXO3.out rfl rfl (by simp [Value.oneCell']) hshl HSZ3.out ?_
             intro v5 w5 h5a h5b h5c h5d
             have HXO5 := Lib.hid h5a
             have HW5 := Lib.hid h5b
             have HY5 := Lib.hid h5c
             have HG5 := Lib.hid h5d
             clear h5a h5b h5c h5d))
        have HHI5 := Lib.hid (((((HHI.out.ext HX3.out).snoc HV3.out).turn (X' := fun k => (Value.slice xa hs.length xc).ownBlock ≠ some k ∧ v5.ownBlock ≠ some k) (fun k hk h1 => ⟨h1, fun h2 => by
          rcases HG5.out with e | ⟨k', e, hle⟩
          · exact h1 (e ▸ h2)
          · rw [e] at h2
            cases h2
            omega⟩)).onlyS HY5.out (fun k hk => hk.1)).turn (X' := fun k => v5.ownBlock ≠ some k) (fun k _ hk => hk.2))
        have HB5 := Lib.hid ((HB.out.trans (Below.of_ext HB.out.size HX3.out)).trans HW5.out)
        go_roundw
        case rel => exact ⟨j + 1, hs ++ [.slice p1 r.length p2], by omega, by go_num, by rw [List.length_append]; exact HXO5.out, by rw [HTS.out, List.map_append]; exact HHI5.out, HB5.out⟩
        case measure => simp [intOf]; omega
    · have HALL := Lib.hid (show L.take j = L from List.take_of_length_le (by have := HLEN.out; omega))
      have hhi := HHI.out
      rw [HALL.out] at hhi
      replace HHI := Lib.hid hhi
      have hol : (L.map List.head?).length = K := by rw [List.length_map]; exact HLEN.out
      have HOL := Lib.hid hol
      have HFIT := Lib.hid (show GoodO (L.map List.head?) from fun r hr => by
        obtain ⟨l, hl, e⟩ := List.mem_map.1 hr
        exact (HFK.out.2 l hl).2 r (List.mem_of_mem_head? e))
      clear hhi hol HALL
      generalize wr = W1 at HXO HHI HB ⊢
      go_wp2_with fail
      refine (pNew16_any _ v2 hs (L.map List.head?) kk W1 W1 (Ext.keeps.refl _) (RdV.of_owns HXO.out) HHI.out.opt (HK.out.mono HB.out) HKL.out (HFIT.out.fit.le (by decide)) (fun r hr => Nat.le_trans (HFIT.out r hr).1 (by decide)) (by have := HOL.out; omega)).mono ?_
      rintro e wn ⟨⟨h16, -⟩ | ⟨-, p, O, n, rfl, ht, h0, h1, hO⟩, xn⟩
      · have := HOL.out
        omega
      have HT := Lib.hid (TW.of_new (X := fun b => b < W1.heap.size) ht hO (fun _ h => h))
      have HXN := Lib.hid xn
      have d3 : decide (n > max ((K : Int) - 1) 0) = false := decide_eq_false (by
        rw [HOL.out] at h1
        omega)
      have HN0 := Lib.hid (show 0 ≤ n ∧ n ≤ 20 from ⟨h0, by
        rw [HOL.out] at h1
        omega⟩)
      clear ht hO xn h1 HXO HHI
      go_wp2_with fail
      refine (asked16_any _ _ p _ kk n wn HT.out).mono ?_
      rintro e wn2 ⟨rfl, rfl⟩
      go_upto_block 2 with fail
      go_cut [13] from 72 to 78 (fun hv W => ∃ h : Nat, hv = .int .i64 (h : Int) ∧ h ≤ 4 ∧ K ≤ 2 ^ h ∧ W = wn2)
      case first =>
        go_wp2_with fail
        go_loopw [13] (fun hv wr => ∃ h : Nat, hv = .int .i64 (h : Int) ∧ h ≤ 4 ∧ wr = wn2) (fun hv _ => 5 - (intOf hv).toNat)
        case atStart => exact ⟨0, rfl, by omega, rfl⟩
        case round =>
        obtain ⟨h, rfl, hh4, rfl⟩ := hrel
        obtain rfl | rfl | rfl | rfl | rfl : h = 0 ∨ h = 1 ∨ h = 2 ∨ h = 3 ∨ h = 4 := by omega
        · by_cases hp : 1 < K
          · have e1 : decide ((1 : Int) < (K : Int)) = true := decide_eq_true (by omega)
            have e2 : decide (1 < K) = true := decide_eq_true hp
            go_wp2_with fail
            go_roundw
            case rel => exact ⟨1, rfl, by omega, by first | rfl | trivial⟩
            case measure => simp [intOf]
          · have e1 : decide ((1 : Int) < (K : Int)) = false := decide_eq_false (by omega)
            have e2 : decide (1 < K) = false := decide_eq_false hp
            go_wp2_with fail
            go_meet
            exact ⟨0, rfl, by omega, by show K ≤ 1; omega, rfl⟩
        · by_cases hp : 2 < K
          · have e1 : decide ((2 : Int) < (K : Int)) = true := decide_eq_true (by omega)
            have e2 : decide (2 < K) = true := decide_eq_true hp
            go_wp2_with fail
            go_roundw
            case rel => exact ⟨2, rfl, by omega, by first | rfl | trivial⟩
            case measure => simp [intOf]
          · have e1 : decide ((2 : Int) < (K : Int)) = false := decide_eq_false (by omega)
            have e2 : decide (2 < K) = false := decide_eq_false hp
            go_wp2_with fail
            go_meet
            exact ⟨1, rfl, by omega, by show K ≤ 2; omega, rfl⟩
        · by_cases hp : 4 < K
          · have e1 : decide ((4 : Int) < (K : Int)) = true := decide_eq_true (by omega)
            have e2 : decide (4 < K) = true := decide_eq_true hp
            go_wp2_with fail
            go_roundw
            case rel => exact ⟨3, rfl, by omega, by first | rfl | trivial⟩
            case measure => simp [intOf]
          · have e1 : decide ((4 : Int) < (K : Int)) = false := decide_eq_false (by omega)
            have e2 : decide (4 < K) = false := decide_eq_false hp
            go_wp2_with fail
            go_meet
            exact ⟨2, rfl, by omega, by show K ≤ 4; omega, rfl⟩
        · by_cases hp : 8 < K
          · have e1 : decide ((8 : Int) < (K : Int)) = true := decide_eq_true (by omega)
            have e2 : decide (8 < K) = true := decide_eq_true hp
            go_wp2_with fail
            go_roundw
            case rel => exact ⟨4, rfl, by omega, by first | rfl | trivial⟩
            case measure => simp [intOf]
          · have e1 : decide ((8 : Int) < (K : Int)) = false := decide_eq_false (by omega)
            have e2 : decide (8 < K) = false := decide_eq_false hp
            go_wp2_with fail
            go_meet
            exact ⟨3, rfl, by omega, by show K ≤ 8; omega, rfl⟩
        · by_cases hp : 16 < K
          · have e1 : decide ((16 : Int) < (K : Int)) = true := decide_eq_true (by omega)
            have e2 : decide (16 < K) = true := decide_eq_true hp
            exact absurd hp (by omega)
          · have e1 : decide ((16 : Int) < (K : Int)) = false := decide_eq_false (by omega)
            have e2 : decide (16 < K) = false := decide_eq_false hp
            go_wp2_with fail
            go_meet
            exact ⟨4, rfl, by omega, by show K ≤ 16; omega, rfl⟩
      case rest =>
      obtain ⟨h, rfl, hh4, hKh, rfl⟩ := hcut
      have HKH := Lib.hid hKh
      clear hKh
      obtain ⟨w4, hmr, hmo, hmx⟩ := make_ats wc K (by omega)
      obtain ⟨G, hG⟩ : ∃ G, wc.heap.size = G := ⟨_, rfl⟩
      rw [hG] at hmr hmo
      have HMO := Lib.hid hmo
      have HX4 := Lib.hid (Ext.trans HXN.out hmx)
      have HGW := Lib.hid (show W1.heap.size ≤ G from hG ▸ HXN.out.size)
      have HT4 := Lib.hid (HT.out.more hmx (Y := fun b => b < W1.heap.size ∨ b = G) (fun b hb => hb.imp id fun e => by rw [e, ← hG]; exact Nat.le_refl _))
      have HG4 := Lib.hid (show G < w4.heap.size from (hmo.lt G rfl).2)
      clear hmo hmx HT d3
      go_upto_block 4 with fail
      clear hmr
      go_cut [15, 16, 17, 18] from 85 to 156 (fun _ _ _ _ W => W.ownsRow G 3 1 (.slice (some ⟨G, 0, none⟩) K K) K ((L.map List.length).map fun a : Nat => Value.int .i64 (a : Int)) ∧ Below W1.heap.size W1 W)
      case first =>
        go_wp2_with fail
        go_loopw [15, 16, 17, 18, 85] (fun _ _ _ _ i wr => ∃ (c : Nat) (ats : List Nat) (n : Int), c ≤ 30 * K ∧ i = .int .i64 c ∧ ats.length = L.length ∧ (∀ i, (hi : i < ats.length) → (hi' : i < L.length) → ats[i] ≤ L[i].length) ∧ ats.sum = c ∧ wr.ownsRow G 3 1 (.slice (some ⟨G, 0, none⟩) K K) K (ats.map fun a : Nat => Value.int .i64 (a : Int)) ∧ TW W1.heap.size (fun b => b < W1.heap.size ∨ b = G) wr p (headsAt L ats) kk n ∧ Below W1.heap.size W1 wr ∧ 0 ≤ n ∧ n ≤ 20 + 10 * (c : Int)) (fun _ _ _ _ i _ => 30 * K - (intOf i).toNat)
        case atStart => exact ⟨0, List.replicate K 0, n, Nat.zero_le _, rfl, by rw [List.length_replicate]; exact HLEN.out.symm, fun i hi hi' => by rw [List.getElem_replicate]; exact Nat.zero_le _, by simp, HMO.out, by rw [← HLEN.out, headsAt_zero]; exact HT4.out, HX4.out, HN0.out.1, by have := HN0.out.2; omega⟩
        case round =>
          clear HMO HT4 h0 HFIT HOL
          obtain ⟨c, ats, n, hc, rfl, hlen, hle, hsum, hao, htw, hbr, hn0, hn20⟩ := hrel
          have HNN := Lib.hid (show 0 ≤ n ∧ n ≤ 20 + 10 * (c : Int) ∧ n ≤ 1000000000 from ⟨hn0, hn20, by omega⟩)
          have HAL := Lib.hid hlen
          have HLE := Lib.hid hle
          have HSUM := Lib.hid hsum
          have HAO := Lib.hid hao
          have HTW := Lib.hid htw
          have HBR := Lib.hid hbr
          have HXL := Lib.hid (show ∀ b, (b < W1.heap.size ∨ b = G) → b < wr.heap.size from fun b hb => by
            rcases hb with hb | hb
            · exact Nat.lt_of_lt_of_le hb hbr.size
            · rw [hb]; exact (hao.lt G rfl).2)
          clear hlen hle hsum hao htw hbr hn0 hn20
          by_cases hlt : c < 30 * K
          · go_wp2_with fail
            refine (next16_any _ _ p (headsAt L ats) kk n wr HTW.out HXL.out).mono ?_
            obtain ⟨I, hI⟩ : ∃ I, nextI kk (headsAt L ats) = I := ⟨_, rfl⟩
            obtain ⟨Q, hQ⟩ : ∃ Q, nextB kk (headsAt L ats) = Q := ⟨_, rfl⟩
            rw [hI, hQ]
            have HI := Lib.hid hI
            have HQ := Lib.hid hQ
            clear hI hQ
            rintro e w5 ⟨rfl, ht5, ho5⟩
            have HTW5 := Lib.hid ht5
            have HAO5 := Lib.hid (owns_others HAO.out ho5 (fun k hk h => h.2 (.inr (Option.some.inj hk).symm)))
            have HBR5 := Lib.hid (HBR.out.trans (ho5.below HBR.out.size (fun b hb => hb.1)))
            clear ht5 ho5 HTW HAO HBR HXL
            cases Q with
            | false =>
              have HFULL := Lib.hid (show ats = L.map List.length from headsAt_none HAL.out (fun i hi => HLE.out i hi (HAL.out ▸ hi)) (LosPure.next_none (cmpR_pre kk) (by
                have h := HQ.out
                unfold nextB at h
                cases hn : LosPure.nextS (cmpR kk) (headsAt L ats) with
                | none => rfl
                | some i => rw [hn] at h; cases h)))
              go_wp2_with fail
              go_meet
              exact ⟨by rw [← HFULL.out]; exact HAO5.out, HBR5.out⟩
            | true =>
              obtain ⟨i, r0, hIi, hoi, hns⟩ := nextI_range HQ.out
              obtain rfl : I = (i : Int) := HI.out.symm.trans hIi
              have hiL : i < L.length := by
                have h1 := (List.getElem?_eq_some_iff.1 hoi).1
                rwa [headsAt_length HAL.out] at h1
              have hiK : i < K := by have := HLEN.out; omega
              have hia : i < ats.length := by rw [HAL.out]; exact hiL
              rw [headsAt_get HAL.out hiL] at hoi
              have HNS := Lib.hid hns
              have HAT := Lib.hid (show ats[i]? = some ats[i] from List.getElem?_eq_getElem hia)
              have hlt2 : ats[i] < L[i].length := (List.getElem?_eq_some_iff.1 (Option.some.inj hoi)).1
              obtain ⟨g, off, la1, lc1, rfl, c0, hl⟩ := HLK.out.at i hiL
              have hl30 := (HFK.out.2 L[i] (List.getElem_mem hiL)).1
              have HFL := Lib.hid (HFK.out.2 L[i] (List.getElem_mem hiL)).2
              have HSUM2 := Lib.hid (show (ats.set i (ats[i] + 1)).sum = c + 1 from by rw [sum_set ats i hia, HSUM.out])
              have HSET := Lib.hid (headsAt_set HAL.out hiL (ats[i] + 1))
              have HLE2 := Lib.hid (show ∀ q, (hq : q < (ats.set i (ats[i] + 1)).length) → (hq' : q < L.length) → (ats.set i (ats[i] + 1))[q] ≤ L[q].length from fun q hq hq' => by
                rw [List.getElem_set]
                split
                · rename_i e
                  subst e
                  omega
                · exact HLE.out q (by rw [List.length_set] at hq; exact hq) hq')
              have HCX := Lib.hid (fun W (h : Below W1.heap.size W1 W) => ((show Below w2.heap.size w2 W from HB.out.trans (Below.of_ext HB.out.size h)).cell (lt_of_cell c0)).trans c0)
              have HRL := Lib.hid (fun W (h : Below W1.heap.size W1 W) => hl.mono (show Below w2.heap.size w2 W from HB.out.trans (Below.of_ext HB.out.size h)))
              have hca : w5.cell? ⟨G, i, none⟩ = some (.int .i64 (ats[i] : Int)) := (HAO5.out.cellAt i (by omega)).trans (by rw [List.getElem?_map, HAT.out]; rfl)
              generalize hA : ats[i] = A at HAT hlt2 HSUM2 HSET HLE2 hca
              generalize hl0 : L[i] = l at hlt2 hl30 HFL HSET HCX HRL
              obtain ⟨NL, hNL⟩ : ∃ NL, l.length = NL := ⟨_, rfl⟩
              have HNL := Lib.hid hNL
              rw [hNL] at hlt2 hl30 HCX HRL
              clear hIi hoi hns c0 hl hA hl0 hNL HSUM HLE
              have z0 : ∀ z : Later Ext w5.drew, z.val.cell? ⟨G, i, none⟩ = some (.int .i64 (A : Int)) := fun z => ((Ext.trans (Ext.drew w5) z.ext).cell (lt_of_cell hca)).trans hca
              have z1 : ∀ z : Later Ext w5.drew, z.val.cell? ⟨g, off + i, none⟩ = some (.slice la1 NL lc1) := fun z => HCX.out z.val (HBR5.out.trans (Below.of_ext HBR5.out.size (Ext.trans (Ext.drew w5) z.ext)))
              have d1 : decide ((i : Int) < 0) = false := decide_eq_false (by omega)
              have d2 : decide ((i : Int) ≥ (K : Int)) = false := decide_eq_false (by omega)
              have d2' : decide (K ≤ i) = false := decide_eq_false (by omega)
              have d3 : decide ((A : Int) ≥ (NL : Int)) = false := decide_eq_false (by omega)
              have d3' : decide (NL ≤ A) = false := decide_eq_false (by omega)
              have HTW6 := Lib.hid (HTW5.out.ext (Ext.drew w5))
              have HAO6 := Lib.hid (owns_extS HAO5.out (Ext.drew w5))
              have HBR6 := Lib.hid (HBR5.out.trans (Below.of_ext HBR5.out.size (Ext.drew w5)))
              clear hca HTW5 HAO5 HBR5
              go_wp2_with fail
              refine wp_region_segs Ext Ext.keeps [(List.range 20, none)] (by kernel_rfl) (by kernel_rfl) (fun c a a' w e h => (by exact ⟨e ▸ h.1, h.2⟩)) ?_
              simp only [List.range, List.range.loop, pickSegs, pickOps, List.map_cons, List.map_nil, Option.map_none, Option.getD_some, List.getElem?_toArray, List.getElem?_cons_zero, List.getElem?_cons_succ]
              refine wpSegs_none ?_
              repeat go_big_quiet_step (fail)
              refine wpQuiet_nil (wpSegs_nil ?_)
              clear z0 z1 d1 d2 d2' d3 d3'
              generalize w5.drew = w6 at HTW6 HAO6 HBR6 ⊢
              have c6 : w6.cell? ⟨G, i, none⟩ = some (.int .i64 (A : Int)) := (HAO6.out.cellAt i (by omega)).trans (by rw [List.getElem?_map, HAT.out]; rfl)
              have f6 := HAO6.out.frozenAt i
              go_upto_region 26 with fail
              obtain ⟨A1, hA1⟩ : ∃ A1, A + 1 = A1 := ⟨_, rfl⟩
              have HA1 := Lib.hid hA1
              have hval : Value.int .i64 ((A : Int) + 1) = .int .i64 (A1 : Int) := by rw [← hA1]; rfl
              have HOS := Lib.hid (only_set G i w6 (.int .i64 ((A : Int) + 1)))
              have HST := Lib.hid ((HAO6.out.stored i (.int .i64 ((A : Int) + 1))).1)
              generalize w6.setCell ⟨G, i, none⟩ (.int .i64 ((A : Int) + 1)) = w7 at HOS HST ⊢
              rw [hval] at HST
              rw [hA1] at HSUM2 HSET HLE2
              have HAO7 := Lib.hid (show w7.ownsRow G 3 1 (.slice (some ⟨G, 0, none⟩) K K) K ((ats.set i A1).map fun a : Nat => Value.int .i64 (a : Int)) from by rw [List.map_set]; exact HST.out)
              have HTW7 := Lib.hid (HTW6.out.wrote HOS.out (fun b hb => .inr hb) (fun b hb => hb ▸ HGW.out))
              have HBR7 := Lib.hid (HBR6.out.trans (HOS.out.below HBR6.out.size (fun b hb => hb ▸ HGW.out)))
              have h30 : A1 ≤ 30 := by omega
              have hat7 : (ats.set i A1)[i]? = some A1 := by rw [List.getElem?_set, if_pos rfl, if_pos (List.getElem?_eq_some_iff.1 HAT.out).1]
              have hca7 : w7.cell? ⟨G, i, none⟩ = some (.int .i64 (A1 : Int)) := (HAO7.out.cellAt i (by omega)).trans (by rw [List.getElem?_map, hat7]; rfl)
              have HCA7 := Lib.hid hca7
              clear c6 f6 hval HOS HST HTW6 HAO6 HBR6 hA1 hat7
              have z0 : ∀ z : Later Ext w7.drew, z.val.cell? ⟨G, i, none⟩ = some (.int .i64 (A1 : Int)) := fun z => ((Ext.trans (Ext.drew w7) z.ext).cell (lt_of_cell hca7)).trans hca7
              have z1 : ∀ z : Later Ext w7.drew, z.val.cell? ⟨g, off + i, none⟩ = some (.slice la1 NL lc1) := fun z => HCX.out z.val (HBR7.out.trans (Below.of_ext HBR7.out.size (Ext.trans (Ext.drew w7) z.ext)))
              obtain ⟨D, hD⟩ : ∃ D, decide ((A1 : Int) < (NL : Int)) = D := ⟨_, rfl⟩
              have hD' : decide (A1 < NL) = D := by rw [← hD]; exact decide_eq_decide.2 (by omega)
              have HD := Lib.hid hD'
              clear hca7
              go_wp2_with fail
              refine wp_region_segs Ext Ext.keeps [(List.range 10, none)] (by kernel_rfl) (by kernel_rfl) (fun c a a' w e h => (by exact ⟨e ▸ h.1, h.2⟩)) ?_
              simp only [List.range, List.range.loop, pickSegs, pickOps, List.map_cons, List.map_nil, Option.map_none, Option.getD_some, List.getElem?_toArray, List.getElem?_cons_zero, List.getElem?_cons_succ]
              refine wpSegs_none ?_
              repeat go_big_quiet_step (fail)
              refine wpQuiet_nil (wpSegs_nil ?_)
              clear z0 z1
              have HTW8 := Lib.hid (HTW7.out.ext (Ext.drew w7))
              have HAO8 := Lib.hid (owns_extS HAO7.out (Ext.drew w7))
              have HBR8 := Lib.hid (HBR7.out.trans (Below.of_ext HBR7.out.size (Ext.drew w7)))
              have HCA8 := Lib.hid (((Ext.drew w7).cell (lt_of_cell HCA7.out)).trans HCA7.out)
              generalize w7.drew = w8 at HTW8 HAO8 HBR8 HCA8 ⊢
              clear HTW7 HAO7 HBR7 HCA7
              go_upto_if 129 with fail
              clear hD hD'
              go_cut [17] from 120 to 141 (fun nv W => OptV W nv (l[A1]?) ∧ Ext w8 W)
              case first =>
                cases D with
                | false =>
                  have HNO := Lib.hid (show l[A1]? = none from List.getElem?_eq_none (by have := of_decide_eq_false HD.out; have := HNL.out; omega))
                  go_wp2_with fail
                  go_meet
                  exact ⟨by rw [HNO.out]; rfl, Ext.keeps.refl _⟩
                | true =>
                  have hAl : A1 < l.length := by have := of_decide_eq_true HD.out; have := HNL.out; omega
                  have hA1N : A1 < NL := of_decide_eq_true HD.out
                  have HYES := Lib.hid (show l[A1]? = some l[A1] from List.getElem?_eq_getElem hAl)
                  obtain ⟨fh, hfh, -, hfc1, hfc2, hat⟩ := (HRL.out w8 HBR8.out).rd.heads
                  obtain ⟨a1, a2, a3, ha, hra⟩ := hfh.get A1 hAl
                  obtain ⟨g3, off3, rfl, cx⟩ := hat A1 _ ha
                  have HFA := Lib.hid (HFL.out l[A1] (List.getElem_mem hAl))
                  generalize l[A1] = r at HYES hra HFA
                  have hcx8 := HCX.out w8 HBR8.out
                  have hca8 := HCA8.out
                  have z0 : ∀ z : Later (Below w8.heap.size) w8.drew, z.val.cell? ⟨G, i, none⟩ = some (.int .i64 (A1 : Int)) := fun z => (((Below.drew (Below.refl w8.heap.size w8)).trans z.ext).cell (lt_of_cell hca8)).trans hca8
                  have z1 : ∀ z : Later (Below w8.heap.size) w8.drew, z.val.cell? ⟨g, off + i, none⟩ = some (.slice (some ⟨g3, off3, none⟩) NL lc1) := fun z => (((Below.drew (Below.refl w8.heap.size w8)).trans z.ext).cell (lt_of_cell hcx8)).trans hcx8
                  have z2 : ∀ z : Later (Below w8.heap.size) w8.drew, z.val.cell? ⟨g3, off3 + A1, none⟩ = some (.slice a1 a2 a3) := fun z => (((Below.drew (Below.refl w8.heap.size w8)).trans z.ext).cell (lt_of_cell cx)).trans cx
                  have HRD8 := Lib.hid (hra.mono (Ext.drew w8))
                  have HX8 := Lib.hid (Ext.drew w8)
                  have HRL2 := Lib.hid (show ([] : List V).length + r.length ≤ 100000000 from by have := HFA.out.1; simp; omega)
                  clear hfh hat ha hra cx hcx8 hca8 hfc1 hfc2
                  go_wp2_with fail
                  refine wp_region_segs (Below w8.heap.size) (Below.keepsD _) [([1, 2, 3, 4, 5, 6, 7, 8, 9, 10], some 0), ([], some 11), ([12], none)] (by kernel_rfl) (by kernel_rfl) (fun c a a' w e h => (by exact ⟨e ▸ h.1, h.2⟩)) ?_
                  simp only [pickSegs, pickOps, List.map_cons, List.map_nil, Option.map_some, Option.map_none, Option.getD_some, List.getElem?_toArray, List.getElem?_cons_zero, List.getElem?_cons_succ]
                  refine wpSegs_some fun KK hKK => ?_
                  repeat go_big_quiet_step (fail)
                  refine wpQuiet_nil ?_
                  clear z0 z1 z2
                  generalize w8.drew = w9 at HRD8 HX8 hKK ⊢
                  have HSZ9 := Lib.hid HX8.out.size
                  go_wp2_with fail
                  refine ⟨(Below.refl w8.heap.size w9).alloc HSZ9.out _, hKK _ _ ?_⟩
                  clear hKK KK
                  refine wpSegs_some fun KK hKK => ?_
                  refine wpQuiet_nil ?_
                  have HRD9 := Lib.hid (HRD8.out.mono (ext_new w9 (.cells #[] 38)))
                  go_wp2_with (at_builtin; go_must (refine wpList_append_valsN rfl (.tmp 130) (.tmp 140) 26 rfl Try.underlying26 w9.heap.size _ ([] : List V) _ r rfl (empty_vals w9) rfl HRD9.out HRL2.out (by simp) ?_); intro v10 w10 hown10 hbel10 hon10 hnil10; rw [List.nil_append] at hown10; have HBL10 := Lib.hid hbel10; have HBK10 := Lib.hid (show Below w8.heap.size (w9.alloc (.cells #[] 38)) w10 from hon10.below (Nat.le_trans HSZ9.out (ext_new w9 _).size) (fun b hb => by have e := Option.some.inj hb; have := HSZ9.out; show w8.heap.size ≤ b; rw [← e]; exact this)); have HV10 := Lib.hid (OptV.of_own hown10 (fun e => by have := (hnil10.1 e).1; cases this)); clear hown10 hbel10 hon10 hnil10)
                  refine ⟨HBK10.out, hKK _ _ ?_⟩
                  clear hKK KK
                  simp only [Act.put, List.setIfInBounds_toArray, List.set]
                  refine wpSegs_none ?_
                  repeat go_big_quiet_step (fail)
                  refine wpQuiet_nil (wpSegs_nil ?_)
                  go_wp2_with fail
                  go_meet
                  exact ⟨by rw [HYES.out]; exact HV10.out, Ext.trans HX8.out (show Ext w9 _ from (show Below w9.heap.size w9 _ from ext_new w9 _).trans HBL10.out)⟩
              case rest =>
              obtain ⟨hnv, x9⟩ := hcut
              have HNV := Lib.hid hnv
              have HTW9 := Lib.hid (HTW8.out.ext x9)
              have HAO9 := Lib.hid (owns_extS HAO8.out x9)
              have HBR9 := Lib.hid (HBR8.out.trans (Below.of_ext HBR8.out.size x9))
              have HXL9 := Lib.hid (show ∀ b, (b < W1.heap.size ∨ b = G) → b < wc.heap.size from fun b hb => by
                rcases hb with hb | hb
                · exact Nat.lt_of_lt_of_le hb HBR9.out.size
                · rw [hb]; exact (HAO9.out.lt G rfl).2)
              have HOFIT := Lib.hid (show ∀ r', l[A1]? = some r' → r'.length ≤ 20 ∧ FitR 200 r' from fun r' hr' => HFL.out r' (List.mem_of_getElem? hr'))
              clear hnv x9 HTW8 HAO8 HBR8 HCA8
              go_wp2_with fail
              refine (asked16_any _ _ p _ kk n wc HTW9.out).mono ?_
              rintro e w9' ⟨rfl, rfl⟩
              go_wp2_with fail
              refine (put16_any _ _ p (headsAt L ats) kk n _ (l[A1]?) _ HTW9.out HNV.out (fun r' hr' => ⟨(HOFIT.out r' hr').2.le (by decide), Nat.le_trans (HOFIT.out r' hr').1 (by decide)⟩) HXL9.out).mono ?_
              rw [HQ.out, if_pos rfl, putS_some _ HNS.out, ← HSET.out]
              rintro e w10 ⟨rfl, ho10, n', ht10, hn1, hn2⟩
              replace hn1 := hn1 HNN.out.1 HNN.out.2.2
              have hn3 := hn2 HNN.out.1 HNN.out.2.2 h (by rw [headsAt_length HAL.out, HLEN.out]; exact HKH.out)
              have HTW10 := Lib.hid ht10
              have HAO10 := Lib.hid (owns_others HAO9.out ho10 (fun k hk h => h.2 (.inr (Option.some.inj hk).symm)))
              have HBR10 := Lib.hid (HBR9.out.trans (ho10.below HBR9.out.size (fun b hb => hb.1)))
              clear hn2 ht10 ho10
              go_wp2_with fail
              refine (asked16_any _ _ p _ kk n' w10 HTW10.out).mono ?_
              rintro e w11 ⟨rfl, rfl⟩
              have d9 : decide (n' - n > (h : Int)) = false := decide_eq_false (by omega)
              go_wp2_with fail
              go_roundw
              case rel => exact ⟨c + 1, ats.set i A1, n', by omega, by go_num, by rw [List.length_set]; exact HAL.out, HLE2.out, HSUM2.out, HAO10.out, HTW10.out, HBR10.out, by have := HNN.out.1; omega, by have := HNN.out.2.1; omega⟩
              case measure => simp [intOf]; omega
          · have HFULL := Lib.hid (show ats = L.map List.length from sum_all 30 (by rw [List.length_map, HAL.out]) (fun i hi => by rw [List.getElem_map]; exact HLE.out i hi (HAL.out ▸ hi)) (fun i hi => by rw [List.getElem_map]; exact (HFK.out.2 _ (List.getElem_mem _)).1) (by rw [HSUM.out, HAL.out, HLEN.out]; omega))
            go_wp2_with fail
            go_meet
            exact ⟨by rw [← HFULL.out]; exact HAO.out, HBR.out⟩
      case rest =>
      obtain ⟨hao, hbr⟩ := hcut
      have HAO := Lib.hid hao
      have HBR := Lib.hid hbr
      clear hao hbr HMO HT4 h0 HFIT HOL HX4 HG4
      generalize wc = w9 at HAO HBR ⊢
      go_wp2_with fail
      go_loopw [19, 159] (fun _ i wr => ∃ j : Nat, j ≤ K ∧ i = .int .i64 j ∧ Ext w9 wr) (fun _ i _ => K - (intOf i).toNat)
      case atStart => exact ⟨0, Nat.zero_le _, rfl, Ext.keeps.refl _⟩
      case round =>
        obtain ⟨q, hq, rfl, hx⟩ := hrel
        have HXR := Lib.hid hx
        clear hx
        by_cases hlt : q < K
        · have hqL : q < L.length := by have := HLEN.out; omega
          obtain ⟨g, off, la1, lc1, rfl, c0, hl⟩ := HLK.out.at q hqL
          have hca : w9.cell? ⟨G, q, none⟩ = some (.int .i64 ((L[q].length : Nat) : Int)) := (HAO.out.cellAt q (by omega)).trans (by rw [List.map_map, List.getElem?_map, List.getElem?_eq_getElem hqL]; rfl)
          have hcx : w9.cell? ⟨g, off + q, none⟩ = some (.slice la1 L[q].length lc1) := ((show Below w2.heap.size w2 w9 from HB.out.trans (Below.of_ext HB.out.size HBR.out)).cell (lt_of_cell c0)).trans c0
          obtain ⟨NL, hNL⟩ : ∃ NL, L[q].length = NL := ⟨_, rfl⟩
          rw [hNL] at hca hcx
          have z0 : ∀ z : Later Ext wr.drew, z.val.cell? ⟨G, q, none⟩ = some (.int .i64 (NL : Int)) := fun z => ((Ext.trans HXR.out (Ext.trans (Ext.drew wr) z.ext)).cell (lt_of_cell hca)).trans hca
          have z1 : ∀ z : Later Ext wr.drew, z.val.cell? ⟨g, off + q, none⟩ = some (.slice la1 NL lc1) := fun z => ((Ext.trans HXR.out (Ext.trans (Ext.drew wr) z.ext)).cell (lt_of_cell hcx)).trans hcx
          have q0 : ((NL : Int) != (NL : Int)) = false := bne_self_eq_false _
          have q0' : (NL != NL) = false := bne_self_eq_false _
          clear c0 hl hca hcx hNL
          go_wp2_with fail
          refine wp_region_segs Ext Ext.keeps [(List.range 10, none)] (by kernel_rfl) (by kernel_rfl) (fun c a a' w e h => (by exact ⟨e ▸ h.1, h.2⟩)) ?_
          simp only [List.range, List.range.loop, pickSegs, pickOps, List.map_cons, List.map_nil, Option.map_none, Option.getD_some, List.getElem?_toArray, List.getElem?_cons_zero, List.getElem?_cons_succ]
          refine wpSegs_none ?_
          repeat go_big_quiet_step (fail)
          refine wpQuiet_nil (wpSegs_nil ?_)
          clear z0 z1
          go_wp2_with fail
          go_roundw
          case rel => exact ⟨q + 1, by omega, by go_num, Ext.trans HXR.out (Ext.drew wr)⟩
          case measure => simp [intOf]; omega
        · have HFIN := Lib.hid (show Ext w wr from Ext.trans (Ext.trans (Ext.trans H1.out HB.out) HBR.out) HXR.out)
          go_wp2_with fail
          go_ret
          exact ⟨rfl, HFIN.out⟩

end Go.Proofs.Ytodjaggihmcllaa

/-
  The walk of the law LosersNil.
-/
namespace Go.Proofs.Ytodjaggihmcllaa
open Go.RowKit Go.BigFrame

set_option maxRecDepth 100000 in
set_option maxHeartbeats 4000000 in
theorem losersNil_walk (u : Value) (r : List V) (x : Value) (ks : List Ky) (w : World) (hu : RdVals w u r) (hf : ∀ v ∈ r, v.fits ∧ v.s.length ≤ maxLen) (hzu : ∀ n c, u = .slice none n c → n = 0 ∧ c = 0) (hx : RdKs w x ks) (_hk : ∀ k ∈ ks, k.fits) :
    Calls Try.prog 6 #[u, x] w fun e w' => e = .returned (.bool true) ∧ Below w.heap.size w w' := by
  obtain ⟨ua, uc, rfl, -, -⟩ := hu.shape
  obtain ⟨ka, kc, rfl, -, -⟩ := hx.shape
  have HU := Lib.hid hu
  have HF := Lib.hid hf
  have HX := Lib.hid hx
  have HO := Lib.hid (OptV.of_rd hu hzu)
  generalize r.length = RN at HU HO ⊢
  generalize ks.length = KN at HX ⊢
  clear hu hf hx hzu
  go_enter Try.func6, Try.ntmps6
  go_wp2_with fail
  refine (shown16_any w).mono ?_
  rintro e w0 ⟨rfl, x0⟩
  have H0 := Lib.hid x0
  clear x0
  go_wp2_with fail
  refine (row16_any _ r w0 (HU.out.mono H0.out) HF.out).mono ?_
  rintro e w1 ⟨rfl, x1⟩
  have H1 := Lib.hid (Ext.trans H0.out x1)
  clear x1
  cases hr : rowOk r with
  | false =>
    go_wp2_with fail
    go_ret
    exact ⟨rfl, H1.out⟩
  | true =>
    have HRO := Lib.hid (rowOk_fit hr HF.out)
    clear hr
    go_wp2_with fail
    refine (pNextNil16_any w1).mono ?_
    rintro e w2 ⟨rfl, x2⟩
    have H2 := Lib.hid (Ext.trans H1.out x2)
    clear x2
    go_wp2_with fail
    refine (some16_any _ ks w2 (HX.out.mono H2.out)).mono ?_
    rintro e w3 ⟨⟨v3, rfl, k3⟩, rfl⟩
    have HK3 := Lib.hid k3
    clear k3
    go_wp2_with fail
    refine (pNew16_any _ v3 [] [] (ks.take 10) w3 w3 (Ext.keeps.refl _) (.inl ⟨rfl, rfl⟩) (HdOpt.nil _) HK3.out (by rw [List.length_take]; omega) (FitO.nil _) (fun r hr => by simp at hr) (by decide)).mono ?_
    rintro e w4 ⟨⟨hc, -⟩ | ⟨-, p, O, n, rfl, ht, h0, h1, hO⟩, x4⟩
    · exact absurd hc (by decide)
    obtain rfl : n = 0 := by
      simp at h1
      omega
    have HT := Lib.hid (TW.of_new (X := fun _ => False) ht hO (fun _ h => h.elim))
    have HB := Lib.hid (show Below w3.heap.size w3 w4 from x4)
    clear ht h0 h1 hO x4
    go_wp2_with fail
    refine (next16_any w3.heap.size (fun _ => False) p [] (ks.take 10) 0 w4 HT.out (fun _ h => h.elim)).mono ?_
    rw [show nextI (ks.take 10) [] = 0 from rfl, show nextB (ks.take 10) [] = false from rfl]
    rintro e w5 ⟨rfl, ht, ho⟩
    have HT5 := Lib.hid ht
    have HB5 := Lib.hid (HB.out.trans (ho.below HB.out.size (fun b hb => hb.1)))
    clear ht ho
    go_wp2_with fail
    refine (some16_any _ ks w5 ((HX.out.mono H2.out).mono HB5.out)).mono ?_
    rintro e w6 ⟨⟨v6, rfl, k6⟩, rfl⟩
    have HK6 := Lib.hid k6
    clear k6
    go_wp2_with fail
    refine (pMerge16_any _ v6 [] (ks.take 10) w6 (RdLs.nil _) HK6.out (by rw [List.length_take]; omega) (fun l hl => by simp at hl) (by decide) (by decide)).mono ?_
    rintro e w7 ⟨⟨o, rfl, ho⟩, x7⟩
    obtain ⟨oa, oc, rfl, -, -⟩ := ho.shape
    have HT7 := Lib.hid (HT5.out.ext x7)
    have HB7 := Lib.hid (HB5.out.trans (Below.of_ext HB5.out.size x7))
    clear ho x7
    rw [show (LosPure.mergeL (cmpR (ks.take 10)) []).length = 0 from rfl]
    go_wp2_with fail
    refine (pPutNil16_any _ r w7 ((HU.out.mono H2.out).mono HB7.out)).mono ?_
    rintro e w8 ⟨rfl, x8⟩
    have HT8 := Lib.hid (HT7.out.ext x8)
    have HB8 := Lib.hid (HB7.out.trans (Below.of_ext HB7.out.size x8))
    clear x8
    go_wp2_with fail
    refine (pAskedNil16_any w8).mono ?_
    rintro e w9 ⟨rfl, rfl⟩
    go_wp2_with fail
    obtain ⟨o9, ho9, he9⟩ := HO.out
    refine (put16_any w3.heap.size (fun _ => False) p [] (ks.take 10) 0 _ o9 w9 HT8.out ((ho9.mono H2.out).mono HB8.out) (fun r' hr' => by rw [he9 r' hr']; exact ⟨HRO.out.2.le (by decide), Nat.le_trans HRO.out.1 (by decide)⟩) (fun _ h => h.elim)).mono ?_
    clear ho9 he9
    rw [show nextB (ks.take 10) [] = false from rfl, if_neg (by decide), show putS (ks.take 10) [] o9 = [] from rfl]
    rintro e w10 ⟨rfl, ho, n', ht, h0, h1⟩
    have h2 := h1 (Int.le_refl _) (by decide) 0 (by decide)
    replace h0 := h0 (Int.le_refl _) (by decide)
    obtain rfl : n' = 0 := by omega
    have HT10 := Lib.hid ht
    have HB10 := Lib.hid (HB8.out.trans (ho.below HB8.out.size (fun b hb => hb.1)))
    clear ho ht h0 h1 h2
    go_wp2_with fail
    refine (asked16_any w3.heap.size (fun _ => False) p [] (ks.take 10) 0 w10 HT10.out).mono ?_
    rintro e w11 ⟨rfl, rfl⟩
    have HFIN := Lib.hid (show Ext w w11 from Ext.trans H2.out HB10.out)
    go_wp2_with fail
    go_ret
    exact ⟨rfl, HFIN.out⟩

end Go.Proofs.Ytodjaggihmcllaa
