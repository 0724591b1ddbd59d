/-
  An act on a store of the program's and on one of the document's own that need not be alike: each does what it does.
-/
import Derived.Test.YthelgjoobckbaaaPagesFew
namespace Go.Proofs.Ythelgjoobckbaaa
open Go.RowKit Go.BigFrame

/-- The program's store and the document's own. -/
structure Apart (O : Nat → Prop) (w : World) (p q g : Nat) (s t : St) : Prop where
  prog : PSto O w p s
  ref : RSto w q g t
  ok : okS s
  okr : okS t
  nq : ¬ O q
  ng : ¬ O g

/-- What an act leaves. -/
def DoesApart (O : Nat → Prop) (w : World) (p q g : Nat) (s' t' : St) (e : Ending) (w' : World) : Prop :=
  (∃ r : Bool, e = .returned (.bool r)) ∧ ∃ O', Apart O' w' p q g s' t' ∧ OnlyS (fun b => O b ∨ b = g) w w' ∧ ∀ b, O' b → O b ∨ w.heap.size ≤ b

set_option maxRecDepth 100000 in
set_option maxHeartbeats 1000000 in
theorem doesB_0 (O : Nat → Prop) (p q g : Nat) (s t : St) (vb vl : Value) (a : Act5) (w : World) (hB : Apart O w p q g s t) (hrb : Rd w vb a.b) (hrl : RdV w vl (a.l.map (Value.int .i64))) (hf : a.fits) (hbl : a.b.length ≤ 500) (_hll : a.l.length ≤ 20)
    (hob : a.b ≠ [] → ∀ k, vb.ownBlock = some k → ¬ O k ∧ k ≠ g) (hol : a.l ≠ [] → ∀ k, vl.ownBlock = some k → ¬ O k ∧ k ≠ g) (hk : a.k % 7 = 0) :
    Calls Try.prog 13 #[.pointer (some ⟨p, 0, none⟩), .pointer (some ⟨q, 0, none⟩), .agg #[.int .u8 a.k, .int .i64 a.at', .int .i64 a.n, vb, vl, .int .u8 a.m.toNat]] w (DoesApart O w p q g (actS s a) (actS t a)) := by
  obtain ⟨i0, hi, hz0, hz1, hz2⟩ := info_parts Try.info5
  have HP := Lib.hid hB.prog
  have HR := Lib.hid hB.ref
  have HOK := Lib.hid hB.ok
  have HOKT := Lib.hid hB.okr
  have hnq : ¬ O q := hB.nq
  have hng : ¬ O g := hB.ng
  have HF := Lib.hid hf
  have HOL := Lib.hid (fun b hb => hB.prog.lt b hb)
  have hgw : g < w.heap.size := hB.ref.lt
  have hqw : q < w.heap.size := lt_of_cell hB.ref.top
  have HRB := Lib.hid hrb
  have HRL := Lib.hid hrl
  have HOB := Lib.hid hob
  have HOLS := Lib.hid hol
  obtain ⟨nb, hnb⟩ : ∃ nb, a.b.length = nb := ⟨_, rfl⟩
  have HNB := Lib.hid hnb
  have HO1 := Lib.hid (show ((w.alloc (.cells #[.int .u8 a.k, .int .i64 a.at', .int .i64 a.n, vb, vl, .int .u8 a.m.toNat] 36)).alloc (.cells #[] 5)).ownsRow (w.heap.size + 1) 5 1 (.slice (some ⟨w.heap.size + 1, 0, none⟩) 0 0) 0 [] from by
    have h := empty_owned (w.alloc (.cells #[.int .u8 a.k, .int .i64 a.at', .int .i64 a.n, vb, vl, .int .u8 a.m.toNat] 36))
    rw [show (w.alloc (.cells #[.int .u8 a.k, .int .i64 a.at', .int .i64 a.n, vb, vl, .int .u8 a.m.toNat] 36)).heap.size = w.heap.size + 1 from by simp] at h
    exact h)
  have HA1 := Lib.hid (show Below (w.heap.size + 1) (w.alloc (.cells #[.int .u8 a.k, .int .i64 a.at', .int .i64 a.n, vb, vl, .int .u8 a.m.toNat] 36)) ((w.alloc (.cells #[.int .u8 a.k, .int .i64 a.at', .int .i64 a.n, vb, vl, .int .u8 a.m.toNat] 36)).alloc (.cells #[] 5)) from (Below.refl _ _).alloc (by simp) _)
  have HX1 := Lib.hid (hrb.mono (Ext.trans (ext_new w (.cells #[.int .u8 a.k, .int .i64 a.at', .int .i64 a.n, vb, vl, .int .u8 a.m.toNat] 36)) (ext_new _ (.cells #[] 5))))
  have HN1 := Lib.hid (show ∀ j u, ([.int .u8 a.k, .int .i64 a.at', .int .i64 a.n, vb, vl, .int .u8 a.m.toNat] : List Value)[j]? = some u → (w.alloc (.cells #[.int .u8 a.k, .int .i64 a.at', .int .i64 a.n, vb, vl, .int .u8 a.m.toNat] 36)).cell? ⟨w.heap.size, j, none⟩ = some u from fun j u hj => by
    have := row_new w [.int .u8 a.k, .int .i64 a.at', .int .i64 a.n, vb, vl, .int .u8 a.m.toNat] 36 j u hj
    rwa [add_at, Nat.zero_add] at this)
  have HBV := Lib.hid (bv_oneCell a.b)
  have HLM := Lib.hid (show (a.b.map bv).length = nb from by rw [List.length_map, hnb])
  rw [hnb] at hbl
  clear hB hrb hrl hf hob hol hnb
  obtain ⟨kk, hkk⟩ : ∃ kk, a.k = kk := ⟨_, rfl⟩
  have hkb : 0 ≤ kk ∧ kk ≤ 255 := by rw [← hkk]; exact HF.out.k
  have HKK := Lib.hid hkk
  have HAS := Lib.hid (show actS s a = actS s a from rfl)
  have hk2 : kk % 7 = 0 := by rw [← hkk]; exact hk
  have HK := Lib.hid hk
  rw [hkk] at HO1 HA1 HX1 HN1 ⊢
  clear hk hkk
  go_enter Try.func13, Try.ntmps13
  go_wp2_with (at_builtin; go_must (refine wpList_append_rd rfl (.tmp 24) (.tmp 26) 33 rfl (w.heap.size + 1) 5 i0 (.int .u8 0) 1 Try.underlying33 hi hz0 hz1 hz2 rfl _ _ _ rfl HO1.out _ _ rfl HX1.out HBV.out (by rw [HLM.out]; unfold maxLen; omega) (by rw [HLM.out]; omega) (by simp) ?_); intro v2 w2 hown2 hgrow2; rw [HLM.out, Nat.zero_add, List.nil_append] at hown2; obtain ⟨a2, cap2, rfl, hs1, hs2⟩ := own_shape hown2; unfold maxLen at hs2; have HO2 := Lib.hid hown2; have HB2 := Lib.hid (show Below (w.heap.size + 1) _ w2 from HA1.out.grown hgrow2 (by simp) (fun k hk => by cases hk; exact Nat.le_refl _)); clear hown2 hgrow2; have HC2 := Lib.hid (fun j u hj => (HB2.out.cell (p := ⟨w.heap.size, j, none⟩) (Nat.lt_succ_self _)).trans (HN1.out j u hj)); have HLT2 := Lib.hid (fun k hk => HO2.out.lt k hk); have c0 := HC2.out 0 _ rfl; have c1 := HC2.out 1 _ rfl; have c2 := HC2.out 2 _ rfl; have c3 := HC2.out 3 _ rfl; have c4 := HC2.out 4 _ rfl; have c5 := HC2.out 5 _ rfl)
  have HE2 := Lib.hid (show Ext w w2 from Ext.trans (ext_new w _) (HB2.out.mono (by simp)))
  have HP2 := Lib.hid (HP.out.onlyS (OnlyS.of_ext (X := fun _ => False) HE2.out) (fun _ _ h => h))
  have HR2 := Lib.hid (HR.out.mono HE2.out)
  have HL2 := Lib.hid (show OwnP (w.heap.size + 1) w2 (.slice a2 nb cap2) a.b from OwnP.of_owns (by
    have h := HO2.out
    rw [← HNB.out] at h ⊢
    exact h))
  have HQ2 := Lib.hid (show OwnQ (w.heap.size + 1) w2 (.slice a2 nb cap2) nb from by
    have h := OwnQ.of_own HL2.out
    rwa [HNB.out] at h)
  have hb5 : ¬ O w.heap.size := fun h => by have := HOL.out _ h; omega
  refine (pAlloc_any (O := O) a.n HP2.out HOK.out HF.out.n).mono ?_
  rintro e w3 ⟨v3, rfl, hown3, O3, hp3, ho3, hn3, hv3⟩
  have HO3 := Lib.hid ho3
  have HP3 := Lib.hid hp3
  have HN3 := Lib.hid hn3
  have HW3 := Lib.hid hown3
  have HR3 := Lib.hid (HR2.out.onlyS ho3 hnq hng)
  clear c0 c1 c2 c3 c4 c5
  have hc := cells_onlyS HC2.out HO3.out hb5
  have HC3 := Lib.hid hc
  have c0 := hc 0 _ rfl
  have c1 := hc 1 _ rfl
  have c2 := hc 2 _ rfl
  have c3 := hc 3 _ rfl
  have c4 := hc 4 _ rfl
  have c5 := hc 5 _ rfl
  clear hc hown3 hp3 ho3 hn3
  go_wp2_with fail
  refine (refAlloc_any q g t a.n w3 HR3.out HF.out.n.1 HF.out.n.2).mono ?_
  rintro e w4 ⟨v4, rfl, hown4, hr4, ho4⟩
  have HR4 := Lib.hid hr4
  have HO4 := Lib.hid ho4
  have HI4 := Lib.hid (refInts_any v3 v4 ((allocS s a.n).1.1.map Int.ofNat) ((allocS t a.n).1.1.map Int.ofNat) w4
    (by rw [← iv_ints]; exact (RdV.of_owns HW3.out).onlyS (OnlyS.of_onlyP (X := fun b => b = g) ho4 rfl) (fun _ k hk => by have h1 := (HW3.out.lt k hk).1; have h2 := HE2.out.size; omega))
    (by rw [← iv_ints]; exact RdV.of_owns hown4) (by rw [List.length_map]; have := allocS_le s a.n; have := HOK.out.1; omega) (by rw [List.length_map]; have := allocS_le t a.n; have := HOKT.out.1; omega))
  clear c0 c1 c2 c3 c4 c5 hown4 hr4 ho4
  obtain ⟨R, hR⟩ : ∃ R, decide (((allocS s a.n).1.1.map Int.ofNat) = ((allocS t a.n).1.1.map Int.ofNat)) = R := ⟨_, rfl⟩
  rw [hR] at HI4
  clear hR
  generalize (allocS s a.n).1.2 = E
  generalize (allocS t a.n).1.2 = E'
  go_wp2_with fail
  refine HI4.out.mono ?_
  rintro e w5 ⟨rfl, hx5⟩
  have HX5 := Lib.hid hx5
  clear hx5
  cases R <;> (
    have HPz := Lib.hid ((HP3.out.onlyS (OnlyS.of_onlyP (X := fun b => b = g) HO4.out rfl) (fun b hb hx => by subst hx; rcases HN3.out _ hb with h | h; exact hng h; have := HE2.out.size; omega)).onlyS (OnlyS.of_ext (X := fun _ => False) HX5.out) (fun _ _ h => h))
    have HRz := Lib.hid (HR4.out.mono HX5.out)
    have HXz := Lib.hid (show OnlyS (fun b => O b ∨ b = g) w2 w5 from ((HO3.out.mono (fun _ _ h => .inl h)).trans (OnlyS.of_onlyP (X := fun b => O b ∨ b = g) HO4.out (.inr rfl)) (fun _ _ h => h)).trans (OnlyS.of_ext (X := fun _ => False) HX5.out) (fun _ _ h => h.elim))
    have HQz := Lib.hid (HQ2.out.onlyS HXz.out (fun k hk hx => by
      have h1 := (HLT2.out k hk).1
      rcases hx with hx | hx
      · have := HOL.out k hx; omega
      · omega))
    have HSz := Lib.hid (show actS s a = (allocS s a.n).2 from by unfold actS; rw [if_pos HK.out])
    have HTz := Lib.hid (show actS t a = (allocS t a.n).2 from by unfold actS; rw [if_pos HK.out])
    go_wp2_with fail
    go_loopw [23, 167] (fun _ i wr => ∃ j : Nat, j ≤ nb ∧ i = .int .i64 j ∧ OwnQ (w.heap.size + 1) wr (.slice a2 nb cap2) nb ∧ OnlyS (fun b => w.heap.size + 1 ≤ b ∧ b < w2.heap.size) w5 wr) (fun _ i _ => nb - (intOf i).toNat)
    case atStart => exact ⟨0, Nat.zero_le _, rfl, HQz.out, OnlyS.refl _ _⟩
    case round =>
      obtain ⟨j, hj, rfl, hq, ho⟩ := hrel
      have HQ := Lib.hid hq
      have HO := Lib.hid ho
      clear hq ho
      by_cases hlt : j < nb
      · obtain ⟨gg, off, z, rfl, hb1, hcz, hfz⟩ := HQ.out.at hlt
        have hgg : w.heap.size + 1 ≤ gg ∧ gg < w2.heap.size := HLT2.out gg rfl
        go_wp2_with fail
        go_roundw
        case rel => exact ⟨j + 1, by omega, by go_num, HQ.out.put hlt _, HO.out.trans (OnlyS.of_onlyP (X := fun b => w.heap.size + 1 ≤ b ∧ b < w2.heap.size) (OnlyP.set gg (off + j) _ _) hgg) (fun _ _ h => h)⟩
        case measure => simp [intOf]; omega
      · go_wp2_with fail
        go_ret
        unfold DoesApart
        rw [HSz.out, HTz.out]
        refine ⟨⟨_, rfl⟩, O3, ⟨HPz.out.onlyS HO.out (fun b hb hx => ?_), HRz.out.onlyS HO.out (by omega) (by omega), ?_, ?_, fun h => ?_, fun h => ?_⟩, ?_, fun b hb => ?_⟩
        · rcases HN3.out b hb with h | h
          · have := HOL.out b h; omega
          · omega
        · rw [← HSz.out]; exact actS_ok HOK.out a
        · rw [← HTz.out]; exact actS_ok HOKT.out a
        · rcases HN3.out q h with h | h
          · exact hnq h
          · have := HE2.out.size; omega
        · rcases HN3.out g h with h | h
          · exact hng h
          · have := HE2.out.size; omega
        · refine ((OnlyS.of_ext HE2.out).trans HXz.out (fun _ _ h => h)).trans HO.out (fun i hi h => ?_)
          omega
        · rcases HN3.out b hb with h | h
          · exact .inl h
          · exact .inr (Nat.le_trans HE2.out.size h))

set_option maxRecDepth 100000 in
set_option maxHeartbeats 1000000 in
theorem doesB_1 (O : Nat → Prop) (p q g : Nat) (s t : St) (vb vl : Value) (a : Act5) (w : World) (hB : Apart O w p q g s t) (hrb : Rd w vb a.b) (hrl : RdV w vl (a.l.map (Value.int .i64))) (hf : a.fits) (hbl : a.b.length ≤ 500) (_hll : a.l.length ≤ 20)
    (hob : a.b ≠ [] → ∀ k, vb.ownBlock = some k → ¬ O k ∧ k ≠ g) (hol : a.l ≠ [] → ∀ k, vl.ownBlock = some k → ¬ O k ∧ k ≠ g) (hk : a.k % 7 = 1) :
    Calls Try.prog 13 #[.pointer (some ⟨p, 0, none⟩), .pointer (some ⟨q, 0, none⟩), .agg #[.int .u8 a.k, .int .i64 a.at', .int .i64 a.n, vb, vl, .int .u8 a.m.toNat]] w (DoesApart O w p q g (actS s a) (actS t a)) := by
  obtain ⟨i0, hi, hz0, hz1, hz2⟩ := info_parts Try.info5
  have HP := Lib.hid hB.prog
  have HR := Lib.hid hB.ref
  have HOK := Lib.hid hB.ok
  have HOKT := Lib.hid hB.okr
  have hnq : ¬ O q := hB.nq
  have hng : ¬ O g := hB.ng
  have HF := Lib.hid hf
  have HOL := Lib.hid (fun b hb => hB.prog.lt b hb)
  have hgw : g < w.heap.size := hB.ref.lt
  have hqw : q < w.heap.size := lt_of_cell hB.ref.top
  have HRB := Lib.hid hrb
  have HRL := Lib.hid hrl
  have HOB := Lib.hid hob
  have HOLS := Lib.hid hol
  obtain ⟨nb, hnb⟩ : ∃ nb, a.b.length = nb := ⟨_, rfl⟩
  have HNB := Lib.hid hnb
  have HO1 := Lib.hid (show ((w.alloc (.cells #[.int .u8 a.k, .int .i64 a.at', .int .i64 a.n, vb, vl, .int .u8 a.m.toNat] 36)).alloc (.cells #[] 5)).ownsRow (w.heap.size + 1) 5 1 (.slice (some ⟨w.heap.size + 1, 0, none⟩) 0 0) 0 [] from by
    have h := empty_owned (w.alloc (.cells #[.int .u8 a.k, .int .i64 a.at', .int .i64 a.n, vb, vl, .int .u8 a.m.toNat] 36))
    rw [show (w.alloc (.cells #[.int .u8 a.k, .int .i64 a.at', .int .i64 a.n, vb, vl, .int .u8 a.m.toNat] 36)).heap.size = w.heap.size + 1 from by simp] at h
    exact h)
  have HA1 := Lib.hid (show Below (w.heap.size + 1) (w.alloc (.cells #[.int .u8 a.k, .int .i64 a.at', .int .i64 a.n, vb, vl, .int .u8 a.m.toNat] 36)) ((w.alloc (.cells #[.int .u8 a.k, .int .i64 a.at', .int .i64 a.n, vb, vl, .int .u8 a.m.toNat] 36)).alloc (.cells #[] 5)) from (Below.refl _ _).alloc (by simp) _)
  have HX1 := Lib.hid (hrb.mono (Ext.trans (ext_new w (.cells #[.int .u8 a.k, .int .i64 a.at', .int .i64 a.n, vb, vl, .int .u8 a.m.toNat] 36)) (ext_new _ (.cells #[] 5))))
  have HN1 := Lib.hid (show ∀ j u, ([.int .u8 a.k, .int .i64 a.at', .int .i64 a.n, vb, vl, .int .u8 a.m.toNat] : List Value)[j]? = some u → (w.alloc (.cells #[.int .u8 a.k, .int .i64 a.at', .int .i64 a.n, vb, vl, .int .u8 a.m.toNat] 36)).cell? ⟨w.heap.size, j, none⟩ = some u from fun j u hj => by
    have := row_new w [.int .u8 a.k, .int .i64 a.at', .int .i64 a.n, vb, vl, .int .u8 a.m.toNat] 36 j u hj
    rwa [add_at, Nat.zero_add] at this)
  have HBV := Lib.hid (bv_oneCell a.b)
  have HLM := Lib.hid (show (a.b.map bv).length = nb from by rw [List.length_map, hnb])
  rw [hnb] at hbl
  clear hB hrb hrl hf hob hol hnb
  obtain ⟨kk, hkk⟩ : ∃ kk, a.k = kk := ⟨_, rfl⟩
  have hkb : 0 ≤ kk ∧ kk ≤ 255 := by rw [← hkk]; exact HF.out.k
  have HKK := Lib.hid hkk
  have HAS := Lib.hid (show actS s a = actS s a from rfl)
  have hk2 : kk % 7 = 1 := by rw [← hkk]; exact hk
  have HK := Lib.hid hk
  rw [hkk] at HO1 HA1 HX1 HN1 ⊢
  clear hk hkk
  go_enter Try.func13, Try.ntmps13
  go_wp2_with (at_builtin; go_must (refine wpList_append_rd rfl (.tmp 24) (.tmp 26) 33 rfl (w.heap.size + 1) 5 i0 (.int .u8 0) 1 Try.underlying33 hi hz0 hz1 hz2 rfl _ _ _ rfl HO1.out _ _ rfl HX1.out HBV.out (by rw [HLM.out]; unfold maxLen; omega) (by rw [HLM.out]; omega) (by simp) ?_); intro v2 w2 hown2 hgrow2; rw [HLM.out, Nat.zero_add, List.nil_append] at hown2; obtain ⟨a2, cap2, rfl, hs1, hs2⟩ := own_shape hown2; unfold maxLen at hs2; have HO2 := Lib.hid hown2; have HB2 := Lib.hid (show Below (w.heap.size + 1) _ w2 from HA1.out.grown hgrow2 (by simp) (fun k hk => by cases hk; exact Nat.le_refl _)); clear hown2 hgrow2; have HC2 := Lib.hid (fun j u hj => (HB2.out.cell (p := ⟨w.heap.size, j, none⟩) (Nat.lt_succ_self _)).trans (HN1.out j u hj)); have HLT2 := Lib.hid (fun k hk => HO2.out.lt k hk); have c0 := HC2.out 0 _ rfl; have c1 := HC2.out 1 _ rfl; have c2 := HC2.out 2 _ rfl; have c3 := HC2.out 3 _ rfl; have c4 := HC2.out 4 _ rfl; have c5 := HC2.out 5 _ rfl)
  have HE2 := Lib.hid (show Ext w w2 from Ext.trans (ext_new w _) (HB2.out.mono (by simp)))
  have HP2 := Lib.hid (HP.out.onlyS (OnlyS.of_ext (X := fun _ => False) HE2.out) (fun _ _ h => h))
  have HR2 := Lib.hid (HR.out.mono HE2.out)
  have HL2 := Lib.hid (show OwnP (w.heap.size + 1) w2 (.slice a2 nb cap2) a.b from OwnP.of_owns (by
    have h := HO2.out
    rw [← HNB.out] at h ⊢
    exact h))
  have HQ2 := Lib.hid (show OwnQ (w.heap.size + 1) w2 (.slice a2 nb cap2) nb from by
    have h := OwnQ.of_own HL2.out
    rwa [HNB.out] at h)
  have hb5 : ¬ O w.heap.size := fun h => by have := HOL.out _ h; omega
  have HPD := Lib.hid (HP2.out.onlyS (OnlyS.of_ext (X := fun _ => False) (Ext.drew w2)) (fun _ _ h => h))
  have hbX : ¬ (fun b => O b ∨ b = g) w.heap.size := fun h => by rcases h with h | h; exact hb5 h; omega
  have hz0 : ∀ z : Later (OnlyS fun b => O b ∨ b = g) w2.drew, z.val.cell? ⟨w.heap.size, 1, none⟩ = some (.int .i64 a.at') := fun z => z.ext.cell (show w2.drew.cell? ⟨w.heap.size, 1, none⟩ = _ from c1) hbX
  have hz3 : ∀ z : Later (OnlyS fun b => O b ∨ b = g) w2.drew, z.val.cell? ⟨w.heap.size, 3, none⟩ = some vb := fun z => z.ext.cell (show w2.drew.cell? ⟨w.heap.size, 3, none⟩ = _ from c3) hbX
  refine wp_region_segs (OnlyS fun b => O b ∨ b = g) (OnlyS.keeps _) [([0, 1, 2, 4, 5, 6], some 3), ([], some 7), ([8, 9], none)] (by kernel_rfl) (by kernel_rfl) (fun c a a' w e h => (by exact ⟨e ▸ h.1, h.2⟩)) ?_
  simp only [pickSegs, pickOps, List.map_cons, List.map_nil, Option.map_some, Option.map_none, Option.getD_some, List.getElem?_toArray, List.getElem?_cons_zero, List.getElem?_cons_succ]
  refine wpSegs_some fun K hK => ?_
  repeat go_big_quiet_step (fail)
  refine wpQuiet_nil ?_
  clear hz0 hz3 c0 c1 c2 c3 c4 c5
  go_wp2_with fail
  refine (pFree_any (O := O) a.at' HPD.out HOK.out HF.out.at').mono ?_
  rintro e w3 ⟨rfl, O3, hp3, ho3, hn3, hv3⟩
  have HO3 := Lib.hid ho3
  have HP3 := Lib.hid hp3
  have HN3 := Lib.hid (show ∀ b, O3 b → O b ∨ w2.heap.size ≤ b from hn3)
  have HR3 := Lib.hid ((HR2.out.mono (Ext.drew w2)).onlyS ho3 hnq hng)
  clear hp3 ho3 hn3 hv3
  have HRC := Lib.hid (refFree_any q g t a.at' w3 HR3.out HF.out.at'.1 HF.out.at'.2)
  obtain ⟨E, hE⟩ : ∃ E, (freeS s a.at').1 = E := ⟨_, rfl⟩
  obtain ⟨E', hE'⟩ : ∃ E', (freeS t a.at').1 = E' := ⟨_, rfl⟩
  rw [hE]
  rw [hE'] at HRC
  clear hE hE'
  go_wp2_with fail
  refine ⟨HO3.out.mono (fun _ _ h => .inl h), hK _ _ ?_⟩
  clear hK K
  refine wpSegs_some fun K hK => ?_
  refine wpQuiet_nil ?_
  go_wp2_with fail
  refine HRC.out.mono ?_
  rintro e w4 ⟨rfl, hr4, ho4⟩
  have HR4 := Lib.hid hr4
  have HO4 := Lib.hid ho4
  clear hr4 ho4
  go_wp2_with fail
  refine ⟨OnlyS.of_onlyP HO4.out (.inr rfl), hK _ _ ?_⟩
  clear hK K
  refine wpSegs_none ?_
  repeat go_big_quiet_step (fail)
  refine wpQuiet_nil (wpSegs_nil ?_)
  have HPz := Lib.hid (HP3.out.onlyS (OnlyS.of_onlyP (X := fun b => b = g) HO4.out rfl) (fun b hb hx => by subst hx; rcases HN3.out _ hb with h | h; exact hng h; have := HE2.out.size; have : w2.drew.heap.size = w2.heap.size := rfl; omega))
  have HRz := Lib.hid (HR4.out)
  have HXz := Lib.hid (show OnlyS (fun b => O b ∨ b = g) w2 w4 from (((OnlyS.of_ext (X := fun _ => False) (Ext.drew w2)).mono (fun _ _ h => h.elim)).trans (HO3.out.mono (Y := fun b => O b ∨ b = g) (fun _ _ h => .inl h)) (fun _ _ h => h)).trans (OnlyS.of_onlyP (X := fun b => O b ∨ b = g) HO4.out (.inr rfl)) (fun _ _ h => h))
  have HQz := Lib.hid (HQ2.out.onlyS HXz.out (fun k hk hx => by
    have h1 := (HLT2.out k hk).1
    rcases hx with hx | hx
    · have := HOL.out k hx; omega
    · omega))
  have HSz := Lib.hid (show actS s a = (freeS s a.at').2 from by unfold actS; rw [if_neg (by have := HK.out; omega), if_pos HK.out])
  have HTz := Lib.hid (show actS t a = (freeS t a.at').2 from by unfold actS; rw [if_neg (by have := HK.out; omega), if_pos HK.out])
  go_wp2_with fail
  go_loopw [23, 167] (fun _ i wr => ∃ j : Nat, j ≤ nb ∧ i = .int .i64 j ∧ OwnQ (w.heap.size + 1) wr (.slice a2 nb cap2) nb ∧ OnlyS (fun b => w.heap.size + 1 ≤ b ∧ b < w2.heap.size) w4 wr) (fun _ i _ => nb - (intOf i).toNat)
  case atStart => exact ⟨0, Nat.zero_le _, rfl, HQz.out, OnlyS.refl _ _⟩
  case round =>
    obtain ⟨j, hj, rfl, hq, ho⟩ := hrel
    have HQ := Lib.hid hq
    have HO := Lib.hid ho
    clear hq ho
    by_cases hlt : j < nb
    · obtain ⟨gg, off, z, rfl, hb1, hcz, hfz⟩ := HQ.out.at hlt
      have hgg : w.heap.size + 1 ≤ gg ∧ gg < w2.heap.size := HLT2.out gg rfl
      go_wp2_with fail
      go_roundw
      case rel => exact ⟨j + 1, by omega, by go_num, HQ.out.put hlt _, HO.out.trans (OnlyS.of_onlyP (X := fun b => w.heap.size + 1 ≤ b ∧ b < w2.heap.size) (OnlyP.set gg (off + j) _ _) hgg) (fun _ _ h => h)⟩
      case measure => simp [intOf]; omega
    · go_wp2_with fail
      go_ret
      unfold DoesApart
      rw [HSz.out, HTz.out]
      refine ⟨⟨_, rfl⟩, O3, ⟨HPz.out.onlyS HO.out (fun b hb hx => ?_), HRz.out.onlyS HO.out (by omega) (by omega), ?_, ?_, fun h => ?_, fun h => ?_⟩, ?_, fun b hb => ?_⟩
      · rcases HN3.out b hb with h | h
        · have := HOL.out b h; omega
        · omega
      · rw [← HSz.out]; exact actS_ok HOK.out a
      · rw [← HTz.out]; exact actS_ok HOKT.out a
      · rcases HN3.out q h with h | h
        · exact hnq h
        · have := HE2.out.size; omega
      · rcases HN3.out g h with h | h
        · exact hng h
        · have := HE2.out.size; omega
      · refine ((OnlyS.of_ext HE2.out).trans HXz.out (fun _ _ h => h)).trans HO.out (fun i hi h => ?_)
        omega
      · rcases HN3.out b hb with h | h
        · exact .inl h
        · exact .inr (Nat.le_trans HE2.out.size h)

set_option maxRecDepth 100000 in
set_option maxHeartbeats 1000000 in
theorem doesB_2 (O : Nat → Prop) (p q g : Nat) (s t : St) (vb vl : Value) (a : Act5) (w : World) (hB : Apart O w p q g s t) (hrb : Rd w vb a.b) (hrl : RdV w vl (a.l.map (Value.int .i64))) (hf : a.fits) (hbl : a.b.length ≤ 500) (_hll : a.l.length ≤ 20)
    (hob : a.b ≠ [] → ∀ k, vb.ownBlock = some k → ¬ O k ∧ k ≠ g) (hol : a.l ≠ [] → ∀ k, vl.ownBlock = some k → ¬ O k ∧ k ≠ g) (hk : a.k % 7 = 2) :
    Calls Try.prog 13 #[.pointer (some ⟨p, 0, none⟩), .pointer (some ⟨q, 0, none⟩), .agg #[.int .u8 a.k, .int .i64 a.at', .int .i64 a.n, vb, vl, .int .u8 a.m.toNat]] w (DoesApart O w p q g (actS s a) (actS t a)) := by
  obtain ⟨i0, hi, hz0, hz1, hz2⟩ := info_parts Try.info5
  have HP := Lib.hid hB.prog
  have HR := Lib.hid hB.ref
  have HOK := Lib.hid hB.ok
  have HOKT := Lib.hid hB.okr
  have hnq : ¬ O q := hB.nq
  have hng : ¬ O g := hB.ng
  have HF := Lib.hid hf
  have HOL := Lib.hid (fun b hb => hB.prog.lt b hb)
  have hgw : g < w.heap.size := hB.ref.lt
  have hqw : q < w.heap.size := lt_of_cell hB.ref.top
  have HRB := Lib.hid hrb
  have HRL := Lib.hid hrl
  have HOB := Lib.hid hob
  have HOLS := Lib.hid hol
  obtain ⟨nb, hnb⟩ : ∃ nb, a.b.length = nb := ⟨_, rfl⟩
  have HNB := Lib.hid hnb
  have HO1 := Lib.hid (show ((w.alloc (.cells #[.int .u8 a.k, .int .i64 a.at', .int .i64 a.n, vb, vl, .int .u8 a.m.toNat] 36)).alloc (.cells #[] 5)).ownsRow (w.heap.size + 1) 5 1 (.slice (some ⟨w.heap.size + 1, 0, none⟩) 0 0) 0 [] from by
    have h := empty_owned (w.alloc (.cells #[.int .u8 a.k, .int .i64 a.at', .int .i64 a.n, vb, vl, .int .u8 a.m.toNat] 36))
    rw [show (w.alloc (.cells #[.int .u8 a.k, .int .i64 a.at', .int .i64 a.n, vb, vl, .int .u8 a.m.toNat] 36)).heap.size = w.heap.size + 1 from by simp] at h
    exact h)
  have HA1 := Lib.hid (show Below (w.heap.size + 1) (w.alloc (.cells #[.int .u8 a.k, .int .i64 a.at', .int .i64 a.n, vb, vl, .int .u8 a.m.toNat] 36)) ((w.alloc (.cells #[.int .u8 a.k, .int .i64 a.at', .int .i64 a.n, vb, vl, .int .u8 a.m.toNat] 36)).alloc (.cells #[] 5)) from (Below.refl _ _).alloc (by simp) _)
  have HX1 := Lib.hid (hrb.mono (Ext.trans (ext_new w (.cells #[.int .u8 a.k, .int .i64 a.at', .int .i64 a.n, vb, vl, .int .u8 a.m.toNat] 36)) (ext_new _ (.cells #[] 5))))
  have HN1 := Lib.hid (show ∀ j u, ([.int .u8 a.k, .int .i64 a.at', .int .i64 a.n, vb, vl, .int .u8 a.m.toNat] : List Value)[j]? = some u → (w.alloc (.cells #[.int .u8 a.k, .int .i64 a.at', .int .i64 a.n, vb, vl, .int .u8 a.m.toNat] 36)).cell? ⟨w.heap.size, j, none⟩ = some u from fun j u hj => by
    have := row_new w [.int .u8 a.k, .int .i64 a.at', .int .i64 a.n, vb, vl, .int .u8 a.m.toNat] 36 j u hj
    rwa [add_at, Nat.zero_add] at this)
  have HBV := Lib.hid (bv_oneCell a.b)
  have HLM := Lib.hid (show (a.b.map bv).length = nb from by rw [List.length_map, hnb])
  rw [hnb] at hbl
  clear hB hrb hrl hf hob hol hnb
  obtain ⟨kk, hkk⟩ : ∃ kk, a.k = kk := ⟨_, rfl⟩
  have hkb : 0 ≤ kk ∧ kk ≤ 255 := by rw [← hkk]; exact HF.out.k
  have HKK := Lib.hid hkk
  have HAS := Lib.hid (show actS s a = actS s a from rfl)
  have hk2 : kk % 7 = 2 := by rw [← hkk]; exact hk
  have HK := Lib.hid hk
  rw [hkk] at HO1 HA1 HX1 HN1 ⊢
  clear hk hkk
  go_enter Try.func13, Try.ntmps13
  go_wp2_with (at_builtin; go_must (refine wpList_append_rd rfl (.tmp 24) (.tmp 26) 33 rfl (w.heap.size + 1) 5 i0 (.int .u8 0) 1 Try.underlying33 hi hz0 hz1 hz2 rfl _ _ _ rfl HO1.out _ _ rfl HX1.out HBV.out (by rw [HLM.out]; unfold maxLen; omega) (by rw [HLM.out]; omega) (by simp) ?_); intro v2 w2 hown2 hgrow2; rw [HLM.out, Nat.zero_add, List.nil_append] at hown2; obtain ⟨a2, cap2, rfl, hs1, hs2⟩ := own_shape hown2; unfold maxLen at hs2; have HO2 := Lib.hid hown2; have HB2 := Lib.hid (show Below (w.heap.size + 1) _ w2 from HA1.out.grown hgrow2 (by simp) (fun k hk => by cases hk; exact Nat.le_refl _)); clear hown2 hgrow2; have HC2 := Lib.hid (fun j u hj => (HB2.out.cell (p := ⟨w.heap.size, j, none⟩) (Nat.lt_succ_self _)).trans (HN1.out j u hj)); have HLT2 := Lib.hid (fun k hk => HO2.out.lt k hk); have c0 := HC2.out 0 _ rfl; have c1 := HC2.out 1 _ rfl; have c2 := HC2.out 2 _ rfl; have c3 := HC2.out 3 _ rfl; have c4 := HC2.out 4 _ rfl; have c5 := HC2.out 5 _ rfl)
  have HE2 := Lib.hid (show Ext w w2 from Ext.trans (ext_new w _) (HB2.out.mono (by simp)))
  have HP2 := Lib.hid (HP.out.onlyS (OnlyS.of_ext (X := fun _ => False) HE2.out) (fun _ _ h => h))
  have HR2 := Lib.hid (HR.out.mono HE2.out)
  have HL2 := Lib.hid (show OwnP (w.heap.size + 1) w2 (.slice a2 nb cap2) a.b from OwnP.of_owns (by
    have h := HO2.out
    rw [← HNB.out] at h ⊢
    exact h))
  have HQ2 := Lib.hid (show OwnQ (w.heap.size + 1) w2 (.slice a2 nb cap2) nb from by
    have h := OwnQ.of_own HL2.out
    rwa [HNB.out] at h)
  have hb5 : ¬ O w.heap.size := fun h => by have := HOL.out _ h; omega
  have HPD := Lib.hid (HP2.out.onlyS (OnlyS.of_ext (X := fun _ => False) (Ext.drew w2)) (fun _ _ h => h))
  have hbX : ¬ (fun b => O b ∨ b = g) w.heap.size := fun h => by rcases h with h | h; exact hb5 h; omega
  have hz0 : ∀ z : Later (OnlyS fun b => O b ∨ b = g) w2.drew, z.val.cell? ⟨w.heap.size, 1, none⟩ = some (.int .i64 a.at') := fun z => z.ext.cell (show w2.drew.cell? ⟨w.heap.size, 1, none⟩ = _ from c1) hbX
  have hz3 : ∀ z : Later (OnlyS fun b => O b ∨ b = g) w2.drew, z.val.cell? ⟨w.heap.size, 3, none⟩ = some vb := fun z => z.ext.cell (show w2.drew.cell? ⟨w.heap.size, 3, none⟩ = _ from c3) hbX
  refine wp_region_segs (OnlyS fun b => O b ∨ b = g) (OnlyS.keeps _) [([0, 1, 2, 3, 5, 6, 7, 8, 9], some 4), ([], some 10), ([11, 12], none)] (by kernel_rfl) (by kernel_rfl) (fun c a a' w e h => (by exact ⟨e ▸ h.1, h.2⟩)) ?_
  simp only [pickSegs, pickOps, List.map_cons, List.map_nil, Option.map_some, Option.map_none, Option.getD_some, List.getElem?_toArray, List.getElem?_cons_zero, List.getElem?_cons_succ]
  refine wpSegs_some fun K hK => ?_
  repeat go_big_quiet_step (fail)
  refine wpQuiet_nil ?_
  clear hz0 hz3 c0 c1 c2 c3 c4 c5
  go_wp2_with fail
  refine (pWrite_any (O := O) a.at' (.slice a2 nb cap2) a.b HPD.out HOK.out HF.out.at' (HL2.out.rd.mono (Ext.drew w2)) (fun _ k hk h => by have h1 := (HLT2.out k hk).1; have := HOL.out k h; omega) (by rw [HNB.out]; omega)).mono ?_
  rintro e w3 ⟨rfl, O3, hp3, ho3, hn3, hv3⟩
  have HO3 := Lib.hid ho3
  have HP3 := Lib.hid hp3
  have HN3 := Lib.hid (show ∀ b, O3 b → O b ∨ w2.heap.size ≤ b from hn3)
  have HR3 := Lib.hid ((HR2.out.mono (Ext.drew w2)).onlyS ho3 hnq hng)
  clear hp3 ho3 hn3 hv3
  have HRC := Lib.hid (refWrite_any q g t a.at' vb a.b w3 HR3.out HF.out.at'.1 HF.out.at'.2 ((HRB.out.mono (Ext.trans HE2.out (Ext.drew w2))).onlyS HO3.out (fun h k hk => (HOB.out h k hk).1)))
  obtain ⟨E, hE⟩ : ∃ E, (writeS s a.at' a.b).1 = E := ⟨_, rfl⟩
  obtain ⟨E', hE'⟩ : ∃ E', (writeS t a.at' a.b).1 = E' := ⟨_, rfl⟩
  rw [hE]
  rw [hE'] at HRC
  clear hE hE'
  go_wp2_with fail
  refine ⟨HO3.out.mono (fun _ _ h => .inl h), hK _ _ ?_⟩
  clear hK K
  refine wpSegs_some fun K hK => ?_
  refine wpQuiet_nil ?_
  go_wp2_with fail
  refine HRC.out.mono ?_
  rintro e w4 ⟨rfl, hr4, ho4⟩
  have HR4 := Lib.hid hr4
  have HO4 := Lib.hid ho4
  clear hr4 ho4
  go_wp2_with fail
  refine ⟨OnlyS.of_onlyP HO4.out (.inr rfl), hK _ _ ?_⟩
  clear hK K
  refine wpSegs_none ?_
  repeat go_big_quiet_step (fail)
  refine wpQuiet_nil (wpSegs_nil ?_)
  have HPz := Lib.hid (HP3.out.onlyS (OnlyS.of_onlyP (X := fun b => b = g) HO4.out rfl) (fun b hb hx => by subst hx; rcases HN3.out _ hb with h | h; exact hng h; have := HE2.out.size; have : w2.drew.heap.size = w2.heap.size := rfl; omega))
  have HRz := Lib.hid (HR4.out)
  have HXz := Lib.hid (show OnlyS (fun b => O b ∨ b = g) w2 w4 from (((OnlyS.of_ext (X := fun _ => False) (Ext.drew w2)).mono (fun _ _ h => h.elim)).trans (HO3.out.mono (Y := fun b => O b ∨ b = g) (fun _ _ h => .inl h)) (fun _ _ h => h)).trans (OnlyS.of_onlyP (X := fun b => O b ∨ b = g) HO4.out (.inr rfl)) (fun _ _ h => h))
  have HQz := Lib.hid (HQ2.out.onlyS HXz.out (fun k hk hx => by
    have h1 := (HLT2.out k hk).1
    rcases hx with hx | hx
    · have := HOL.out k hx; omega
    · omega))
  have HSz := Lib.hid (show actS s a = (writeS s a.at' a.b).2 from by unfold actS; rw [if_neg (by have := HK.out; omega), if_neg (by have := HK.out; omega), if_pos HK.out])
  have HTz := Lib.hid (show actS t a = (writeS t a.at' a.b).2 from by unfold actS; rw [if_neg (by have := HK.out; omega), if_neg (by have := HK.out; omega), if_pos HK.out])
  go_wp2_with fail
  go_loopw [23, 167] (fun _ i wr => ∃ j : Nat, j ≤ nb ∧ i = .int .i64 j ∧ OwnQ (w.heap.size + 1) wr (.slice a2 nb cap2) nb ∧ OnlyS (fun b => w.heap.size + 1 ≤ b ∧ b < w2.heap.size) w4 wr) (fun _ i _ => nb - (intOf i).toNat)
  case atStart => exact ⟨0, Nat.zero_le _, rfl, HQz.out, OnlyS.refl _ _⟩
  case round =>
    obtain ⟨j, hj, rfl, hq, ho⟩ := hrel
    have HQ := Lib.hid hq
    have HO := Lib.hid ho
    clear hq ho
    by_cases hlt : j < nb
    · obtain ⟨gg, off, z, rfl, hb1, hcz, hfz⟩ := HQ.out.at hlt
      have hgg : w.heap.size + 1 ≤ gg ∧ gg < w2.heap.size := HLT2.out gg rfl
      go_wp2_with fail
      go_roundw
      case rel => exact ⟨j + 1, by omega, by go_num, HQ.out.put hlt _, HO.out.trans (OnlyS.of_onlyP (X := fun b => w.heap.size + 1 ≤ b ∧ b < w2.heap.size) (OnlyP.set gg (off + j) _ _) hgg) (fun _ _ h => h)⟩
      case measure => simp [intOf]; omega
    · go_wp2_with fail
      go_ret
      unfold DoesApart
      rw [HSz.out, HTz.out]
      refine ⟨⟨_, rfl⟩, O3, ⟨HPz.out.onlyS HO.out (fun b hb hx => ?_), HRz.out.onlyS HO.out (by omega) (by omega), ?_, ?_, fun h => ?_, fun h => ?_⟩, ?_, fun b hb => ?_⟩
      · rcases HN3.out b hb with h | h
        · have := HOL.out b h; omega
        · omega
      · rw [← HSz.out]; exact actS_ok HOK.out a
      · rw [← HTz.out]; exact actS_ok HOKT.out a
      · rcases HN3.out q h with h | h
        · exact hnq h
        · have := HE2.out.size; omega
      · rcases HN3.out g h with h | h
        · exact hng h
        · have := HE2.out.size; omega
      · refine ((OnlyS.of_ext HE2.out).trans HXz.out (fun _ _ h => h)).trans HO.out (fun i hi h => ?_)
        omega
      · rcases HN3.out b hb with h | h
        · exact .inl h
        · exact .inr (Nat.le_trans HE2.out.size h)

set_option maxRecDepth 100000 in
set_option maxHeartbeats 1000000 in
theorem doesB_3 (O : Nat → Prop) (p q g : Nat) (s t : St) (vb vl : Value) (a : Act5) (w : World) (hB : Apart O w p q g s t) (hrb : Rd w vb a.b) (hrl : RdV w vl (a.l.map (Value.int .i64))) (hf : a.fits) (hbl : a.b.length ≤ 500) (_hll : a.l.length ≤ 20)
    (hob : a.b ≠ [] → ∀ k, vb.ownBlock = some k → ¬ O k ∧ k ≠ g) (hol : a.l ≠ [] → ∀ k, vl.ownBlock = some k → ¬ O k ∧ k ≠ g) (hk : a.k % 7 = 3) :
    Calls Try.prog 13 #[.pointer (some ⟨p, 0, none⟩), .pointer (some ⟨q, 0, none⟩), .agg #[.int .u8 a.k, .int .i64 a.at', .int .i64 a.n, vb, vl, .int .u8 a.m.toNat]] w (DoesApart O w p q g (actS s a) (actS t a)) := by
  obtain ⟨i0, hi, hz0, hz1, hz2⟩ := info_parts Try.info5
  have HP := Lib.hid hB.prog
  have HR := Lib.hid hB.ref
  have HOK := Lib.hid hB.ok
  have HOKT := Lib.hid hB.okr
  have hnq : ¬ O q := hB.nq
  have hng : ¬ O g := hB.ng
  have HF := Lib.hid hf
  have HOL := Lib.hid (fun b hb => hB.prog.lt b hb)
  have hgw : g < w.heap.size := hB.ref.lt
  have hqw : q < w.heap.size := lt_of_cell hB.ref.top
  have HRB := Lib.hid hrb
  have HRL := Lib.hid hrl
  have HOB := Lib.hid hob
  have HOLS := Lib.hid hol
  obtain ⟨nb, hnb⟩ : ∃ nb, a.b.length = nb := ⟨_, rfl⟩
  have HNB := Lib.hid hnb
  have HO1 := Lib.hid (show ((w.alloc (.cells #[.int .u8 a.k, .int .i64 a.at', .int .i64 a.n, vb, vl, .int .u8 a.m.toNat] 36)).alloc (.cells #[] 5)).ownsRow (w.heap.size + 1) 5 1 (.slice (some ⟨w.heap.size + 1, 0, none⟩) 0 0) 0 [] from by
    have h := empty_owned (w.alloc (.cells #[.int .u8 a.k, .int .i64 a.at', .int .i64 a.n, vb, vl, .int .u8 a.m.toNat] 36))
    rw [show (w.alloc (.cells #[.int .u8 a.k, .int .i64 a.at', .int .i64 a.n, vb, vl, .int .u8 a.m.toNat] 36)).heap.size = w.heap.size + 1 from by simp] at h
    exact h)
  have HA1 := Lib.hid (show Below (w.heap.size + 1) (w.alloc (.cells #[.int .u8 a.k, .int .i64 a.at', .int .i64 a.n, vb, vl, .int .u8 a.m.toNat] 36)) ((w.alloc (.cells #[.int .u8 a.k, .int .i64 a.at', .int .i64 a.n, vb, vl, .int .u8 a.m.toNat] 36)).alloc (.cells #[] 5)) from (Below.refl _ _).alloc (by simp) _)
  have HX1 := Lib.hid (hrb.mono (Ext.trans (ext_new w (.cells #[.int .u8 a.k, .int .i64 a.at', .int .i64 a.n, vb, vl, .int .u8 a.m.toNat] 36)) (ext_new _ (.cells #[] 5))))
  have HN1 := Lib.hid (show ∀ j u, ([.int .u8 a.k, .int .i64 a.at', .int .i64 a.n, vb, vl, .int .u8 a.m.toNat] : List Value)[j]? = some u → (w.alloc (.cells #[.int .u8 a.k, .int .i64 a.at', .int .i64 a.n, vb, vl, .int .u8 a.m.toNat] 36)).cell? ⟨w.heap.size, j, none⟩ = some u from fun j u hj => by
    have := row_new w [.int .u8 a.k, .int .i64 a.at', .int .i64 a.n, vb, vl, .int .u8 a.m.toNat] 36 j u hj
    rwa [add_at, Nat.zero_add] at this)
  have HBV := Lib.hid (bv_oneCell a.b)
  have HLM := Lib.hid (show (a.b.map bv).length = nb from by rw [List.length_map, hnb])
  rw [hnb] at hbl
  clear hB hrb hrl hf hob hol hnb
  obtain ⟨kk, hkk⟩ : ∃ kk, a.k = kk := ⟨_, rfl⟩
  have hkb : 0 ≤ kk ∧ kk ≤ 255 := by rw [← hkk]; exact HF.out.k
  have HKK := Lib.hid hkk
  have HAS := Lib.hid (show actS s a = actS s a from rfl)
  have hk2 : kk % 7 = 3 := by rw [← hkk]; exact hk
  have HK := Lib.hid hk
  rw [hkk] at HO1 HA1 HX1 HN1 ⊢
  clear hk hkk
  go_enter Try.func13, Try.ntmps13
  go_wp2_with (at_builtin; go_must (refine wpList_append_rd rfl (.tmp 24) (.tmp 26) 33 rfl (w.heap.size + 1) 5 i0 (.int .u8 0) 1 Try.underlying33 hi hz0 hz1 hz2 rfl _ _ _ rfl HO1.out _ _ rfl HX1.out HBV.out (by rw [HLM.out]; unfold maxLen; omega) (by rw [HLM.out]; omega) (by simp) ?_); intro v2 w2 hown2 hgrow2; rw [HLM.out, Nat.zero_add, List.nil_append] at hown2; obtain ⟨a2, cap2, rfl, hs1, hs2⟩ := own_shape hown2; unfold maxLen at hs2; have HO2 := Lib.hid hown2; have HB2 := Lib.hid (show Below (w.heap.size + 1) _ w2 from HA1.out.grown hgrow2 (by simp) (fun k hk => by cases hk; exact Nat.le_refl _)); clear hown2 hgrow2; have HC2 := Lib.hid (fun j u hj => (HB2.out.cell (p := ⟨w.heap.size, j, none⟩) (Nat.lt_succ_self _)).trans (HN1.out j u hj)); have HLT2 := Lib.hid (fun k hk => HO2.out.lt k hk); have c0 := HC2.out 0 _ rfl; have c1 := HC2.out 1 _ rfl; have c2 := HC2.out 2 _ rfl; have c3 := HC2.out 3 _ rfl; have c4 := HC2.out 4 _ rfl; have c5 := HC2.out 5 _ rfl)
  have HE2 := Lib.hid (show Ext w w2 from Ext.trans (ext_new w _) (HB2.out.mono (by simp)))
  have HP2 := Lib.hid (HP.out.onlyS (OnlyS.of_ext (X := fun _ => False) HE2.out) (fun _ _ h => h))
  have HR2 := Lib.hid (HR.out.mono HE2.out)
  have HL2 := Lib.hid (show OwnP (w.heap.size + 1) w2 (.slice a2 nb cap2) a.b from OwnP.of_owns (by
    have h := HO2.out
    rw [← HNB.out] at h ⊢
    exact h))
  have HQ2 := Lib.hid (show OwnQ (w.heap.size + 1) w2 (.slice a2 nb cap2) nb from by
    have h := OwnQ.of_own HL2.out
    rwa [HNB.out] at h)
  have hb5 : ¬ O w.heap.size := fun h => by have := HOL.out _ h; omega
  refine (pFlip_any (O := O) a.at' a.n a.m HP2.out HOK.out HF.out.at' HF.out.n).mono ?_
  rintro e w3 ⟨rfl, O3, hp3, ho3, hn3, hv3⟩
  have HO3 := Lib.hid ho3
  have HP3 := Lib.hid hp3
  have HN3 := Lib.hid hn3
  have HR3 := Lib.hid (HR2.out.onlyS ho3 hnq hng)
  clear c0 c1 c2 c3 c4 c5
  have hc := cells_onlyS HC2.out HO3.out hb5
  have HC3 := Lib.hid hc
  have c0 := hc 0 _ rfl
  have c1 := hc 1 _ rfl
  have c2 := hc 2 _ rfl
  have c3 := hc 3 _ rfl
  have c4 := hc 4 _ rfl
  have c5 := hc 5 _ rfl
  clear hc hp3 ho3 hn3
  go_wp2_with fail
  refine (refFlip_any q g t a.at' a.n a.m w3 HR3.out HOKT.out HF.out.at'.1 HF.out.at'.2 HF.out.n.1 HF.out.n.2).mono ?_
  rintro e w4 ⟨rfl, hr4, ho4⟩
  have HR4 := Lib.hid hr4
  have HO4 := Lib.hid ho4
  clear c0 c1 c2 c3 c4 c5 hr4 ho4
  have HPz := Lib.hid (HP3.out.onlyS (OnlyS.of_onlyP (X := fun b => b = g) HO4.out rfl) (fun b hb hx => by subst hx; rcases HN3.out _ hb with h | h; exact hng h; have := HE2.out.size; omega))
  have HRz := Lib.hid (HR4.out)
  have HXz := Lib.hid (show OnlyS (fun b => O b ∨ b = g) w2 w4 from (HO3.out.mono (fun _ _ h => .inl h)).trans (OnlyS.of_onlyP (X := fun b => O b ∨ b = g) HO4.out (.inr rfl)) (fun _ _ h => h))
  have HQz := Lib.hid (HQ2.out.onlyS HXz.out (fun k hk hx => by
    have h1 := (HLT2.out k hk).1
    rcases hx with hx | hx
    · have := HOL.out k hx; omega
    · omega))
  have HSz := Lib.hid (show actS s a = flipS s a.at' a.n a.m from by unfold actS; rw [if_neg (by have := HK.out; omega), if_neg (by have := HK.out; omega), if_neg (by have := HK.out; omega), if_pos HK.out])
  have HTz := Lib.hid (show actS t a = flipS t a.at' a.n a.m from by unfold actS; rw [if_neg (by have := HK.out; omega), if_neg (by have := HK.out; omega), if_neg (by have := HK.out; omega), if_pos HK.out])
  go_wp2_with fail
  go_loopw [23, 167] (fun _ i wr => ∃ j : Nat, j ≤ nb ∧ i = .int .i64 j ∧ OwnQ (w.heap.size + 1) wr (.slice a2 nb cap2) nb ∧ OnlyS (fun b => w.heap.size + 1 ≤ b ∧ b < w2.heap.size) w4 wr) (fun _ i _ => nb - (intOf i).toNat)
  case atStart => exact ⟨0, Nat.zero_le _, rfl, HQz.out, OnlyS.refl _ _⟩
  case round =>
    obtain ⟨j, hj, rfl, hq, ho⟩ := hrel
    have HQ := Lib.hid hq
    have HO := Lib.hid ho
    clear hq ho
    by_cases hlt : j < nb
    · obtain ⟨gg, off, z, rfl, hb1, hcz, hfz⟩ := HQ.out.at hlt
      have hgg : w.heap.size + 1 ≤ gg ∧ gg < w2.heap.size := HLT2.out gg rfl
      go_wp2_with fail
      go_roundw
      case rel => exact ⟨j + 1, by omega, by go_num, HQ.out.put hlt _, HO.out.trans (OnlyS.of_onlyP (X := fun b => w.heap.size + 1 ≤ b ∧ b < w2.heap.size) (OnlyP.set gg (off + j) _ _) hgg) (fun _ _ h => h)⟩
      case measure => simp [intOf]; omega
    · go_wp2_with fail
      go_ret
      unfold DoesApart
      rw [HSz.out, HTz.out]
      refine ⟨⟨_, rfl⟩, O3, ⟨HPz.out.onlyS HO.out (fun b hb hx => ?_), HRz.out.onlyS HO.out (by omega) (by omega), ?_, ?_, fun h => ?_, fun h => ?_⟩, ?_, fun b hb => ?_⟩
      · rcases HN3.out b hb with h | h
        · have := HOL.out b h; omega
        · omega
      · rw [← HSz.out]; exact actS_ok HOK.out a
      · rw [← HTz.out]; exact actS_ok HOKT.out a
      · rcases HN3.out q h with h | h
        · exact hnq h
        · have := HE2.out.size; omega
      · rcases HN3.out g h with h | h
        · exact hng h
        · have := HE2.out.size; omega
      · refine ((OnlyS.of_ext HE2.out).trans HXz.out (fun _ _ h => h)).trans HO.out (fun i hi h => ?_)
        omega
      · rcases HN3.out b hb with h | h
        · exact .inl h
        · exact .inr (Nat.le_trans HE2.out.size h)

set_option maxRecDepth 100000 in
set_option maxHeartbeats 1000000 in
theorem doesB_4 (O : Nat → Prop) (p q g : Nat) (s t : St) (vb vl : Value) (a : Act5) (w : World) (hB : Apart O w p q g s t) (hrb : Rd w vb a.b) (hrl : RdV w vl (a.l.map (Value.int .i64))) (hf : a.fits) (hbl : a.b.length ≤ 500) (_hll : a.l.length ≤ 20)
    (hob : a.b ≠ [] → ∀ k, vb.ownBlock = some k → ¬ O k ∧ k ≠ g) (hol : a.l ≠ [] → ∀ k, vl.ownBlock = some k → ¬ O k ∧ k ≠ g) (hk : a.k % 7 = 4) :
    Calls Try.prog 13 #[.pointer (some ⟨p, 0, none⟩), .pointer (some ⟨q, 0, none⟩), .agg #[.int .u8 a.k, .int .i64 a.at', .int .i64 a.n, vb, vl, .int .u8 a.m.toNat]] w (DoesApart O w p q g (actS s a) (actS t a)) := by
  obtain ⟨i0, hi, hz0, hz1, hz2⟩ := info_parts Try.info5
  have HP := Lib.hid hB.prog
  have HR := Lib.hid hB.ref
  have HOK := Lib.hid hB.ok
  have HOKT := Lib.hid hB.okr
  have hnq : ¬ O q := hB.nq
  have hng : ¬ O g := hB.ng
  have HF := Lib.hid hf
  have HOL := Lib.hid (fun b hb => hB.prog.lt b hb)
  have hgw : g < w.heap.size := hB.ref.lt
  have hqw : q < w.heap.size := lt_of_cell hB.ref.top
  have HRB := Lib.hid hrb
  have HRL := Lib.hid hrl
  have HOB := Lib.hid hob
  have HOLS := Lib.hid hol
  obtain ⟨nb, hnb⟩ : ∃ nb, a.b.length = nb := ⟨_, rfl⟩
  have HNB := Lib.hid hnb
  have HO1 := Lib.hid (show ((w.alloc (.cells #[.int .u8 a.k, .int .i64 a.at', .int .i64 a.n, vb, vl, .int .u8 a.m.toNat] 36)).alloc (.cells #[] 5)).ownsRow (w.heap.size + 1) 5 1 (.slice (some ⟨w.heap.size + 1, 0, none⟩) 0 0) 0 [] from by
    have h := empty_owned (w.alloc (.cells #[.int .u8 a.k, .int .i64 a.at', .int .i64 a.n, vb, vl, .int .u8 a.m.toNat] 36))
    rw [show (w.alloc (.cells #[.int .u8 a.k, .int .i64 a.at', .int .i64 a.n, vb, vl, .int .u8 a.m.toNat] 36)).heap.size = w.heap.size + 1 from by simp] at h
    exact h)
  have HA1 := Lib.hid (show Below (w.heap.size + 1) (w.alloc (.cells #[.int .u8 a.k, .int .i64 a.at', .int .i64 a.n, vb, vl, .int .u8 a.m.toNat] 36)) ((w.alloc (.cells #[.int .u8 a.k, .int .i64 a.at', .int .i64 a.n, vb, vl, .int .u8 a.m.toNat] 36)).alloc (.cells #[] 5)) from (Below.refl _ _).alloc (by simp) _)
  have HX1 := Lib.hid (hrb.mono (Ext.trans (ext_new w (.cells #[.int .u8 a.k, .int .i64 a.at', .int .i64 a.n, vb, vl, .int .u8 a.m.toNat] 36)) (ext_new _ (.cells #[] 5))))
  have HN1 := Lib.hid (show ∀ j u, ([.int .u8 a.k, .int .i64 a.at', .int .i64 a.n, vb, vl, .int .u8 a.m.toNat] : List Value)[j]? = some u → (w.alloc (.cells #[.int .u8 a.k, .int .i64 a.at', .int .i64 a.n, vb, vl, .int .u8 a.m.toNat] 36)).cell? ⟨w.heap.size, j, none⟩ = some u from fun j u hj => by
    have := row_new w [.int .u8 a.k, .int .i64 a.at', .int .i64 a.n, vb, vl, .int .u8 a.m.toNat] 36 j u hj
    rwa [add_at, Nat.zero_add] at this)
  have HBV := Lib.hid (bv_oneCell a.b)
  have HLM := Lib.hid (show (a.b.map bv).length = nb from by rw [List.length_map, hnb])
  rw [hnb] at hbl
  clear hB hrb hrl hf hob hol hnb
  obtain ⟨kk, hkk⟩ : ∃ kk, a.k = kk := ⟨_, rfl⟩
  have hkb : 0 ≤ kk ∧ kk ≤ 255 := by rw [← hkk]; exact HF.out.k
  have HKK := Lib.hid hkk
  have HAS := Lib.hid (show actS s a = actS s a from rfl)
  have hk2 : kk % 7 = 4 := by rw [← hkk]; exact hk
  have HK := Lib.hid hk
  rw [hkk] at HO1 HA1 HX1 HN1 ⊢
  clear hk hkk
  go_enter Try.func13, Try.ntmps13
  go_wp2_with (at_builtin; go_must (refine wpList_append_rd rfl (.tmp 24) (.tmp 26) 33 rfl (w.heap.size + 1) 5 i0 (.int .u8 0) 1 Try.underlying33 hi hz0 hz1 hz2 rfl _ _ _ rfl HO1.out _ _ rfl HX1.out HBV.out (by rw [HLM.out]; unfold maxLen; omega) (by rw [HLM.out]; omega) (by simp) ?_); intro v2 w2 hown2 hgrow2; rw [HLM.out, Nat.zero_add, List.nil_append] at hown2; obtain ⟨a2, cap2, rfl, hs1, hs2⟩ := own_shape hown2; unfold maxLen at hs2; have HO2 := Lib.hid hown2; have HB2 := Lib.hid (show Below (w.heap.size + 1) _ w2 from HA1.out.grown hgrow2 (by simp) (fun k hk => by cases hk; exact Nat.le_refl _)); clear hown2 hgrow2; have HC2 := Lib.hid (fun j u hj => (HB2.out.cell (p := ⟨w.heap.size, j, none⟩) (Nat.lt_succ_self _)).trans (HN1.out j u hj)); have HLT2 := Lib.hid (fun k hk => HO2.out.lt k hk); have c0 := HC2.out 0 _ rfl; have c1 := HC2.out 1 _ rfl; have c2 := HC2.out 2 _ rfl; have c3 := HC2.out 3 _ rfl; have c4 := HC2.out 4 _ rfl; have c5 := HC2.out 5 _ rfl)
  have HE2 := Lib.hid (show Ext w w2 from Ext.trans (ext_new w _) (HB2.out.mono (by simp)))
  have HP2 := Lib.hid (HP.out.onlyS (OnlyS.of_ext (X := fun _ => False) HE2.out) (fun _ _ h => h))
  have HR2 := Lib.hid (HR.out.mono HE2.out)
  have HL2 := Lib.hid (show OwnP (w.heap.size + 1) w2 (.slice a2 nb cap2) a.b from OwnP.of_owns (by
    have h := HO2.out
    rw [← HNB.out] at h ⊢
    exact h))
  have HQ2 := Lib.hid (show OwnQ (w.heap.size + 1) w2 (.slice a2 nb cap2) nb from by
    have h := OwnQ.of_own HL2.out
    rwa [HNB.out] at h)
  have hb5 : ¬ O w.heap.size := fun h => by have := HOL.out _ h; omega
  refine (pPut_any (O := O) (.slice a2 nb cap2) a.b HP2.out HOK.out HL2.out.rd (fun _ k hk h => by have h1 := (HLT2.out k hk).1; have := HOL.out k h; omega) (by rw [HNB.out]; omega)).mono ?_
  rintro e w3 ⟨v3, rfl, hown3, O3, hp3, ho3, hn3, hv3⟩
  have HO3 := Lib.hid ho3
  have HP3 := Lib.hid hp3
  have HN3 := Lib.hid hn3
  have HW3 := Lib.hid hown3
  have HR3 := Lib.hid (HR2.out.onlyS ho3 hnq hng)
  clear c0 c1 c2 c3 c4 c5
  have hc := cells_onlyS HC2.out HO3.out hb5
  have HC3 := Lib.hid hc
  have c0 := hc 0 _ rfl
  have c1 := hc 1 _ rfl
  have c2 := hc 2 _ rfl
  have c3 := hc 3 _ rfl
  have c4 := hc 4 _ rfl
  have c5 := hc 5 _ rfl
  clear hc hown3 hp3 ho3 hn3
  go_wp2_with fail
  refine (refPutS_any q g t vb a.b w3 HR3.out HOKT.out ((HRB.out.mono HE2.out).onlyS HO3.out (fun h k hk => (HOB.out h k hk).1)) (fun h k hk => (HOB.out h k hk).2) (by rw [HNB.out]; omega)).mono ?_
  rintro e w4 ⟨v4, rfl, hown4, hr4, ho4⟩
  have HR4 := Lib.hid hr4
  have HO4 := Lib.hid ho4
  have HI4 := Lib.hid (refInts_any v3 v4 ((putS s a.b).1.1.map Int.ofNat) ((putS t a.b).1.1.map Int.ofNat) w4
    (by rw [← iv_ints]; exact (RdV.of_owns HW3.out).onlyS (OnlyS.of_onlyP (X := fun b => b = g) ho4 rfl) (fun _ k hk => by have h1 := (HW3.out.lt k hk).1; have h2 := HE2.out.size; omega))
    (by rw [← iv_ints]; exact RdV.of_owns hown4) (by rw [List.length_map]; have := putS_le s a.b; have := HOK.out.1; omega) (by rw [List.length_map]; have := putS_le t a.b; have := HOKT.out.1; omega))
  clear c0 c1 c2 c3 c4 c5 hown4 hr4 ho4
  obtain ⟨R, hR⟩ : ∃ R, decide (((putS s a.b).1.1.map Int.ofNat) = ((putS t a.b).1.1.map Int.ofNat)) = R := ⟨_, rfl⟩
  rw [hR] at HI4
  clear hR
  generalize (putS s a.b).1.2 = E
  generalize (putS t a.b).1.2 = E'
  go_wp2_with fail
  refine HI4.out.mono ?_
  rintro e w5 ⟨rfl, hx5⟩
  have HX5 := Lib.hid hx5
  clear hx5
  cases R <;> (
    have HPz := Lib.hid ((HP3.out.onlyS (OnlyS.of_onlyP (X := fun b => b = g) HO4.out rfl) (fun b hb hx => by subst hx; rcases HN3.out _ hb with h | h; exact hng h; have := HE2.out.size; omega)).onlyS (OnlyS.of_ext (X := fun _ => False) HX5.out) (fun _ _ h => h))
    have HRz := Lib.hid (HR4.out.mono HX5.out)
    have HXz := Lib.hid (show OnlyS (fun b => O b ∨ b = g) w2 w5 from ((HO3.out.mono (fun _ _ h => .inl h)).trans (OnlyS.of_onlyP (X := fun b => O b ∨ b = g) HO4.out (.inr rfl)) (fun _ _ h => h)).trans (OnlyS.of_ext (X := fun _ => False) HX5.out) (fun _ _ h => h.elim))
    have HQz := Lib.hid (HQ2.out.onlyS HXz.out (fun k hk hx => by
      have h1 := (HLT2.out k hk).1
      rcases hx with hx | hx
      · have := HOL.out k hx; omega
      · omega))
    have HSz := Lib.hid (show actS s a = (putS s a.b).2 from by unfold actS; rw [if_neg (by have := HK.out; omega), if_neg (by have := HK.out; omega), if_neg (by have := HK.out; omega), if_neg (by have := HK.out; omega), if_pos HK.out])
    have HTz := Lib.hid (show actS t a = (putS t a.b).2 from by unfold actS; rw [if_neg (by have := HK.out; omega), if_neg (by have := HK.out; omega), if_neg (by have := HK.out; omega), if_neg (by have := HK.out; omega), if_pos HK.out])
    go_wp2_with fail
    go_loopw [23, 167] (fun _ i wr => ∃ j : Nat, j ≤ nb ∧ i = .int .i64 j ∧ OwnQ (w.heap.size + 1) wr (.slice a2 nb cap2) nb ∧ OnlyS (fun b => w.heap.size + 1 ≤ b ∧ b < w2.heap.size) w5 wr) (fun _ i _ => nb - (intOf i).toNat)
    case atStart => exact ⟨0, Nat.zero_le _, rfl, HQz.out, OnlyS.refl _ _⟩
    case round =>
      obtain ⟨j, hj, rfl, hq, ho⟩ := hrel
      have HQ := Lib.hid hq
      have HO := Lib.hid ho
      clear hq ho
      by_cases hlt : j < nb
      · obtain ⟨gg, off, z, rfl, hb1, hcz, hfz⟩ := HQ.out.at hlt
        have hgg : w.heap.size + 1 ≤ gg ∧ gg < w2.heap.size := HLT2.out gg rfl
        go_wp2_with fail
        go_roundw
        case rel => exact ⟨j + 1, by omega, by go_num, HQ.out.put hlt _, HO.out.trans (OnlyS.of_onlyP (X := fun b => w.heap.size + 1 ≤ b ∧ b < w2.heap.size) (OnlyP.set gg (off + j) _ _) hgg) (fun _ _ h => h)⟩
        case measure => simp [intOf]; omega
      · go_wp2_with fail
        go_ret
        unfold DoesApart
        rw [HSz.out, HTz.out]
        refine ⟨⟨_, rfl⟩, O3, ⟨HPz.out.onlyS HO.out (fun b hb hx => ?_), HRz.out.onlyS HO.out (by omega) (by omega), ?_, ?_, fun h => ?_, fun h => ?_⟩, ?_, fun b hb => ?_⟩
        · rcases HN3.out b hb with h | h
          · have := HOL.out b h; omega
          · omega
        · rw [← HSz.out]; exact actS_ok HOK.out a
        · rw [← HTz.out]; exact actS_ok HOKT.out a
        · rcases HN3.out q h with h | h
          · exact hnq h
          · have := HE2.out.size; omega
        · rcases HN3.out g h with h | h
          · exact hng h
          · have := HE2.out.size; omega
        · refine ((OnlyS.of_ext HE2.out).trans HXz.out (fun _ _ h => h)).trans HO.out (fun i hi h => ?_)
          omega
        · rcases HN3.out b hb with h | h
          · exact .inl h
          · exact .inr (Nat.le_trans HE2.out.size h))

set_option maxRecDepth 100000 in
set_option maxHeartbeats 1000000 in
theorem doesB_5 (O : Nat → Prop) (p q g : Nat) (s t : St) (vb vl : Value) (a : Act5) (w : World) (hB : Apart O w p q g s t) (hrb : Rd w vb a.b) (hrl : RdV w vl (a.l.map (Value.int .i64))) (hf : a.fits) (hbl : a.b.length ≤ 500) (hll : a.l.length ≤ 20)
    (hob : a.b ≠ [] → ∀ k, vb.ownBlock = some k → ¬ O k ∧ k ≠ g) (hol : a.l ≠ [] → ∀ k, vl.ownBlock = some k → ¬ O k ∧ k ≠ g) (hk : a.k % 7 = 5) :
    Calls Try.prog 13 #[.pointer (some ⟨p, 0, none⟩), .pointer (some ⟨q, 0, none⟩), .agg #[.int .u8 a.k, .int .i64 a.at', .int .i64 a.n, vb, vl, .int .u8 a.m.toNat]] w (DoesApart O w p q g (actS s a) (actS t a)) := by
  obtain ⟨i0, hi, hz0, hz1, hz2⟩ := info_parts Try.info5
  have HP := Lib.hid hB.prog
  have HR := Lib.hid hB.ref
  have HOK := Lib.hid hB.ok
  have HOKT := Lib.hid hB.okr
  have hnq : ¬ O q := hB.nq
  have hng : ¬ O g := hB.ng
  have HF := Lib.hid hf
  have HOL := Lib.hid (fun b hb => hB.prog.lt b hb)
  have hgw : g < w.heap.size := hB.ref.lt
  have hqw : q < w.heap.size := lt_of_cell hB.ref.top
  have HRB := Lib.hid hrb
  have HRL := Lib.hid hrl
  have HOB := Lib.hid hob
  have HOLS := Lib.hid hol
  obtain ⟨nb, hnb⟩ : ∃ nb, a.b.length = nb := ⟨_, rfl⟩
  have HNB := Lib.hid hnb
  have HO1 := Lib.hid (show ((w.alloc (.cells #[.int .u8 a.k, .int .i64 a.at', .int .i64 a.n, vb, vl, .int .u8 a.m.toNat] 36)).alloc (.cells #[] 5)).ownsRow (w.heap.size + 1) 5 1 (.slice (some ⟨w.heap.size + 1, 0, none⟩) 0 0) 0 [] from by
    have h := empty_owned (w.alloc (.cells #[.int .u8 a.k, .int .i64 a.at', .int .i64 a.n, vb, vl, .int .u8 a.m.toNat] 36))
    rw [show (w.alloc (.cells #[.int .u8 a.k, .int .i64 a.at', .int .i64 a.n, vb, vl, .int .u8 a.m.toNat] 36)).heap.size = w.heap.size + 1 from by simp] at h
    exact h)
  have HA1 := Lib.hid (show Below (w.heap.size + 1) (w.alloc (.cells #[.int .u8 a.k, .int .i64 a.at', .int .i64 a.n, vb, vl, .int .u8 a.m.toNat] 36)) ((w.alloc (.cells #[.int .u8 a.k, .int .i64 a.at', .int .i64 a.n, vb, vl, .int .u8 a.m.toNat] 36)).alloc (.cells #[] 5)) from (Below.refl _ _).alloc (by simp) _)
  have HX1 := Lib.hid (hrb.mono (Ext.trans (ext_new w (.cells #[.int .u8 a.k, .int .i64 a.at', .int .i64 a.n, vb, vl, .int .u8 a.m.toNat] 36)) (ext_new _ (.cells #[] 5))))
  have HN1 := Lib.hid (show ∀ j u, ([.int .u8 a.k, .int .i64 a.at', .int .i64 a.n, vb, vl, .int .u8 a.m.toNat] : List Value)[j]? = some u → (w.alloc (.cells #[.int .u8 a.k, .int .i64 a.at', .int .i64 a.n, vb, vl, .int .u8 a.m.toNat] 36)).cell? ⟨w.heap.size, j, none⟩ = some u from fun j u hj => by
    have := row_new w [.int .u8 a.k, .int .i64 a.at', .int .i64 a.n, vb, vl, .int .u8 a.m.toNat] 36 j u hj
    rwa [add_at, Nat.zero_add] at this)
  have HBV := Lib.hid (bv_oneCell a.b)
  have HLM := Lib.hid (show (a.b.map bv).length = nb from by rw [List.length_map, hnb])
  rw [hnb] at hbl
  clear hB hrb hrl hf hob hol hnb
  obtain ⟨kk, hkk⟩ : ∃ kk, a.k = kk := ⟨_, rfl⟩
  have hkb : 0 ≤ kk ∧ kk ≤ 255 := by rw [← hkk]; exact HF.out.k
  have HKK := Lib.hid hkk
  have HAS := Lib.hid (show actS s a = actS s a from rfl)
  have hk2 : kk % 7 = 5 := by rw [← hkk]; exact hk
  have HK := Lib.hid hk
  rw [hkk] at HO1 HA1 HX1 HN1 ⊢
  clear hk hkk
  go_enter Try.func13, Try.ntmps13
  go_wp2_with (at_builtin; go_must (refine wpList_append_rd rfl (.tmp 24) (.tmp 26) 33 rfl (w.heap.size + 1) 5 i0 (.int .u8 0) 1 Try.underlying33 hi hz0 hz1 hz2 rfl _ _ _ rfl HO1.out _ _ rfl HX1.out HBV.out (by rw [HLM.out]; unfold maxLen; omega) (by rw [HLM.out]; omega) (by simp) ?_); intro v2 w2 hown2 hgrow2; rw [HLM.out, Nat.zero_add, List.nil_append] at hown2; obtain ⟨a2, cap2, rfl, hs1, hs2⟩ := own_shape hown2; unfold maxLen at hs2; have HO2 := Lib.hid hown2; have HB2 := Lib.hid (show Below (w.heap.size + 1) _ w2 from HA1.out.grown hgrow2 (by simp) (fun k hk => by cases hk; exact Nat.le_refl _)); clear hown2 hgrow2; have HC2 := Lib.hid (fun j u hj => (HB2.out.cell (p := ⟨w.heap.size, j, none⟩) (Nat.lt_succ_self _)).trans (HN1.out j u hj)); have HLT2 := Lib.hid (fun k hk => HO2.out.lt k hk); have c0 := HC2.out 0 _ rfl; have c1 := HC2.out 1 _ rfl; have c2 := HC2.out 2 _ rfl; have c3 := HC2.out 3 _ rfl; have c4 := HC2.out 4 _ rfl; have c5 := HC2.out 5 _ rfl)
  have HE2 := Lib.hid (show Ext w w2 from Ext.trans (ext_new w _) (HB2.out.mono (by simp)))
  have HP2 := Lib.hid (HP.out.onlyS (OnlyS.of_ext (X := fun _ => False) HE2.out) (fun _ _ h => h))
  have HR2 := Lib.hid (HR.out.mono HE2.out)
  have HL2 := Lib.hid (show OwnP (w.heap.size + 1) w2 (.slice a2 nb cap2) a.b from OwnP.of_owns (by
    have h := HO2.out
    rw [← HNB.out] at h ⊢
    exact h))
  have HQ2 := Lib.hid (show OwnQ (w.heap.size + 1) w2 (.slice a2 nb cap2) nb from by
    have h := OwnQ.of_own HL2.out
    rwa [HNB.out] at h)
  have hb5 : ¬ O w.heap.size := fun h => by have := HOL.out _ h; omega
  refine (pGet_any (O := O) vl a.l a.n HP2.out HOK.out (HRL.out.mono HE2.out) (fun h k hk => (HOLS.out h k hk).1) (by omega) HF.out.l HF.out.n).mono ?_
  rintro e w3 ⟨v3, rfl, hown3, O3, hp3, ho3, hn3, hv3⟩
  have HO3 := Lib.hid ho3
  have HP3 := Lib.hid hp3
  have HN3 := Lib.hid hn3
  have HW3 := Lib.hid hown3
  have HR3 := Lib.hid (HR2.out.onlyS ho3 hnq hng)
  clear c0 c1 c2 c3 c4 c5
  have hc := cells_onlyS HC2.out HO3.out hb5
  have HC3 := Lib.hid hc
  have c0 := hc 0 _ rfl
  have c1 := hc 1 _ rfl
  have c2 := hc 2 _ rfl
  have c3 := hc 3 _ rfl
  have c4 := hc 4 _ rfl
  have c5 := hc 5 _ rfl
  clear hc hown3 hp3 ho3 hn3 hv3
  have HG := Lib.hid (refGet_any q g t vl a.l a.n w3 HR3.out HOKT.out ((HRL.out.mono HE2.out).onlyS HO3.out (fun h k hk => (HOLS.out (fun e => h (by rw [e]; rfl)) k hk).1)) (by omega) HF.out.l HF.out.n.1 HF.out.n.2)
  unfold Gotten at HG
  generalize (getS s a.l a.n).1 = T at HW3
  generalize (getS s a.l a.n).2 = E
  generalize (getS t a.l a.n).1 = T' at HG
  generalize (getS t a.l a.n).2 = E' at HG
  go_wp2_with fail
  refine HG.out.mono ?_
  rintro e w4 ⟨rfl, hx4⟩
  have HX4 := Lib.hid hx4
  have hcv := (HW3.out.rd.mono hx4).string (P := Try.prog) 33 9 5 Try.underlying33 Try.underlying5 Try.underlying9
  clear c0 c1 c2 c3 c4 c5 hx4
  have HPz := Lib.hid (HP3.out.onlyS (OnlyS.of_ext (X := fun _ => False) HX4.out) (fun _ _ h => h))
  have HRz := Lib.hid (HR3.out.mono HX4.out)
  have HXz := Lib.hid (show OnlyS (fun b => O b ∨ b = g) w2 w4 from (HO3.out.mono (fun _ _ h => .inl h)).trans (OnlyS.of_ext (X := fun b => O b ∨ b = g) HX4.out) (fun _ _ h => h))
  have HQz := Lib.hid (HQ2.out.onlyS HXz.out (fun k hk hx => by
    have h1 := (HLT2.out k hk).1
    rcases hx with hx | hx
    · have := HOL.out k hx; omega
    · omega))
  have HSz := Lib.hid (show actS s a = s from by unfold actS; rw [if_neg (by have := HK.out; omega), if_neg (by have := HK.out; omega), if_neg (by have := HK.out; omega), if_neg (by have := HK.out; omega), if_neg (by have := HK.out; omega), if_pos HK.out])
  have HTz := Lib.hid (show actS t a = t from by unfold actS; rw [if_neg (by have := HK.out; omega), if_neg (by have := HK.out; omega), if_neg (by have := HK.out; omega), if_neg (by have := HK.out; omega), if_neg (by have := HK.out; omega), if_pos HK.out])
  go_wp2_with fail
  all_goals (
    go_loopw [23, 167] (fun _ i wr => ∃ j : Nat, j ≤ nb ∧ i = .int .i64 j ∧ OwnQ (w.heap.size + 1) wr (.slice a2 nb cap2) nb ∧ OnlyS (fun b => w.heap.size + 1 ≤ b ∧ b < w2.heap.size) w4 wr) (fun _ i _ => nb - (intOf i).toNat)
    case atStart => exact ⟨0, Nat.zero_le _, rfl, HQz.out, OnlyS.refl _ _⟩
    case round =>
      obtain ⟨j, hj, rfl, hq, ho⟩ := hrel
      have HQ := Lib.hid hq
      have HO := Lib.hid ho
      clear hq ho
      by_cases hlt : j < nb
      · obtain ⟨gg, off, z, rfl, hb1, hcz, hfz⟩ := HQ.out.at hlt
        have hgg : w.heap.size + 1 ≤ gg ∧ gg < w2.heap.size := HLT2.out gg rfl
        go_wp2_with fail
        go_roundw
        case rel => exact ⟨j + 1, by omega, by go_num, HQ.out.put hlt _, HO.out.trans (OnlyS.of_onlyP (X := fun b => w.heap.size + 1 ≤ b ∧ b < w2.heap.size) (OnlyP.set gg (off + j) _ _) hgg) (fun _ _ h => h)⟩
        case measure => simp [intOf]; omega
      · go_wp2_with fail
        go_ret
        unfold DoesApart
        rw [HSz.out, HTz.out]
        refine ⟨⟨_, rfl⟩, O3, ⟨HPz.out.onlyS HO.out (fun b hb hx => ?_), HRz.out.onlyS HO.out (by omega) (by omega), ?_, ?_, fun h => ?_, fun h => ?_⟩, ?_, fun b hb => ?_⟩
        · rcases HN3.out b hb with h | h
          · have := HOL.out b h; omega
          · omega
        · rw [← HSz.out]; exact actS_ok HOK.out a
        · rw [← HTz.out]; exact actS_ok HOKT.out a
        · rcases HN3.out q h with h | h
          · exact hnq h
          · have := HE2.out.size; omega
        · rcases HN3.out g h with h | h
          · exact hng h
          · have := HE2.out.size; omega
        · refine ((OnlyS.of_ext HE2.out).trans HXz.out (fun _ _ h => h)).trans HO.out (fun i hi h => ?_)
          omega
        · rcases HN3.out b hb with h | h
          · exact .inl h
          · exact .inr (Nat.le_trans HE2.out.size h))

set_option maxRecDepth 100000 in
set_option maxHeartbeats 1000000 in
theorem doesB_6 (O : Nat → Prop) (p q g : Nat) (s t : St) (vb vl : Value) (a : Act5) (w : World) (hB : Apart O w p q g s t) (hrb : Rd w vb a.b) (hrl : RdV w vl (a.l.map (Value.int .i64))) (hf : a.fits) (hbl : a.b.length ≤ 500) (hll : a.l.length ≤ 20)
    (hob : a.b ≠ [] → ∀ k, vb.ownBlock = some k → ¬ O k ∧ k ≠ g) (hol : a.l ≠ [] → ∀ k, vl.ownBlock = some k → ¬ O k ∧ k ≠ g) (hk : a.k % 7 = 6) :
    Calls Try.prog 13 #[.pointer (some ⟨p, 0, none⟩), .pointer (some ⟨q, 0, none⟩), .agg #[.int .u8 a.k, .int .i64 a.at', .int .i64 a.n, vb, vl, .int .u8 a.m.toNat]] w (DoesApart O w p q g (actS s a) (actS t a)) := by
  obtain ⟨i0, hi, hz0, hz1, hz2⟩ := info_parts Try.info5
  have HP := Lib.hid hB.prog
  have HR := Lib.hid hB.ref
  have HOK := Lib.hid hB.ok
  have HOKT := Lib.hid hB.okr
  have hnq : ¬ O q := hB.nq
  have hng : ¬ O g := hB.ng
  have HF := Lib.hid hf
  have HOL := Lib.hid (fun b hb => hB.prog.lt b hb)
  have hgw : g < w.heap.size := hB.ref.lt
  have hqw : q < w.heap.size := lt_of_cell hB.ref.top
  have HRB := Lib.hid hrb
  have HRL := Lib.hid hrl
  have HOB := Lib.hid hob
  have HOLS := Lib.hid hol
  obtain ⟨nb, hnb⟩ : ∃ nb, a.b.length = nb := ⟨_, rfl⟩
  have HNB := Lib.hid hnb
  have HO1 := Lib.hid (show ((w.alloc (.cells #[.int .u8 a.k, .int .i64 a.at', .int .i64 a.n, vb, vl, .int .u8 a.m.toNat] 36)).alloc (.cells #[] 5)).ownsRow (w.heap.size + 1) 5 1 (.slice (some ⟨w.heap.size + 1, 0, none⟩) 0 0) 0 [] from by
    have h := empty_owned (w.alloc (.cells #[.int .u8 a.k, .int .i64 a.at', .int .i64 a.n, vb, vl, .int .u8 a.m.toNat] 36))
    rw [show (w.alloc (.cells #[.int .u8 a.k, .int .i64 a.at', .int .i64 a.n, vb, vl, .int .u8 a.m.toNat] 36)).heap.size = w.heap.size + 1 from by simp] at h
    exact h)
  have HA1 := Lib.hid (show Below (w.heap.size + 1) (w.alloc (.cells #[.int .u8 a.k, .int .i64 a.at', .int .i64 a.n, vb, vl, .int .u8 a.m.toNat] 36)) ((w.alloc (.cells #[.int .u8 a.k, .int .i64 a.at', .int .i64 a.n, vb, vl, .int .u8 a.m.toNat] 36)).alloc (.cells #[] 5)) from (Below.refl _ _).alloc (by simp) _)
  have HX1 := Lib.hid (hrb.mono (Ext.trans (ext_new w (.cells #[.int .u8 a.k, .int .i64 a.at', .int .i64 a.n, vb, vl, .int .u8 a.m.toNat] 36)) (ext_new _ (.cells #[] 5))))
  have HN1 := Lib.hid (show ∀ j u, ([.int .u8 a.k, .int .i64 a.at', .int .i64 a.n, vb, vl, .int .u8 a.m.toNat] : List Value)[j]? = some u → (w.alloc (.cells #[.int .u8 a.k, .int .i64 a.at', .int .i64 a.n, vb, vl, .int .u8 a.m.toNat] 36)).cell? ⟨w.heap.size, j, none⟩ = some u from fun j u hj => by
    have := row_new w [.int .u8 a.k, .int .i64 a.at', .int .i64 a.n, vb, vl, .int .u8 a.m.toNat] 36 j u hj
    rwa [add_at, Nat.zero_add] at this)
  have HBV := Lib.hid (bv_oneCell a.b)
  have HLM := Lib.hid (show (a.b.map bv).length = nb from by rw [List.length_map, hnb])
  rw [hnb] at hbl
  clear hB hrb hrl hf hob hol hnb
  obtain ⟨kk, hkk⟩ : ∃ kk, a.k = kk := ⟨_, rfl⟩
  have hkb : 0 ≤ kk ∧ kk ≤ 255 := by rw [← hkk]; exact HF.out.k
  have HKK := Lib.hid hkk
  have HAS := Lib.hid (show actS s a = actS s a from rfl)
  have hk2 : kk % 7 = 6 := by rw [← hkk]; exact hk
  have HK := Lib.hid hk
  rw [hkk] at HO1 HA1 HX1 HN1 ⊢
  clear hk hkk
  go_enter Try.func13, Try.ntmps13
  go_wp2_with (at_builtin; go_must (refine wpList_append_rd rfl (.tmp 24) (.tmp 26) 33 rfl (w.heap.size + 1) 5 i0 (.int .u8 0) 1 Try.underlying33 hi hz0 hz1 hz2 rfl _ _ _ rfl HO1.out _ _ rfl HX1.out HBV.out (by rw [HLM.out]; unfold maxLen; omega) (by rw [HLM.out]; omega) (by simp) ?_); intro v2 w2 hown2 hgrow2; rw [HLM.out, Nat.zero_add, List.nil_append] at hown2; obtain ⟨a2, cap2, rfl, hs1, hs2⟩ := own_shape hown2; unfold maxLen at hs2; have HO2 := Lib.hid hown2; have HB2 := Lib.hid (show Below (w.heap.size + 1) _ w2 from HA1.out.grown hgrow2 (by simp) (fun k hk => by cases hk; exact Nat.le_refl _)); clear hown2 hgrow2; have HC2 := Lib.hid (fun j u hj => (HB2.out.cell (p := ⟨w.heap.size, j, none⟩) (Nat.lt_succ_self _)).trans (HN1.out j u hj)); have HLT2 := Lib.hid (fun k hk => HO2.out.lt k hk); have c0 := HC2.out 0 _ rfl; have c1 := HC2.out 1 _ rfl; have c2 := HC2.out 2 _ rfl; have c3 := HC2.out 3 _ rfl; have c4 := HC2.out 4 _ rfl; have c5 := HC2.out 5 _ rfl)
  have HE2 := Lib.hid (show Ext w w2 from Ext.trans (ext_new w _) (HB2.out.mono (by simp)))
  have HP2 := Lib.hid (HP.out.onlyS (OnlyS.of_ext (X := fun _ => False) HE2.out) (fun _ _ h => h))
  have HR2 := Lib.hid (HR.out.mono HE2.out)
  have HL2 := Lib.hid (show OwnP (w.heap.size + 1) w2 (.slice a2 nb cap2) a.b from OwnP.of_owns (by
    have h := HO2.out
    rw [← HNB.out] at h ⊢
    exact h))
  have HQ2 := Lib.hid (show OwnQ (w.heap.size + 1) w2 (.slice a2 nb cap2) nb from by
    have h := OwnQ.of_own HL2.out
    rwa [HNB.out] at h)
  have hb5 : ¬ O w.heap.size := fun h => by have := HOL.out _ h; omega
  refine (pDrop_any (O := O) vl a.l HP2.out HOK.out (HRL.out.mono HE2.out) (fun h k hk => (HOLS.out h k hk).1) (by omega) HF.out.l).mono ?_
  rintro e w3 ⟨rfl, O3, hp3, ho3, hn3, hv3⟩
  have HO3 := Lib.hid ho3
  have HP3 := Lib.hid hp3
  have HN3 := Lib.hid hn3
  have HR3 := Lib.hid (HR2.out.onlyS ho3 hnq hng)
  clear c0 c1 c2 c3 c4 c5
  have hc := cells_onlyS HC2.out HO3.out hb5
  have HC3 := Lib.hid hc
  have c0 := hc 0 _ rfl
  have c1 := hc 1 _ rfl
  have c2 := hc 2 _ rfl
  have c3 := hc 3 _ rfl
  have c4 := hc 4 _ rfl
  have c5 := hc 5 _ rfl
  clear hc hp3 ho3 hn3 hv3
  have HRL3 := Lib.hid ((HRL.out.mono HE2.out).onlyS HO3.out (fun h k hk => (HOLS.out (fun e => h (by rw [e]; rfl)) k hk).1))
  obtain ⟨nl, hnl⟩ : ∃ nl, a.l.length = nl := ⟨_, rfl⟩
  obtain ⟨al, cl, hvl, hl1, hl2, hla⟩ := RdV.cellsAt HRL3.out
  rw [List.length_map, hnl] at hvl hl1
  rw [hnl] at hll
  subst hvl
  have HNL := Lib.hid hnl
  have HLA := Lib.hid hla
  unfold maxLen at hl2
  clear hnl hla
  go_wp2_with fail
  go_loopw [22, 38] (fun _ i wr => ∃ (j : Nat) (S : St), j ≤ nl ∧ i = .int .i64 j ∧ dropS t a.l = dropS S (a.l.drop j) ∧ RSto wr q g S ∧ OnlyP g w3 wr) (fun _ i _ => nl - (intOf i).toNat)
  case atStart => exact ⟨0, t, Nat.zero_le _, rfl, rfl, HR3.out, OnlyP.refl _ _⟩
  case round =>
    obtain ⟨j, S, hj, rfl, hd, hr, ho⟩ := hrel
    have HD := Lib.hid hd
    have HS := Lib.hid hr
    have HO4 := Lib.hid ho
    clear hd hr ho
    by_cases hlt : j < nl
    · have hjl : j < a.l.length := by rw [HNL.out]; exact hlt
      obtain ⟨x, rfl, hcx⟩ := HLA.out j (.int .i64 a.l[j]) (by rw [List.getElem?_map, List.getElem?_eq_getElem hjl]; rfl)
      have hxg : x.block ≠ g := (HOLS.out (by rintro e; rw [e] at hjl; simp at hjl) x.block rfl).2
      have hcx2 : wr.cell? (x.add j) = some (.int .i64 a.l[j]) := World.grownBy.cell HO4.out hcx (fun hh => hxg (by have h9 : (x.add j).block = g := (by simpa using hh); rwa [add_block] at h9))
      have hwf := HF.out.l a.l[j] (List.getElem_mem hjl)
      have HDR := Lib.hid (show dropS S (a.l.drop j) = dropS (freeS S a.l[j]).2 (a.l.drop (j + 1)) from by rw [List.drop_eq_getElem_cons hjl]; rfl)
      have HFR := Lib.hid (refFree_any q g S a.l[j] wr HS.out hwf.1 hwf.2)
      generalize a.l[j] = id at hcx2 HDR HFR
      clear hcx hwf hjl
      go_wp2_with fail
      refine HFR.out.mono ?_
      rintro e w5 ⟨rfl, hr5, ho5⟩
      have HR5 := Lib.hid hr5
      have HO5 := Lib.hid ho5
      clear hr5 ho5
      go_wp2_with fail
      go_roundw
      case rel => exact ⟨j + 1, _, by omega, by go_num, by rw [HD.out, HDR.out], HR5.out, OnlyP.trans HO4.out HO5.out⟩
      case measure => simp [intOf]; omega
    · have HSE := Lib.hid (show dropS t a.l = S from by rw [HD.out, List.drop_eq_nil_of_le (by rw [HNL.out]; omega)]; rfl)
      have HPz := Lib.hid (HP3.out.onlyS (OnlyS.of_onlyP (X := fun b => b = g) HO4.out rfl) (fun b hb hx => by subst hx; rcases HN3.out _ hb with h | h; exact hng h; have := HE2.out.size; omega))
      have HRz := Lib.hid (show RSto wr q g (dropS t a.l) from by rw [HSE.out]; exact HS.out)
      have HXz := Lib.hid (show OnlyS (fun b => O b ∨ b = g) w2 wr from (HO3.out.mono (fun _ _ h => .inl h)).trans (OnlyS.of_onlyP (X := fun b => O b ∨ b = g) HO4.out (.inr rfl)) (fun _ _ h => h))
      have HQz := Lib.hid (HQ2.out.onlyS HXz.out (fun k hk hx => by
        have h1 := (HLT2.out k hk).1
        rcases hx with hx | hx
        · have := HOL.out k hx; omega
        · omega))
      have HSz := Lib.hid (show actS s a = dropS s a.l from by unfold actS; rw [if_neg (by have := HK.out; omega), if_neg (by have := HK.out; omega), if_neg (by have := HK.out; omega), if_neg (by have := HK.out; omega), if_neg (by have := HK.out; omega), if_neg (by have := HK.out; omega)])
      have HTz := Lib.hid (show actS t a = dropS t a.l from by unfold actS; rw [if_neg (by have := HK.out; omega), if_neg (by have := HK.out; omega), if_neg (by have := HK.out; omega), if_neg (by have := HK.out; omega), if_neg (by have := HK.out; omega), if_neg (by have := HK.out; omega)])
      go_wp2_with fail
      go_loopw [23, 167] (fun _ i wz => ∃ j : Nat, j ≤ nb ∧ i = .int .i64 j ∧ OwnQ (w.heap.size + 1) wz (.slice a2 nb cap2) nb ∧ OnlyS (fun b => w.heap.size + 1 ≤ b ∧ b < w2.heap.size) wr wz) (fun _ i _ => nb - (intOf i).toNat)
      case atStart => exact ⟨0, Nat.zero_le _, rfl, HQz.out, OnlyS.refl _ _⟩
      case round =>
        obtain ⟨j, hj, rfl, hq, ho⟩ := hrel
        have HQ := Lib.hid hq
        have HO := Lib.hid ho
        clear hq ho
        by_cases hlt : j < nb
        · obtain ⟨gg, off, z, rfl, hb1, hcz, hfz⟩ := HQ.out.at hlt
          have hgg : w.heap.size + 1 ≤ gg ∧ gg < w2.heap.size := HLT2.out gg rfl
          go_wp2_with fail
          go_roundw
          case rel => exact ⟨j + 1, by omega, by go_num, HQ.out.put hlt _, HO.out.trans (OnlyS.of_onlyP (X := fun b => w.heap.size + 1 ≤ b ∧ b < w2.heap.size) (OnlyP.set gg (off + j) _ _) hgg) (fun _ _ h => h)⟩
          case measure => simp [intOf]; omega
        · go_wp2_with fail
          go_ret
          unfold DoesApart
          rw [HSz.out, HTz.out]
          refine ⟨⟨_, rfl⟩, O3, ⟨HPz.out.onlyS HO.out (fun b hb hx => ?_), HRz.out.onlyS HO.out (by omega) (by omega), ?_, ?_, fun h => ?_, fun h => ?_⟩, ?_, fun b hb => ?_⟩
          · rcases HN3.out b hb with h | h
            · have := HOL.out b h; omega
            · omega
          · rw [← HSz.out]; exact actS_ok HOK.out a
          · rw [← HTz.out]; exact actS_ok HOKT.out a
          · rcases HN3.out q h with h | h
            · exact hnq h
            · have := HE2.out.size; omega
          · rcases HN3.out g h with h | h
            · exact hng h
            · have := HE2.out.size; omega
          · refine ((OnlyS.of_ext HE2.out).trans HXz.out (fun _ _ h => h)).trans HO.out (fun i hi h => ?_)
            omega
          · rcases HN3.out b hb with h | h
            · exact .inl h
            · exact .inr (Nat.le_trans HE2.out.size h)

/-- An act that came in with the call, on stores that the call has made. -/
theorem doesB_any (O : Nat → Prop) (p q g : Nat) (s t : St) (cs : List Value) (a : Act5) (w0 w : World) (hB : Apart O w p q g s t) (ha : ActAt w0 cs a) (hf : a.fits) (hs : a.small) (hb : Below w0.heap.size w0 w) (hO : ∀ b, O b → w0.heap.size ≤ b) (hg : w0.heap.size ≤ g) :
    Calls Try.prog 13 #[.pointer (some ⟨p, 0, none⟩), .pointer (some ⟨q, 0, none⟩), .agg cs.toArray] w (DoesApart O w p q g (actS s a) (actS t a)) := by
  obtain ⟨vb, vl, rfl, hrb0, hrl0⟩ := ha
  have hob : a.b ≠ [] → ∀ k, vb.ownBlock = some k → ¬ O k ∧ k ≠ g := fun h k hk => by
    have := block_lt hrb0 (by rintro e; exact h (by simpa using e)) k hk
    exact ⟨fun h => by have := hO k h; omega, by omega⟩
  have hol : a.l ≠ [] → ∀ k, vl.ownBlock = some k → ¬ O k ∧ k ≠ g := fun h k hk => by
    have := block_lt hrl0 (by rintro e; exact h (by simpa using e)) k hk
    exact ⟨fun h => by have := hO k h; omega, by omega⟩
  have hrb : Rd w vb a.b := hrb0.mono hb
  have hrl : RdV w vl (a.l.map (Value.int .i64)) := hrl0.mono hb
  have hk := hf.k
  have h7 : a.k % 7 = 0 ∨ a.k % 7 = 1 ∨ a.k % 7 = 2 ∨ a.k % 7 = 3 ∨ a.k % 7 = 4 ∨ a.k % 7 = 5 ∨ a.k % 7 = 6 := by omega
  rcases h7 with h | h | h | h | h | h | h
  · exact doesB_0 O p q g s t vb vl a w hB hrb hrl hf hs.1 hs.2 hob hol h
  · exact doesB_1 O p q g s t vb vl a w hB hrb hrl hf hs.1 hs.2 hob hol h
  · exact doesB_2 O p q g s t vb vl a w hB hrb hrl hf hs.1 hs.2 hob hol h
  · exact doesB_3 O p q g s t vb vl a w hB hrb hrl hf hs.1 hs.2 hob hol h
  · exact doesB_4 O p q g s t vb vl a w hB hrb hrl hf hs.1 hs.2 hob hol h
  · exact doesB_5 O p q g s t vb vl a w hB hrb hrl hf hs.1 hs.2 hob hol h
  · exact doesB_6 O p q g s t vb vl a w hB hrb hrl hf hs.1 hs.2 hob hol h

end Go.Proofs.Ythelgjoobckbaaa
