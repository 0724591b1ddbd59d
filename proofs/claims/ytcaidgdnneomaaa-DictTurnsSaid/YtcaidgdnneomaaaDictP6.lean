/-
  The program's own words: Take.
-/
import Derived.Test.YtcaidgdnneomaaaReadTk
import Derived.Test.YtcaidgdnneomaaaDictP4
import Derived.Test.YtcaidgdnneomaaaDictP5
namespace Go.Proofs.Ytcaidgdnneomaaa
open Go.RowKit Go.BigFrame Go.Shelf

theorem OnlyS.then_below {X : Nat → Prop} {a b c : World} (h : OnlyS X a b) (k : Below a.heap.size b c) : OnlyS X a c :=
  ⟨k.os.trans h.os, k.tape.trans h.tape, k.output.trans h.output, Nat.le_trans h.size k.size, fun i hi hx => (k.block i hi).trans (h.block i hi hx)⟩
theorem tk_suffix (l : T8) : (tk l).2.1 <:+ l := by
  unfold tk
  split
  · exact List.nil_suffix
  · exact List.drop_suffix _ _
theorem tkT_suffix (l : T8) : (tkT l).2.1 <:+ l := by
  unfold tkT
  split
  · exact List.nil_suffix
  · split
    · exact List.nil_suffix
    · exact (List.drop_suffix _ _).trans (List.drop_suffix _ _)
theorem drop_suffix {b r : T8} (h : r <:+ b) : b.drop (b.length - r.length) = r := by
  obtain ⟨p, rfl⟩ := h
  rw [List.length_append, Nat.add_sub_cancel, List.drop_left]

/-- What reading words answers. -/
structure Reads10 (b : T8) (x : List T8) (rest : T8) (bad : Bool) (er : Int) : Prop where
  ok : er = 0 ∨ er = 6
  few : x.length ≤ 200
  fits : ∀ t ∈ x, t.length ≤ 1024
  yes : ∀ ws r, IsPutW b ws r → er = 0 ∧ x = ws ∧ rest = r
  good : er = 0 → bad = false ∧ rest <:+ b
theorem Reads10.no {b rest : T8} {bad : Bool} (h : ¬ ∃ ws r, IsPutW b ws r) : Reads10 b [] rest bad 6 :=
  ⟨.inr rfl, Nat.zero_le _, fun t ht => by (cases ht), fun ws r hp => absurd ⟨ws, r, hp⟩ h, fun h => absurd h (by decide)⟩

def Took10 (P : Nat → Prop) (g : Nat) (b : T8) (w : World) (e : Ending) (w' : World) : Prop :=
  ∃ v x er rest bad, e = .returned (.tuple #[v, .int .i64 er]) ∧ RdV w' v (x.map tv) ∧ RdO P w' g rest bad ∧ OnlyS (fun k => k = g) w w' ∧ Reads10 b x rest bad er

set_option maxRecDepth 100000 in
set_option maxHeartbeats 4000000 in
theorem read10_any (P : Nat → Prop) (g : Nat) (b : T8) (w : World) (h : RdO P w g b false) (hP : ∀ k, P k → k < w.heap.size) (hg : g < w.heap.size) :
    Calls Try.prog 49 #[.pointer (some ⟨g, 0, none⟩)] w fun e w' => Took10 P g b w e w' := by
  obtain ⟨i1, hi1, hy0, hy1, hy2⟩ := info_parts Try.info_text
  have HPW := Lib.hid hP
  have HI0 := Lib.hid (takeW_start b)
  have HMANY := Lib.hid (takeW_many (b := b))
  have HSF := Lib.hid (tk_suffix b)
  have HBL := Lib.hid (show (tk b).2.2 = true → (tk b).2.1 = [] from fun h => by rw [tk_bad h])
  have hn64 := tk_lt b
  have HRN := Lib.hid (RNum_tk P g b false w (fun h => by cases h) h)
  obtain ⟨n0, r0, bad0, ht⟩ : ∃ n r bad, tk b = (n, r, bad) := ⟨_, _, _, rfl⟩
  rw [ht] at HRN HI0 HMANY HSF HBL hn64
  simp only at HRN HI0 HMANY HSF HBL hn64
  clear h hP ht
  go_enter Try.func49, Try.ntmps49
  go_wp2_with fail
  refine HRN.out.mono ?_
  rintro e w1 ⟨rfl, hr1, ho1⟩
  have HR1 := Lib.hid hr1
  have HX1 := Lib.hid (OnlyS.of_onlyP (X := fun k => k = g) ho1 rfl)
  clear hr1 ho1
  go_wp2_with fail
  refine (Bad_anyP P g r0 bad0 w1 HR1.out).mono ?_
  rintro e w2 ⟨rfl, rfl⟩
  cases bad0 with
  | true =>
    have HNO := Lib.hid (show ¬ ∃ ws r, IsPutW b ws r from fun ⟨ws, r, hp⟩ => by have h := (HI0.out ws r hp).1; cases h)
    go_wp2_with fail
    go_ret2
    exact ⟨_, [], 6, r0, true, rfl, RdV.nil _, HR1.out, HX1.out, Reads10.no HNO.out⟩
  | false =>
    by_cases hbig : 200 < n0
    · have HNO := Lib.hid (HMANY.out hbig)
      have d1 : decide (200 < n0) = true := decide_eq_true hbig
      have d1' : decide ((200 : Int) < (n0 : Int)) = true := decide_eq_true (by omega)
      go_wp2_with fail
      go_ret2
      exact ⟨_, [], 6, r0, false, rfl, RdV.nil _, HR1.out, HX1.out, Reads10.no HNO.out⟩
    · have d1 : decide (200 < n0) = false := decide_eq_false hbig
      have d1' : decide ((200 : Int) < (n0 : Int)) = false := decide_eq_false (by omega)
      go_wp2_with fail
      go_loopw [5, 6, 7, 8, 18] (fun v la _ _ i wr => ∃ (k : Nat) (rest : T8) (x : List T8), i = .int .u64 k ∧ k ≤ n0 ∧ x.length = k ∧ la = .string ⟨(lastT [] x).toArray⟩ ∧ RdO P wr g rest false ∧ rest <:+ b ∧ wr.ownsRow w.heap.size 9 1 v x.length (x.map tv) ∧ TakeInvW b (n0 - k) rest false x ∧ (∀ t ∈ x, t.length ≤ 1024) ∧ OnlyS (fun k => k = g) w wr) (fun _ _ _ _ i _ => n0 - (intOf i).toNat)
      case atStart => exact ⟨0, r0, [], rfl, Nat.zero_le _, rfl, rfl, HR1.out, HSF.out, owns_nil _ _ _ _, HI0.out, fun t ht => (by cases ht), HX1.out⟩
      case round =>
        obtain ⟨k, rest, x, rfl, hk, hxl, rfl, hrr, hsf, hown, hinv, hxf, hx⟩ := hrel
        have HRR := Lib.hid hrr
        have HSF2 := Lib.hid hsf
        have HO := Lib.hid hown
        have HINV := Lib.hid hinv
        have HXF := Lib.hid hxf
        have HX := Lib.hid hx
        have HXL := Lib.hid hxl
        have HOL := Lib.hid hown.lt
        obtain ⟨sa, sc, rfl, hs1, hs2⟩ := own_shapeP hown
        clear hrr hsf hown hinv hxf hx hxl
        by_cases hlt : k < n0
        · obtain ⟨m, hm⟩ : ∃ m, n0 - k = m + 1 := ⟨n0 - k - 1, by omega⟩
          have HM := Lib.hid hm
          rw [hm] at HINV
          clear hm
          go_wp2_with fail
          refine (RNum_tk P g rest false wr (fun h => by cases h) HRR.out).mono ?_
          rintro e w3 ⟨rfl, hr3, ho3⟩
          have HR3 := Lib.hid hr3
          have HO3 := Lib.hid (HO.out.kept ho3 (by
            cases hk : (Value.slice sa x.length sc).ownBlock with
            | none => exact .inl rfl
            | some k => exact .inr (fun e => by have h1 := (HOL.out k hk).1; cases e; omega)))
          have HX3 := Lib.hid (OnlyS.trans HX.out (OnlyS.of_onlyP (X := fun k => k = g) ho3 rfl) (fun _ _ h => h))
          have HB3 := Lib.hid (show (tk rest).2.2 = true → (tk rest).2.1 = [] from fun h => by rw [tk_bad h])
          clear hr3 ho3
          go_wp2_with fail
          refine (RText_tk P g (tk rest).2.1 (tk rest).2.2 w3 HB3.out HR3.out).mono ?_
          rintro e w4 ⟨rfl, hr4, ho4⟩
          have HR4 := Lib.hid hr4
          have HO4 := Lib.hid (HO3.out.kept ho4 (by
            cases hk : (Value.slice sa x.length sc).ownBlock with
            | none => exact .inl rfl
            | some k => exact .inr (fun e => by have h1 := (HOL.out k hk).1; cases e; omega)))
          have HX4 := Lib.hid (OnlyS.trans HX3.out (OnlyS.of_onlyP (X := fun k => k = g) ho4 rfl) (fun _ _ h => h))
          have HSTEP := Lib.hid (takeW_step HINV.out)
          have HFAIL := Lib.hid (takeW_fail HINV.out)
          have HTL := Lib.hid (tkT_len (tk rest).2.1)
          have hm64 := tk_lt rest
          have HSF4 := Lib.hid (show (tkT (tk rest).2.1).2.1 <:+ b from ((tkT_suffix _).trans (tk_suffix _)).trans HSF2.out)
          have HLL := Lib.hid (show (lastT [] x).length ≤ 1024 from by
            rcases lastT_mem (a := ([] : T8)) (x := x) with e | e
            · rw [e]; exact Nat.zero_le _
            · exact HXF.out _ e)
          generalize lastT [] x = la at HSTEP HFAIL HLL ⊢
          generalize tkT (tk rest).2.1 = T2 at HR4 HSTEP HFAIL HTL HSF4 ⊢
          generalize (tk rest).1 = M at HSTEP HFAIL hm64 ⊢
          obtain ⟨s, r2, bad2⟩ := T2
          simp only at HR4 HSTEP HFAIL HTL HSF4 ⊢
          have hll := HLL.out
          have hsl := HTL.out.1
          clear hr4 ho4
          go_wp2_with fail
          refine (Bad_anyP P g r2 bad2 w4 HR4.out).mono ?_
          rintro e w5 ⟨rfl, rfl⟩
          cases bad2 with
          | true =>
            have HNO := Lib.hid (HFAIL.out (.inl rfl))
            go_wp2_with fail
            go_ret2
            exact ⟨_, [], 6, r2, true, rfl, RdV.nil _, HR4.out, HX4.out, Reads10.no HNO.out⟩
          | false =>
            by_cases hM : la.length < M
            · have HNO := Lib.hid (HFAIL.out (.inr hM))
              have d2 : decide (la.length < M) = true := decide_eq_true hM
              have d2' : decide ((la.length : Int) < (M : Int)) = true := decide_eq_true (by omega)
              go_wp2_with fail
              go_ret2
              exact ⟨_, [], 6, r2, false, rfl, RdV.nil _, HR4.out, HX4.out, Reads10.no HNO.out⟩
            · have d2 : decide (la.length < M) = false := decide_eq_false hM
              have d2' : decide ((la.length : Int) < (M : Int)) = false := decide_eq_false (by omega)
              have hcut := tcut_take la M
              have hjoin := tjoin (la.take M) s
              have HWL := Lib.hid (show (la.take M ++ s).length ≤ 2048 by rw [List.length_append, List.length_take]; omega)
              have HTOO := Lib.hid (tooLong10_any (la.take M ++ s) w4 (by have := HWL.out; omega))
              generalize la.take M ++ s = t at HSTEP hjoin HTOO HWL
              have hpl : (la.take M).length ≤ 1024 := by rw [List.length_take]; omega
              have hml : M ≤ la.length := by omega
              generalize la.take M = la2 at hcut hjoin hpl
              cases hlg : longT t with
              | true =>
                rw [hlg] at HTOO
                have HNO := Lib.hid (show ¬ ∃ ws r, IsPutW b ws r from fun ⟨ws, r, hp⟩ => by
                  obtain ⟨-, q, hq, -, -⟩ := HSTEP.out ws r hp
                  have h1 := hp.1.2.1 t (by rw [hq]; simp)
                  have h2 := of_decide_eq_true hlg
                  omega)
                clear hlg
                go_wp2_with fail
                refine HTOO.out.mono ?_
                rintro e w5 ⟨rfl, rfl⟩
                go_wp2_with fail
                go_ret2
                exact ⟨_, [], 6, r2, false, rfl, RdV.nil _, HR4.out, HX4.out, Reads10.no HNO.out⟩
              | false =>
                rw [hlg] at HTOO
                have HTS := Lib.hid (show t.length ≤ 1024 by have := of_decide_eq_false hlg; omega)
                have HSZ := Lib.hid HX4.out.size
                have HXS := Lib.hid (show x.length ≤ 200 by have := HXL.out; omega)
                clear hlg
                go_wp2_with fail
                refine HTOO.out.mono ?_
                rintro e w5 ⟨rfl, rfl⟩
                go_wp2_with (at_builtin; go_must (refine wpList_append_own _ rfl (.tmp 46) (.tmp 48) 22 rfl w.heap.size 9 i1 (.string ByteArray.empty) 1 16 Try.underlying22 hi1 hy0 hy1 hy2 rfl (by decide) _ _ _ rfl (HO4.out.alloc _) ⟨w4.heap.size, 0, none⟩ 1 1 [tv t] rfl rfl (row_new _ _ _) (by simp [tv, Value.oneCell']) (by have := HXS.out; unfold maxLen; omega) (by have := HXS.out; omega) (by have := HSZ.out; simp; omega) ?_); intro v6 w6 hown6 hgrow6 _; have HO6 := Lib.hid hown6; have HB6 := Lib.hid (((Below.refl w.heap.size w4).alloc HSZ.out _).grown hgrow6 (by simp; have := HSZ.out; omega) (fun b hb => (HO4.out.lt b hb).1)); clear hown6 hgrow6)
                go_roundw
                case rel =>
                  refine ⟨k + 1, r2, x ++ [t], by go_num, by omega, by rw [List.length_append, HXL.out]; rfl, by rw [lastT_snoc], RdrP.below HR4.out HB6.out hg HPW.out, HSF4.out, ?_, ?_, fun y hy => ?_, OnlyS.then_below HX4.out HB6.out⟩
                  · rw [List.map_append, List.length_append]
                    exact HO6.out
                  · have e : n0 - (k + 1) = m := by have := HM.out; omega
                    rw [e]
                    exact HSTEP.out
                  · rcases List.mem_append.1 hy with hy | hy
                    · exact HXF.out y hy
                    · rw [List.mem_singleton.1 hy]
                      exact HTS.out
                case measure => simp [intOf]; omega
        · have HEN := Lib.hid (fun ws r (hp : IsPutW b ws r) => takeW_end (b := b) (rest := rest) (bad := false) (x := x) (by have h := HINV.out; rwa [show n0 - k = 0 by omega] at h) hp)
          have HRD := Lib.hid (RdV.of_owns HO.out)
          go_wp2_with fail
          go_ret2
          exact ⟨_, x, 0, rest, false, rfl, HRD.out, HRR.out, HX.out, ⟨.inl rfl, by have := HXL.out; omega, HXF.out, fun ws r hp => ⟨rfl, (HEN.out ws r hp).2⟩, fun _ => ⟨rfl, HSF2.out⟩⟩⟩

theorem bytesEq10_any (u v : Value) (a b : T8) (w : World) (ha : Rd w u a) (hb : Rd w v b) :
    Calls Try.prog 51 #[u, v] w fun e w' => e = .returned (.bool (a == b)) ∧ w = w' := by
  have hs1 := ha.string (P := Try.prog) 37 9 5 Try.underlying37 Try.underlying5 Try.underlying9
  have hs2 := hb.string (P := Try.prog) 37 9 5 Try.underlying37 Try.underlying5 Try.underlying9
  clear ha hb
  go_enter Try.func51, Try.ntmps51
  go_wp2_with fail
  go_ret
  exact ⟨by simp, rfl⟩

set_option maxRecDepth 100000 in
set_option maxHeartbeats 4000000 in
theorem pTake10_any (u : Value) (b : List UInt8) (w : World) (hu : Rd w u b) (hb : b.length ≤ 8000000) :
    Calls Try.prog 26 #[u] w fun e w' => (∃ v r, e = .returned (.tuple #[v, r, .int .i64 (takeS10 b).2.2]) ∧ RdV w' v ((takeS10 b).1.map tv) ∧ Rd w' r (takeS10 b).2.1) ∧ Ext w w' := by
  have HU := Lib.hid hu
  have HB := Lib.hid hb
  obtain ⟨ao, cap, rfl, h1, h2⟩ := hu.shape
  obtain ⟨N, hN⟩ : ∃ N, b.length = N := ⟨_, rfl⟩
  have HN := Lib.hid hN
  unfold maxLen at h2
  rw [hN] at h1 hb HU ⊢
  clear hu hN
  go_enter Try.func26, Try.ntmps26
  go_wp2_with fail
  refine (New_anyP _ b w HU.out (by have := HB.out; omega)).mono ?_
  rintro e w1 ⟨g, rfl, hg0, hg1, hr1, hx1⟩
  have HR1 := Lib.hid hr1
  have HX1 := Lib.hid (show Ext w w1 from hx1)
  have HG := Lib.hid (show w.heap.size ≤ g ∧ g < w1.heap.size from ⟨hg0, hg1⟩)
  clear hr1 hx1 hg0 hg1
  have HP := Lib.hid (show ∀ k, (fun k => w.heap.size ≤ k ∧ k < g) k → k < w1.heap.size from fun k hk => by have h2 : k < g := hk.2; have := HG.out.2; omega)
  generalize (fun k => w.heap.size ≤ k ∧ k < g) = P at HR1 HP
  go_wp2_with fail
  refine (read10_any P g b w1 HR1.out HP.out HG.out.2).mono ?_
  rintro e w2 ⟨v, x, er, rest, bad, rfl, hrd, hr2, hx2, hreads⟩
  have HRD := Lib.hid hrd
  have HR2 := Lib.hid hr2
  have HX2 := Lib.hid (show Ext w w2 from Below.trans HX1.out (hx2.below HX1.out.size (fun k hk => by rw [hk]; exact HG.out.1)))
  have HRS := Lib.hid hreads
  have hok := hreads.ok
  clear hrd hr2 hx2 hreads
  rcases hok with rfl | rfl
  · obtain ⟨rfl, hsf⟩ := HRS.out.good rfl
    have HSF := Lib.hid hsf
    have hle : rest.length ≤ N := by have := hsf.length_le; have := HN.out; omega
    obtain ⟨K, hK⟩ : ∃ K, N - rest.length = K := ⟨_, rfl⟩
    have HK := Lib.hid hK
    have hK1 : (N : Int) - (rest.length : Int) = (K : Int) := by omega
    have hKN : K ≤ N := by omega
    have HLF := Lib.hid (Left_anyP P g rest w2 HR2.out)
    have HDR := Lib.hid (show b.drop K = rest by have h := drop_suffix hsf; have e := HN.out; rw [e, hK] at h; exact h)
    clear hsf hK
    generalize rest.length = RL at hK1 hle HLF
    have HPUT := Lib.hid (pPut10_any v x w2 HRD.out (by have := HRS.out.few; omega) (fun t ht => by have := HRS.out.fits t ht; omega))
    cases hrx : rightW x with
    | false =>
      rw [putS10_no hrx] at HPUT
      have HNO := Lib.hid (show takeS10 b = ([], [], 6) from takeW_no (fun ⟨ws, r, hp⟩ => by
        have h1 := (HRS.out.yes ws r hp).2.1
        rw [h1, rightW_iff.2 hp.1] at hrx
        cases hrx))
      clear hrx
      go_wp2_with fail
      refine HLF.out.mono ?_
      rintro e w3 ⟨rfl, rfl⟩
      go_wp2_with fail
      refine HPUT.out.mono ?_
      rintro e w3 ⟨v3, rfl, ho3, hx3⟩
      have HX3 := Lib.hid (Ext.trans HX2.out hx3)
      clear ho3 hx3
      go_wp2_with fail
      refine bodyPost_ret (v := .tuple #[.slice none 0 0, .slice none 0 0, .int .i64 6]) (by simp [results, Try.results26, go_sem]) rfl ⟨⟨_, _, by rw [HNO.out], by rw [HNO.out]; exact RdV.nil _, by rw [HNO.out]; exact Rd.nil _⟩, HX3.out⟩
    | true =>
      rw [putS10_ok hrx] at HPUT
      have HGW := Lib.hid (rightW_iff.1 hrx)
      clear hrx
      go_wp2_with fail
      refine HLF.out.mono ?_
      rintro e w3 ⟨rfl, rfl⟩
      go_wp2_with fail
      refine HPUT.out.mono ?_
      rintro e w3 ⟨v3, rfl, ho3, hx3⟩
      have HX3 := Lib.hid (Ext.trans HX2.out hx3)
      have HRD3 := Lib.hid (HRD.out.mono hx3)
      have HR3 := Lib.hid (show Rd w3 v3 (putW x) from RdV.of_owns ho3)
      have HU3 := Lib.hid (show Rd w3 (.slice ao N cap) b from RdV.mono HU.out HX3.out)
      have HUF := Lib.hid (show Rd w3 (.slice ao K cap) (b.take K) from by have h := rdV_first HU3.out K hKN; rwa [← List.map_take] at h)
      have HEQ := Lib.hid (bytesEq10_any v3 (.slice ao K cap) (putW x) (b.take K) w3 HR3.out HUF.out)
      obtain ⟨ra, rc, hrr, hsl⟩ := slice_rest HU3.out K hKN
      have HRR := Lib.hid hrr
      rw [HDR.out] at HRR
      clear ho3 hx3 hrr
      cases hq : (putW x == b.take K) with
      | false =>
        rw [hq] at HEQ
        have HNO := Lib.hid (show takeS10 b = ([], [], 6) from takeW_no (fun ⟨ws, r, hp⟩ => by
          obtain ⟨-, h1, h2⟩ := HRS.out.yes ws r hp
          have h3 : b.take K = putW x := by
            have h4 : b.take K ++ rest = b := by rw [← HDR.out, List.take_append_drop]
            have h5 : b = putW x ++ rest := by rw [h1, h2]; exact hp.2
            exact List.append_cancel_right (h4.trans h5)
          rw [h3, beq_self_eq_true] at hq
          cases hq))
        clear hq
        go_wp2_with fail
        refine HEQ.out.mono ?_
        rintro e w4 ⟨rfl, rfl⟩
        go_wp2_with fail
        refine bodyPost_ret (v := .tuple #[.slice none 0 0, .slice none 0 0, .int .i64 6]) (by simp [results, Try.results26, go_sem]) rfl ⟨⟨_, _, by rw [HNO.out], by rw [HNO.out]; exact RdV.nil _, by rw [HNO.out]; exact Rd.nil _⟩, HX3.out⟩
      | true =>
        rw [hq] at HEQ
        have HYES := Lib.hid (show takeS10 b = (x, rest, 0) from takeW_yes ⟨HGW.out, by
          have h3 := beq_iff_eq.1 hq
          rw [h3, ← HDR.out, List.take_append_drop]⟩)
        have HCL := Lib.hid (clone_any _ rest w3 HRR.out (by have := HDR.out; have := HB.out; rw [← HDR.out, List.length_drop]; omega))
        clear hq
        go_wp2_with fail
        refine HEQ.out.mono ?_
        rintro e w4 ⟨rfl, rfl⟩
        go_wp2_with fail
        refine HCL.out.mono ?_
        rintro e w4 ⟨v4, rfl, ho4, hx4⟩
        have HR4 := Lib.hid (show Rd w4 v4 rest from RdV.of_owns ho4)
        have HX4 := Lib.hid (Ext.trans HX3.out (show Ext w3 w4 from hx4))
        have HRD4 := Lib.hid (HRD3.out.mono (show Ext w3 w4 from hx4))
        clear ho4 hx4
        go_wp2_with fail
        refine bodyPost_ret (v := .tuple #[v, v4, .int .i64 0]) (by simp [results, Try.results26, go_sem]) rfl ⟨⟨_, _, by rw [HYES.out], by rw [HYES.out]; exact HRD4.out, by rw [HYES.out]; exact HR4.out⟩, HX4.out⟩
  · have HNO := Lib.hid (show takeS10 b = ([], [], 6) from takeW_no (fun ⟨ws, r, hp⟩ => absurd (HRS.out.yes ws r hp).1 (by decide)))
    go_wp2_with fail
    refine bodyPost_ret (v := .tuple #[.slice none 0 0, .slice none 0 0, .int .i64 6]) (by simp [results, Try.results26, go_sem]) rfl ⟨⟨_, _, by rw [HNO.out], by rw [HNO.out]; exact RdV.nil _, by rw [HNO.out]; exact Rd.nil _⟩, HX2.out⟩

end Go.Proofs.Ytcaidgdnneomaaa
