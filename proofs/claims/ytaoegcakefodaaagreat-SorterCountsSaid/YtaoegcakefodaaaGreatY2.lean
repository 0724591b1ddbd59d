/-
  Texts of this proof, merged.
-/
import Derived.Test.YtaoegcakefodaaaGreatZ1
import Derived.Test.YtaoegcakefodaaaGreatY1
import Derived.Test.YtaoegcakefodaaaGreatZ2
import Derived.Test.YtaoegcakefodaaaGreatZ3
import Derived.Test.YtaoegcakefodaaaGreatZ4
import Derived.Test.YtaoegcakefodaaaGreatZ5
import Derived.Test.YtaoegcakefodaaaGreatZ6
import Derived.Test.YtaoegcakefodaaaGreatZ7
import Derived.Test.YtaoegcakefodaaaGreatZ8
import Derived.Test.YtaoegcakefodaaaGreatZ9
import Derived.Test.YtaoegcakefodaaaGreatZ10
import Derived.Test.YtaoegcakefodaaaGreatZ11
import Derived.Test.YtaoegcakefodaaaGreatZ12
import Derived.Test.YtaoegcakefodaaaGreatZ13
import Derived.Test.YtaoegcakefodaaaGreatZ14
import Derived.Test.YtaoegcakefodaaaGreatZ15
import Derived.Test.YtaoegcakefodaaaGreatZ16
import Derived.Test.YtaoegcakefodaaaGreatZ17
import Derived.Test.YtaoegcakefodaaaGreatZ18
import Derived.Test.YtaoegcakefodaaaGreatZ19
import Derived.Test.YtaoegcakefodaaaGreatZ20
import Derived.Test.YtaoegcakefodaaaGreatZ21
import Derived.Test.YtaoegcakefodaaaGreatZ22
import Derived.Test.YtaoegcakefodaaaGreatZ23
import Derived.Test.YtaoegcakefodaaaGreatZ24
namespace Go.Proofs.YtaoegcakefodaaaGreat
open Go.RowKit Go.BigFrame
def Seek (ks : List Ky) (s : List (List V)) (r : List V) (k : Nat) : Prop := k ≤ s.length ∧ ∀ y ∈ s.drop k, 0 < cmpR ks y r
theorem Seek.start (ks : List Ky) (s : List (List V)) (r : List V) : Seek ks s r s.length := ⟨Nat.le_refl _, by simp⟩
theorem Seek.next {ks : List Ky} {s : List (List V)} {r : List V} {k : Nat} (h : Seek ks s r k) (hk : 0 < k) (hc : 0 < cmpR ks (s[k - 1]'(by have := h.1; omega)) r) : Seek ks s r (k - 1) := by
  refine ⟨by have := h.1; omega, fun y hy => ?_⟩
  have hk2 : k - 1 < s.length := by have := h.1; omega
  rw [List.drop_eq_getElem_cons hk2, show k - 1 + 1 = k by omega] at hy
  rcases List.mem_cons.1 hy with rfl | hy
  · exact hc
  · exact h.2 y hy
theorem Seek.place {ks : List Ky} {s : List (List V)} {r : List V} {k : Nat} (h : Seek ks s r k) (hc : ∀ (_ : 0 < k), cmpR ks (s[k - 1]'(by have := h.1; omega)) r ≤ 0) : OrdPure.IsPlace (cmpR ks) s r k :=
  ⟨h.1, h.2, fun j hj e => by
    subst e
    exact hc (by omega)⟩
set_option maxRecDepth 100000 in
set_option maxHeartbeats 4000000 in
theorem refSort15_any (u x : Value) (rs : List (List V)) (ks : List Ky) (m : Nat) (w : World) (hu : RdRows w u rs) (hx : RdKs w x ks) (hf : FitRs m rs) (hl : rs.length ≤ 1000000) :
    Calls Tryz.prog 20 #[u, x] w fun e w' => (∃ o, e = .returned o ∧ AnsR w.heap.size w' o (sortS ks rs)) ∧ Ext w w' := by
  obtain ⟨i1, hi1, hy0, hy1, hy2⟩ := info_parts Tryz.info_row
  obtain ⟨ao, ca, rfl, -, -⟩ := hu.shape
  obtain ⟨ko, kcap, rfl, -, -⟩ := hx.shape
  obtain ⟨as', ha1, -, h1, h2, hca⟩ := hu.heads
  have HA := Lib.hid hca
  have HHA := Lib.hid ha1
  have HC := Lib.hid (fun a b u v W (h : Ext w W) (hu : RdVals W u a) (hv : RdVals W v b) (ha : FitR m a) (hb : FitR m b) => refCompare15_any u v _ a b ks m W hu hv (hx.mono h) ha hb)
  generalize ks.length = KN at HC ⊢
  have HF := Lib.hid hf
  have HP := Lib.hid (cmpR_pre ks)
  unfold maxLen at h2
  obtain ⟨N, hN⟩ : ∃ N, rs.length = N := ⟨_, rfl⟩
  have HN := Lib.hid hN
  rw [hN] at h1 hl ⊢
  clear hu hx hca ha1 hf hN
  go_enter Tryz.func20, Tryz.ntmps20
  go_wp2_with fail
  go_loopw [5, 6, 7, 8] (fun o i _ _ wr => ∃ (j : Nat) (s : List (List V)) (oh : List Value), j ≤ N ∧ i = .int .i64 j ∧ OrdPure.IsSort (cmpR ks) (rs.take j) s ∧ wr.ownsRow w.heap.size 58 1 o oh.length oh ∧ HdRows w oh s ∧ Ext w wr) (fun _ i _ _ _ => N - (intOf i).toNat)
  case atStart => exact ⟨0, [], [], Nat.zero_le _, rfl, by rw [List.take_zero]; exact OrdPure.IsSort.nil, owns_nil _ _ _ _, HdRows.nil _, Ext.keeps.refl _⟩
  case round =>
    obtain ⟨j, s, oh, hj, rfl, hs, ho, hh, hext⟩ := hrel
    have hsl := hs.length HP.out
    rw [List.length_take] at hsl
    have hoh : oh.length ≤ 1000000 := by have := hh.1; omega
    have HSL := Lib.hid hh.1
    have HS := Lib.hid hs
    have HO := Lib.hid ho
    have HH := Lib.hid hh
    have HE := Lib.hid hext
    obtain ⟨oa, oc, rfl, ho1, ho2⟩ := own_shapeP ho
    unfold maxLen at ho2
    clear hs ho hh hext hsl
    by_cases hlt : j < N
    · have hjl : j < rs.length := by have := HN.out; omega
      obtain ⟨b1, b2, b3, hb, hrb⟩ := HHA.out.get j hjl
      obtain ⟨g', off', rfl, c1⟩ := HA.out j _ hb
      have HFR := Lib.hid (HF.out rs[j] (List.getElem_mem hjl))
      have HFS := Lib.hid (show FitRs m s from fun q hq => HF.out q (List.mem_of_mem_take ((HS.out.mem HP.out).1 hq)))
      have HTK := Lib.hid (List.take_succ_eq_append_getElem hjl)
      have HRB := Lib.hid hrb
      have HC1 := Lib.hid (fun W (h : Ext w W) => (h.cell (lt_of_cell c1)).trans c1)
      generalize rs[j] = r at HFR HTK HRB
      clear hb hrb c1
      have hohl : oh.length = oh.length := rfl
      go_upto_block 2 with fail
      go_cut [7] from 17 to 34 (fun kv W => ∃ k : Nat, kv = .int .i64 k ∧ k ≤ oh.length ∧ OrdPure.IsPlace (cmpR ks) s r k ∧ W.ownsRow w.heap.size 58 1 (.slice oa oh.length oc) oh.length oh ∧ Ext w W)
      case first =>
        go_wp2_with fail
        generalize wr = wo at HO HE ⊢
        go_loopw [7] (fun kv wr => ∃ k : Nat, kv = .int .i64 k ∧ k ≤ oh.length ∧ Seek ks s r k ∧ wr.ownsRow w.heap.size 58 1 (.slice oa oh.length oc) oh.length oh ∧ Ext w wr) (fun kv _ => (intOf kv).toNat)
        case atStart => exact ⟨oh.length, rfl, Nat.le_refl _, by rw [HSL.out]; exact Seek.start ks s r, HO.out, HE.out⟩
        case round =>
          obtain ⟨k, rfl, hk, hsk, ho3, hx3⟩ := hrel
          have HSK := Lib.hid hsk
          have HO2 := Lib.hid ho3
          have HE2 := Lib.hid hx3
          clear hsk ho3 hx3
          by_cases hk0 : 0 < k
          · have hks : k - 1 < s.length := by have := HSL.out; omega
            obtain ⟨a1, a2, a3, ha, hra⟩ := HH.out.get (k - 1) hks
            obtain ⟨g, off, hgo, c0⟩ := (RdV.plainV (RdV.of_owns HO2.out)).2.2.2 (k - 1) _ ha
            subst hgo
            have e1 : (k : Int) - 1 = ((k - 1 : Nat) : Int) := by omega
            have d0 : decide ((k : Int) > 0) = true := decide_eq_true (by omega)
            have d0' : decide (k > 0) = true := decide_eq_true hk0
            have z0 : ∀ z : Later Ext wr.drew, z.val.cell? ⟨g, off + (k - 1), none⟩ = some (.slice a1 a2 a3) := fun z => ((Ext.trans (Ext.drew wr) z.ext).cell (lt_of_cell c0)).trans c0
            have z1 : ∀ z : Later Ext wr.drew, z.val.cell? ⟨g', off' + j, none⟩ = some (.slice b1 b2 b3) := fun z => HC1.out z.val (Ext.trans HE2.out (Ext.trans (Ext.drew wr) z.ext))
            have HCC := Lib.hid (HC.out s[k - 1] r _ _ wr.drew (Ext.trans HE2.out (Ext.drew wr)) (hra.mono (Ext.trans HE2.out (Ext.drew wr))) (HRB.out.mono (Ext.trans HE2.out (Ext.drew wr))) (HFS.out _ (List.getElem_mem _)) HFR.out)
            have HNX := Lib.hid (fun h => HSK.out.next hk0 h)
            have HPL := Lib.hid (fun (h : cmpR ks (s[k - 1]'hks) r ≤ 0) => HSK.out.place (fun _ => h))
            generalize cmpR ks s[k - 1] r = C at HCC HNX HPL
            clear ha hra c0
            by_cases hC : 0 < C
            · have HR := Lib.hid (HNX.out hC)
              have d1 : decide (C > 0) = true := decide_eq_true hC
              clear hC
              go_wp2_with fail
              refine wp_region_segs Ext Ext.keeps [([0, 1, 2, 3, 4, 5, 6, 7, 8, 9, 10, 11, 12], some 13), ([14, 15], none)] (by kernel_rfl) (by kernel_rfl) (fun c a a' w e h => (by exact ⟨e ▸ h.1, h.2⟩)) ?_
              simp only [pickSegs, pickOps, List.map_cons, List.map_nil, Option.map_some, Option.map_none, Option.getD_some, List.getElem?_toArray, List.getElem?_cons_zero, List.getElem?_cons_succ]
              refine wpSegs_some fun K' hK' => ?_
              repeat go_big_quiet_step (fail)
              refine wpQuiet_nil ?_
              clear z0 z1
              go_wp2_with fail
              refine (HCC.out).mono ?_
              rintro e w3 ⟨rfl, hx3⟩
              have HX3 := Lib.hid hx3
              clear hx3
              go_wp2_with fail
              refine ⟨HX3.out, hK' _ _ ?_⟩
              clear hK' K'
              refine wpSegs_none ?_
              repeat go_big_quiet_step (fail)
              refine wpQuiet_nil (wpSegs_nil ?_)
              go_wp2_with fail
              go_roundw
              case rel => exact ⟨k - 1, by go_num, by omega, HR.out, owns_extS HO2.out (Ext.trans (Ext.drew wr) HX3.out), Ext.trans HE2.out (Ext.trans (Ext.drew wr) HX3.out)⟩
              case measure => simp [intOf]; omega
            · have HR := Lib.hid (HPL.out (by omega))
              have d1 : decide (C > 0) = false := decide_eq_false hC
              clear hC
              go_wp2_with fail
              refine wp_region_segs Ext Ext.keeps [([0, 1, 2, 3, 4, 5, 6, 7, 8, 9, 10, 11, 12], some 13), ([14, 15], none)] (by kernel_rfl) (by kernel_rfl) (fun c a a' w e h => (by exact ⟨e ▸ h.1, h.2⟩)) ?_
              simp only [pickSegs, pickOps, List.map_cons, List.map_nil, Option.map_some, Option.map_none, Option.getD_some, List.getElem?_toArray, List.getElem?_cons_zero, List.getElem?_cons_succ]
              refine wpSegs_some fun K' hK' => ?_
              repeat go_big_quiet_step (fail)
              refine wpQuiet_nil ?_
              clear z0 z1
              go_wp2_with fail
              refine (HCC.out).mono ?_
              rintro e w3 ⟨rfl, hx3⟩
              have HX3 := Lib.hid hx3
              clear hx3
              go_wp2_with fail
              refine ⟨HX3.out, hK' _ _ ?_⟩
              clear hK' K'
              refine wpSegs_none ?_
              repeat go_big_quiet_step (fail)
              refine wpQuiet_nil (wpSegs_nil ?_)
              go_wp2_with fail
              go_meet
              exact ⟨k, rfl, hk, HR.out, owns_extS HO2.out (Ext.trans (Ext.drew wr) HX3.out), Ext.trans HE2.out (Ext.trans (Ext.drew wr) HX3.out)⟩
          · have HR := Lib.hid (HSK.out.place (fun h => absurd h hk0))
            have d0 : decide ((k : Int) > 0) = false := decide_eq_false (by omega)
            have d0' : decide (k > 0) = false := decide_eq_false hk0
            go_wp2_with fail
            refine wp_region_segs Ext Ext.keeps [([0, 1, 2, 3, 4, 5, 6, 7, 8, 9, 10, 11, 12], some 13), ([14, 15], none)] (by kernel_rfl) (by kernel_rfl) (fun c a a' w e h => (by exact ⟨e ▸ h.1, h.2⟩)) ?_
            simp only [pickSegs, pickOps, List.map_cons, List.map_nil, Option.map_some, Option.map_none, Option.getD_some, List.getElem?_toArray, List.getElem?_cons_zero, List.getElem?_cons_succ]
            refine wpSegs_some fun K' hK' => ?_
            repeat go_big_quiet_step (fail)
            refine wpQuiet_nil ?_
            go_wp2_with fail
            refine ⟨Ext.keeps.refl _, hK' _ _ ?_⟩
            clear hK' K'
            refine wpSegs_none ?_
            repeat go_big_quiet_step (fail)
            refine wpQuiet_nil (wpSegs_nil ?_)
            go_wp2_with fail
            go_meet
            exact ⟨k, rfl, hk, HR.out, owns_extS HO2.out (Ext.drew wr), Ext.trans HE2.out (Ext.drew wr)⟩
      case rest =>
      obtain ⟨k, rfl, hk, hpl, ho3, hx3⟩ := hcut
      have HPLC := Lib.hid hpl
      have HOC := Lib.hid ho3
      have HEC := Lib.hid hx3
      clear hpl ho3 hx3
      obtain ⟨ra, rcap, hrr, hsl⟩ := slice_restV Tryz.underlying22 hi1 hy1 (RdV.of_owns HOC.out) k hk
      have HRR := Lib.hid (hrr.mono (ext_new wc (.cells #[] 58)))
      have HTO := Lib.hid ((HH.out.drop k).oneCell)
      have HDL := Lib.hid (show (oh.drop k).length = oh.length - k by rw [List.length_drop])
      clear hrr HO HE
      go_upto_region 9 with (at_builtin; go_must (refine wpList_append_rd rfl (.tmp 35) (.tmp 38) 22 rfl wc.heap.size 58 i1 (.slice none 0 0) 24 Tryz.underlying22 hi1 hy0 hy1 hy2 rfl _ _ _ rfl (empty_rows wc) _ _ rfl HRR.out HTO.out (by rw [HDL.out]; unfold maxLen; omega) (by rw [HDL.out]; omega) (by simp) ?_); intro v5 w5 hown5 hgrow5; have HO5 := Lib.hid hown5; have HX5 := Lib.hid (show Ext wc w5 from (ext_new wc _).grown hgrow5 (by simp) (fun k hk => by cases hk; exact Nat.le_refl _)); clear hown5 hgrow5)
      have HX05 := Lib.hid (show Below w.heap.size w w5 from Ext.trans HEC.out HX5.out)
      have hcl5 : ∀ z : Later (Below w.heap.size) w5.drew, z.val.cell? ⟨g', off' + j, none⟩ = some (.slice b1 b2 b3) := fun z => HC1.out z.val (HX05.out.trans ((Below.drew (Below.refl w.heap.size w5)).trans z.ext))
      have HO6 := Lib.hid (owns_extS (owns_extS HOC.out HX5.out) (Ext.drew w5))
      have HX6 := Lib.hid (show Below w.heap.size w w5.drew from HX05.out.trans (Below.drew (Below.refl w.heap.size w5)))
      have HR6 := Lib.hid ((RdV.of_owns HO5.out).mono (Ext.drew w5))
      have HBL := Lib.hid (show ∀ k, v5.ownBlock = some k → wc.heap.size ≤ k from fun k hk => (HO5.out.lt k hk).1)
      have HBW := Lib.hid (fun (n k : Nat) (hk : (Value.slice oa n oc).ownBlock = some k) => (show k < wc.heap.size from (HOC.out.lt k ((ownBlock_len oa oh.length n oc).trans hk)).2))
      rw [List.nil_append] at HR6
      go_wp2_with fail
      refine wp_region_segs (Below w.heap.size) (Below.keepsD _) [([0, 1, 2, 3, 4, 5, 6], some 7), ([], some 8), ([9], none)] (by kernel_rfl) (by kernel_rfl) (fun c a a' w e h => (by exact ⟨e ▸ h.1, h.2⟩)) ?_
      simp only [pickSegs, pickOps, List.map_cons, List.map_nil, Option.map_some, Option.map_none, Option.getD_some, List.getElem?_toArray, List.getElem?_cons_zero, List.getElem?_cons_succ]
      refine wpSegs_some fun KK hKK => ?_
      repeat go_big_quiet_step (fail)
      refine wpQuiet_nil ?_
      clear hcl5
      generalize w5.drew = w6 at HO6 HX6 HR6 ⊢
      have HSZ6 := Lib.hid HX6.out.size
      go_wp2_with fail
      refine ⟨(Below.refl w.heap.size w6).alloc HSZ6.out _, hKK _ _ ?_⟩
      clear hKK KK
      refine wpSegs_some fun KK hKK => ?_
      refine wpQuiet_nil ?_
      have HO6k := Lib.hid (owns_take HO6.out k hk)
      go_wp2_with (at_builtin; go_must (refine wpList_append_own _ rfl (.tmp 42) (.tmp 47) 22 rfl w.heap.size 58 i1 (.slice none 0 0) 1 24 Tryz.underlying22 hi1 hy0 hy1 hy2 rfl (by decide) _ _ _ rfl (HO6k.out.alloc _) ⟨w6.heap.size, 0, none⟩ 1 1 [.slice b1 b2 b3] rfl rfl (row_new _ _ _) (by simp [Value.oneCell']) (by unfold maxLen; omega) (by omega) (by have := HSZ6.out; simp; omega) ?_); intro v7 w7 hown7 hgrow7 _; have HO7 := Lib.hid hown7; have HG7 := Lib.hid (OnlyS.of_grown hgrow7); have HB7 := Lib.hid ((Below.refl w.heap.size (w6.alloc (.cells #[.slice b1 b2 b3] 58))).grown hgrow7 (by have := HSZ6.out; simp; omega) (fun b hb => (HO6k.out.lt b hb).1)); clear hown7 hgrow7)
      refine ⟨HB7.out, hKK _ _ ?_⟩
      clear hKK KK
      simp only [Act.put, List.setIfInBounds_toArray, List.set]
      refine wpSegs_none ?_
      repeat go_big_quiet_step (fail)
      refine wpQuiet_nil (wpSegs_nil ?_)
      have HR7 := Lib.hid (RdV.onlyS (HR6.out.mono (ext_new w6 (.cells #[.slice b1 b2 b3] 58))) HG7.out (fun _ k' hk' hx => by
        have h1 := HBL.out k' hk'
        have h2 := HBW.out k k' hx
        omega))
      have HX7 := Lib.hid (show Below w.heap.size w w7 from HX6.out.trans (((Below.refl w.heap.size w6).alloc HSZ6.out _).trans HB7.out))
      have HSZ7 := Lib.hid HX7.out.size
      go_wp2_with (at_builtin; go_must (refine wpList_append_rd rfl (.tmp 49) (.tmp 50) 22 rfl w.heap.size 58 i1 (.slice none 0 0) 24 Tryz.underlying22 hi1 hy0 hy1 hy2 rfl _ _ _ rfl HO7.out _ _ rfl HR7.out HTO.out (by rw [HDL.out]; unfold maxLen; omega) (by rw [HDL.out]; omega) HSZ7.out ?_); intro v8 w8 hown8 hgrow8; have HO8 := Lib.hid hown8; have HB8 := Lib.hid ((Below.refl w.heap.size w7).grown hgrow8 HSZ7.out (fun b hb => (HO7.out.lt b hb).1)); clear hown8 hgrow8)
      go_roundw
      case rel =>
        refine ⟨j + 1, _, oh.take k ++ [.slice b1 b2 b3] ++ oh.drop k, by omega, by go_num, by rw [HTK.out]; exact HS.out.snoc HP.out HPLC.out, ?_, ?_, HX7.out.trans HB8.out⟩
        · have h := HO8.out
          rw [HDL.out] at h
          have e1 : (oh.take k ++ [Value.slice b1 b2 b3] ++ oh.drop k).length = k + 1 + (oh.length - k) := by
            rw [List.length_append, List.length_append, List.length_take, List.length_drop, List.length_singleton]
            omega
          rw [e1]
          exact h
        · have h := ((HH.out.take k).append (HdRows.one HRB.out)).append (HH.out.drop k)
          rw [List.append_assoc (s.take k)] at h
          exact h
      case measure => simp [intOf]; omega
    · have HALL := Lib.hid (show rs.take j = rs from List.take_of_length_le (by have := HN.out; omega))
      go_wp2_with fail
      go_ret
      exact ⟨⟨_, rfl, oh, HO.out, by rw [← sortS_eq (HALL.out ▸ HS.out)]; exact HH.out.mono HE.out⟩, HE.out⟩
end Go.Proofs.YtaoegcakefodaaaGreat

namespace Go.Proofs.YtaoegcakefodaaaGreat
open Go.RowKit Go.BigFrame
set_option maxRecDepth 100000 in
theorem refRow_wrap (u : Value) (vs : List V) (w : World) (hu : RdVals w u vs) :
    Calls Tryz.prog 36 #[u] w fun e w' => e = .returned (.int .i64 (wrap64 (rowCost vs))) ∧ Ext w w' := by
  obtain ⟨ao, cap, rfl, h1, h2, hat⟩ := hu
  have HAT := Lib.hid hat
  obtain ⟨N, hN⟩ : ∃ N, vs.length = N := ⟨_, rfl⟩
  have HN := Lib.hid hN
  have HT := Lib.hid (show rowCost vs = rowCost (vs.take N) by rw [← hN, List.take_length])
  unfold maxLen at h2
  rw [hN] at h1 ⊢
  clear hat hN
  go_enter Tryz.func36, Tryz.ntmps36
  go_wp2_with fail
  go_loopw [3, 4] (fun s i wr => ∃ j : Nat, j ≤ N ∧ i = .int .i64 j ∧ s = .int .i64 (wrap64 (rowCost (vs.take j))) ∧ Ext w wr) (fun _ i _ => N - (intOf i).toNat)
  case atStart => exact ⟨0, Nat.zero_le _, rfl, row_start vs, Ext.keeps.refl _⟩
  case round =>
    obtain ⟨j, hj, rfl, rfl, hext⟩ := hrel
    have HE := Lib.hid hext
    clear hext
    by_cases hlt : j < N
    · have hjl : j < vs.length := by have := HN.out; omega
      obtain ⟨g, off, rfl, hcs⟩ := HAT.out j hjl
      have hk := fun i y hy => (HE.out.cell (lt_of_cell (hcs i y hy))).trans (hcs i y hy)
      have HS := Lib.hid (rowCost_take hjl)
      have c2 := hk 2 _ rfl
      generalize vs[j] = v at c2 HS
      obtain ⟨vk, vn, vs'⟩ := v
      simp only at c2
      clear hcs hk hjl
      generalize hR : rowCost (vs.take j) = R at HS ⊢
      have HW := Lib.hid (wrap_row R vs'.length)
      go_wp2_with fail
      go_roundw
      case rel =>
        refine ⟨j + 1, by omega, by go_num, ?_, HE.out⟩
        have h := HS.out
        simp only at h
        rw [h, HW.out.2]
      case measure => simp [intOf]; omega
    · have HJ := Lib.hid (show j = N by omega)
      go_wp2_with fail
      go_ret
      exact ⟨by rw [HT.out, HJ.out]; rfl, HE.out⟩
theorem refRow_any (u : Value) (vs : List V) (w : World) (hu : RdVals w u vs) (hc : rowCost vs ≤ 9223372036854775807) :
    Calls Tryz.prog 36 #[u] w fun e w' => e = .returned (.int .i64 (rowCost vs)) ∧ Ext w w' := by
  have h := refRow_wrap u vs w hu
  rwa [wrap64_fits (rowCost_pos vs) hc] at h
end Go.Proofs.YtaoegcakefodaaaGreat

namespace Go.Proofs.YtaoegcakefodaaaGreat
open Go.RowKit Go.BigFrame
theorem snocI {α : Type} {P : List α → Prop} (h0 : P []) (h1 : ∀ t v, P t → P (t ++ [v])) (l : List α) : P l := by
  rw [← List.reverse_reverse l]
  generalize l.reverse = r
  induction r with
  | nil => exact h0
  | cons v t ih => rw [List.reverse_cons]; exact h1 _ _ ih
theorem cost_few {rows : List (List V)} (h : Few18 rows) : ∀ r ∈ rows, rowCost r ≤ 100000 := fun r hr => by
  obtain ⟨h1, -, h3⟩ := h.2.1 r hr
  have key : ∀ l : List V, (∀ v ∈ l, v.s.length ≤ 300) → rowCost l ≤ 8 + 308 * (l.length : Int) := fun l => by
    refine snocI (P := fun l => (∀ v ∈ l, v.s.length ≤ 300) → rowCost l ≤ 8 + 308 * (l.length : Int)) ?_ ?_ l
    · intro _; rw [rowCost_nil]; simp
    · intro t v ih hl
      rw [rowCost_snoc, List.length_append, List.length_singleton]
      have h1 := ih fun x hx => hl x (List.mem_append.2 (.inl hx))
      have h2 := hl v (List.mem_append.2 (.inr (List.mem_singleton.2 rfl)))
      omega
  have := key r fun v hv => (h3 v hv).2
  omega
theorem greatR_snoc (l : List (List V)) (r : List V) : greatR (l ++ [r]) = max (greatR l) (rowCost r) := by
  unfold greatR
  rw [List.foldl_append]
  rfl
theorem greatR_le {l : List (List V)} (h : ∀ r ∈ l, rowCost r ≤ 100000) : 0 ≤ greatR l ∧ greatR l ≤ 100000 := by
  revert h
  refine snocI (P := fun l => (∀ r ∈ l, rowCost r ≤ 100000) → 0 ≤ greatR l ∧ greatR l ≤ 100000) ?_ ?_ l
  · exact fun _ => ⟨Int.le_refl _, by decide⟩
  · intro t r ih h
    have h1 := ih fun x hx => h x (List.mem_append.2 (.inl hx))
    have h2 := h r (List.mem_append.2 (.inr (List.mem_singleton.2 rfl)))
    rw [greatR_snoc]
    omega
set_option maxRecDepth 100000 in
set_option maxHeartbeats 1000000 in
theorem greatest18_any (u : Value) (rows : List (List V)) (w : World) (hu : RdRows w u rows) (hf : ∀ r ∈ rows, rowCost r ≤ 100000) :
    Calls Tryz.prog 12 #[u] w fun e w' => e = .returned (.int .i64 (greatR rows)) ∧ Ext w w' := by
  obtain ⟨ua, uc, rfl, hu1, hu2⟩ := hu.shape
  obtain ⟨fh, hfh, -, -, -, hat⟩ := hu.heads
  have HAT := Lib.hid hat
  have HFH := Lib.hid hfh
  have HF := Lib.hid hf
  unfold maxLen at hu2
  obtain ⟨N, hN⟩ : ∃ N, rows.length = N := ⟨_, rfl⟩
  have HN := Lib.hid hN
  obtain ⟨G, hG⟩ : ∃ G, greatR rows = G := ⟨_, rfl⟩
  have HG := Lib.hid hG
  rw [hN] at hu1 ⊢
  rw [hG]
  clear hu hat hfh hf hN hG
  go_enter Tryz.func12, Tryz.ntmps12
  go_wp2_with fail
  go_loopw [3, 5, 8] (fun nv _ iv wr => ∃ j : Nat, j ≤ N ∧ iv = .int .i64 j ∧ nv = .int .i64 (greatR (rows.take j)) ∧ Ext w wr) (fun _ _ iv _ => N - (intOf iv).toNat)
  case atStart => exact ⟨0, Nat.zero_le _, rfl, rfl, Ext.keeps.refl _⟩
  case round =>
    obtain ⟨j, hj, rfl, rfl, hx⟩ := hrel
    have HX := Lib.hid hx
    clear hx
    by_cases hlt : j < N
    · have hjl : j < rows.length := by rw [HN.out]; exact hlt
      obtain ⟨a1, a2, a3, ha, hra⟩ := HFH.out.get j hjl
      obtain ⟨g, off, rfl, c0⟩ := HAT.out j _ ha
      have x0 := (HX.out.cell (lt_of_cell c0)).trans c0
      have hcost := HF.out rows[j] (List.getElem_mem hjl)
      have HROW := Lib.hid (refRow_any _ rows[j] wr (hra.mono HX.out) (by omega))
      have HS := Lib.hid (show greatR (rows.take (j + 1)) = max (greatR (rows.take j)) (rowCost rows[j]) from by rw [List.take_succ_eq_append_getElem hjl, greatR_snoc])
      have hg := greatR_le (l := rows.take j) fun r hr => HF.out r (List.mem_of_mem_take hr)
      generalize rowCost rows[j] = C at hcost HROW HS
      generalize greatR (rows.take j) = G0 at hg HS ⊢
      clear ha hra c0
      go_wp2_with fail
      refine HROW.out.mono ?_
      rintro e w1 ⟨rfl, x1⟩
      have HX1 := Lib.hid (Ext.trans HX.out x1)
      clear x1
      go_wp2_with fail
      go_roundw
      case rel => exact ⟨j + 1, by omega, by go_num, by rw [HS.out], HX1.out⟩
      case measure => simp [intOf]; omega
    · have hjN : j = N := by omega
      have HE := Lib.hid (show greatR (rows.take j) = G from by rw [hjN, List.take_of_length_le (by rw [HN.out]; exact Nat.le_refl _)]; exact HG.out)
      rw [HE.out]
      go_wp2_with fail
      go_ret
      exact ⟨rfl, HX.out⟩
end Go.Proofs.YtaoegcakefodaaaGreat

namespace Go.Proofs.YtaoegcakefodaaaGreat
open Go.RowKit Go.BigFrame
set_option maxRecDepth 100000 in
theorem some18_any (u : Value) (ks : List Ky) (w : World) (hu : RdKs w u ks) :
    Calls Tryz.prog 11 #[u] w fun e w' => (∃ v, e = .returned v ∧ RdKs w v (ks.take 10)) ∧ w' = w := by
  obtain ⟨ao, cap, rfl, h1, h2⟩ := hu.shape
  obtain ⟨M, hM, hMa, hMb⟩ : ∃ M : Nat, min (ks.length : Int) 10 = (M : Int) ∧ M ≤ ks.length ∧ ks.take M = ks.take 10 := ⟨min ks.length 10, by omega, by omega, by
    rcases Nat.le_total ks.length 10 with h | h
    · rw [Nat.min_eq_left h, List.take_length, List.take_of_length_le h]
    · rw [Nat.min_eq_right h]⟩
  have HK := Lib.hid (hu.take M hMa)
  rw [hMb] at HK
  obtain ⟨N, hN⟩ : ∃ N, ks.length = N := ⟨_, rfl⟩
  rw [hN] at h1 hM hMa ⊢
  have hcap : M ≤ cap := by omega
  unfold maxLen at h2
  clear hu hN hMb
  go_enter Tryz.func11, Tryz.ntmps11
  go_wp2_with fail
  go_ret
  exact ⟨⟨_, rfl, HK.out⟩, rfl⟩
end Go.Proofs.YtaoegcakefodaaaGreat

namespace Go.Proofs.YtaoegcakefodaaaGreat
open Go.RowKit Go.BigFrame
theorem encV_room (v : V) : (encV v).length ≤ 10 + v.s.length := by
  unfold encV
  have h1 := enc_length (zig v.n)
  have h2 := enc_length v.s.length
  split
  · rw [List.length_cons]
    split
    · omega
    · split
      · rw [List.length_append]; omega
      · simp only [List.length_nil]; omega
  · simp only [List.length_cons, List.length_nil]; omega
theorem rowB_room (r : List V) : (rowB r).length ≤ 9 + 10 * r.length + textsR r := by
  have h : ∀ r : List V, (r.flatMap encV).length ≤ 10 * r.length + textsR r := fun r => by
    induction r with
    | nil => simp [textsR]
    | cons v t ih =>
      have h1 := encV_room v
      have e : textsR (v :: t) = v.s.length + textsR t := by simp [textsR]
      rw [List.flatMap_cons, List.length_append, List.length_cons, e]
      omega
  unfold rowB
  rw [List.length_append]
  have h1 := enc_length r.length
  have h2 := h r
  omega
theorem may_short {r : List V} (h : mayR r = 0) : r.length ≤ 32 := by
  unfold mayR at h
  split at h
  · cases h
  · omega
theorem rowsB_room {rows : List (List V)} (h : ∀ r ∈ rows, r.length ≤ 32) : (rowsB rows).length ≤ 329 * rows.length + textsL rows := by
  induction rows with
  | nil => simp [rowsB, textsL]
  | cons r t ih =>
    have h1 := rowB_room r
    have h2 := h r (by simp)
    have h3 := ih fun q hq => h q (by simp [hq])
    have e1 : rowsB (r :: t) = rowB r ++ rowsB t := List.flatMap_cons ..
    have e2 : textsL (r :: t) = textsR r + textsL t := by simp [textsL]
    rw [e1, e2, List.length_append, List.length_cons]
    omega
theorem used_none17 (n : Nat) : usedS (List.replicate n none) = 0 := by
  unfold usedS
  rw [List.countP_eq_zero]
  intro a ha
  rw [List.eq_of_mem_replicate ha]
  simp
end Go.Proofs.YtaoegcakefodaaaGreat

namespace Go.Proofs.YtaoegcakefodaaaGreat
open Go.RowKit Go.BigFrame
theorem cost_texts (r : List V) : rowCost r = 8 + 8 * (r.length : Int) + (textsR r : Nat) := by
  refine snocI (P := fun r => rowCost r = 8 + 8 * (r.length : Int) + (textsR r : Nat)) (by rw [rowCost_nil]; rfl) (fun t v ih => ?_) r
  rw [rowCost_snoc, textsR_snoc, List.length_append, List.length_singleton, ih]
  omega
theorem texts_le {rows : List (List V)} {r : List V} (h : r ∈ rows) : textsR r ≤ textsL rows := by
  induction rows with
  | nil => simp at h
  | cons q t ih =>
    have e : textsL (q :: t) = textsR q + textsL t := by simp [textsL]
    rcases List.mem_cons.1 h with rfl | h
    · omega
    · have := ih h
      omega
theorem cost_short {rows : List (List V)} (h : Few18 rows) : ∀ r ∈ rows, rowCost r ≤ 6264 := fun r hr => by
  have h1 := cost_texts r
  have h2 := texts_le hr
  have h3 := h.2.2
  have h4 := may_short (h.2.1 r hr).2.1
  omega
theorem great_short {rows : List (List V)} (h : Few18 rows) : 0 ≤ greatR rows ∧ greatR rows ≤ 6264 := by
  have key : ∀ l : List (List V), (∀ r ∈ l, rowCost r ≤ 6264) → greatR l ≤ 6264 := fun l => by
    refine snocI (P := fun l => (∀ r ∈ l, rowCost r ≤ 6264) → greatR l ≤ 6264) (fun _ => by decide) (fun t r ih hl => ?_) l
    have h1 := ih fun x hx => hl x (List.mem_append.2 (.inl hx))
    have h2 := hl r (List.mem_append.2 (.inr (List.mem_singleton.2 rfl)))
    rw [greatR_snoc]
    omega
  exact ⟨(greatR_le (cost_few h)).1, key rows (cost_short h)⟩
theorem bytes18 {rows : List (List V)} (h : Few18 rows) : (rowsB rows).length ≤ 25740 := by
  have h1 := rowsB_room fun r hr => may_short (h.2.1 r hr).2.1
  have h2 := h.1
  have h3 := h.2.2
  omega
theorem runs_room {rows : List (List V)} {most : Int} (h : greatR rows ≤ most) : (runsR rows most).2 = 0 := by
  have hc : ∀ r ∈ rows, rowCost r ≤ greatR rows := by
    refine snocI (P := fun l => ∀ r ∈ l, rowCost r ≤ greatR l) (fun r hr => by simp at hr) (fun t q ih r hr => ?_) rows
    rw [greatR_snoc]
    rcases List.mem_append.1 hr with hr | hr
    · have := ih r hr
      omega
    · rw [List.mem_singleton] at hr
      subst hr
      omega
  have key : ∀ (l : List (List V)) (n : Nat) (left : Int), (∀ r ∈ l, rowCost r ≤ most) → (runsG most l n left).2 = 0 := fun l => by
    induction l with
    | nil => exact fun _ _ _ => rfl
    | cons r t ih =>
      intro n left hl
      have h1 := hl r (List.mem_cons_self ..)
      have h2 : ∀ q ∈ t, rowCost q ≤ most := fun q hq => hl q (List.mem_cons_of_mem _ hq)
      rw [runsG, if_neg (by omega)]
      split
      · exact ih _ _ h2
      · exact ih _ _ h2
  exact key rows 0 0 fun r hr => by have := hc r hr; omega
end Go.Proofs.YtaoegcakefodaaaGreat

namespace Go.Proofs.YtaoegcakefodaaaGreat
open Go.RowKit Go.BigFrame
theorem own_last {base m : Nat} {e : TypeId} {w : World} {v : Value} {xs : List Value} (h : w.ownsRow base e 1 v (m + 1) xs) :
    ∃ g c, v = .slice (some ⟨g, 0, none⟩) (m + 1) c ∧ m + 1 ≤ c ∧ c ≤ maxLen ∧ base ≤ g ∧ w.frozen? ⟨g, m, none⟩ = false ∧ (∀ x, xs[m]? = some x → w.cell? ⟨g, m, none⟩ = some x) ∧ ∀ u, (w.setCell ⟨g, m, none⟩ u).ownsRow base e 1 (.slice (some ⟨g, 0, none⟩) (m + 1) c) (m + 1) (xs.set m u) ∧ OnlyS (fun k => k = g) w (w.setCell ⟨g, m, none⟩ u) := by
  rcases h.2 with ⟨-, h0⟩ | ⟨g, cap, cur, rfl, h2, h3, h4, h5, h6, h7⟩
  · omega
  · refine ⟨g, cap, rfl, h4, h5, h2, h.frozenAt m, fun x hx => (h.cellAt m (by omega)).trans hx, fun u => ⟨(h.stored m u).1, OnlyS.of_onlyP (OnlyP.set g m w u) rfl⟩⟩
set_option maxRecDepth 100000 in
set_option maxHeartbeats 4000000 in
theorem refCuts18_any (u : Value) (rows : List (List V)) (most : Int) (w : World) (hu : RdRows w u rows) (hl : rows.length ≤ 1000) (hf : ∀ r ∈ rows, rowCost r ≤ 1000000000) (hm : -9223372036854775808 ≤ most ∧ most ≤ 9223372036854775807) :
    Calls Tryz.prog 37 #[u, .int .i64 most] w fun e w' => (∃ a c, e = .returned (.tuple #[.slice a (runsR rows most).1 c, .int .i64 (runsR rows most).2])) ∧ Ext w w' := by
  obtain ⟨i0, hi0, hz0, hz1, hz2⟩ := info_parts Tryz.info_int8
  obtain ⟨ua, uc, rfl, hu1, hu2⟩ := hu.shape
  obtain ⟨fh, hfh, -, -, -, hat⟩ := hu.heads
  have HAT := Lib.hid hat
  have HFH := Lib.hid hfh
  have HF := Lib.hid hf
  unfold maxLen at hu2
  obtain ⟨N, hN⟩ : ∃ N, rows.length = N := ⟨_, rfl⟩
  have HN := Lib.hid hN
  rw [hN] at hu1 hl ⊢
  obtain ⟨RN, hRN⟩ : ∃ RN, (runsR rows most).1 = RN := ⟨_, rfl⟩
  obtain ⟨RE, hRE⟩ : ∃ RE, (runsR rows most).2 = RE := ⟨_, rfl⟩
  have HR := Lib.hid (show runsR rows most = (RN, RE) from by rw [← hRN, ← hRE])
  rw [hRN, hRE]
  clear hu hat hfh hf hN hRN hRE
  go_enter Tryz.func37, Tryz.ntmps37
  go_wp2_with fail
  go_loopw [6, 7, 8, 9] (fun lv fv iv _ wr => ∃ (j n : Nat) (left : Int) (zs : List Int), j ≤ N ∧ n ≤ j ∧ iv = .int .i64 j ∧ fv = .int .i64 left ∧ 0 ≤ left ∧ left ≤ 9223372036854775807 ∧ wr.ownsRow w.heap.size 3 1 lv n (zs.map (Value.int .i64)) ∧ (∀ z ∈ zs, 0 ≤ z ∧ z ≤ (j : Int)) ∧ runsR rows most = runsG most (rows.drop j) n left ∧ Ext w wr) (fun _ _ iv _ _ => N - (intOf iv).toNat)
  case atStart => exact ⟨0, 0, 0, [], Nat.zero_le _, Nat.le_refl _, rfl, rfl, by omega, by omega, owns_nil _ _ _ _, fun z hz => by simp at hz, rfl, Ext.keeps.refl _⟩
  case round =>
    obtain ⟨j, n, left, zs, hj, hnj, rfl, rfl, hl0, hl1, hown, hzs, hrun, hx⟩ := hrel
    obtain ⟨la, lc, rfl, hlc1, hlc2⟩ := own_shapeP hown
    unfold maxLen at hlc2
    have HO := Lib.hid hown
    have HZ := Lib.hid hzs
    have HRUN := Lib.hid hrun
    have HX := Lib.hid hx
    clear hown hzs hrun hx
    by_cases hlt : j < N
    · have hjl : j < rows.length := by rw [HN.out]; exact hlt
      obtain ⟨a1, a2, a3, ha, hra⟩ := HFH.out.get j hjl
      obtain ⟨g, off, rfl, c0⟩ := HAT.out j _ ha
      have x0 := (HX.out.cell (lt_of_cell c0)).trans c0
      have hcost := HF.out rows[j] (List.getElem_mem hjl)
      have HROW := Lib.hid (refRow_any _ rows[j] wr (hra.mono HX.out) (by omega))
      have hdr : rows.drop j = rows[j] :: rows.drop (j + 1) := List.drop_eq_getElem_cons hjl
      have hpos : 8 ≤ rowCost rows[j] := by have := rowCost_mono rows[j] 0; omega
      have HT1 := Lib.hid (fun (h : most < rowCost rows[j]) => HRUN.out.trans ((congrArg (fun l => runsG most l n left) hdr).trans (runsG_too (r := rows[j]) h)))
      have HT2 := Lib.hid (fun (h : ¬ most < rowCost rows[j]) (h2 : n = 0 ∨ left < rowCost rows[j]) => HRUN.out.trans ((congrArg (fun l => runsG most l n left) hdr).trans (runsG_new (r := rows[j]) h h2)))
      have HT3 := Lib.hid (fun (h : ¬ most < rowCost rows[j]) (h2 : ¬ (n = 0 ∨ left < rowCost rows[j])) => HRUN.out.trans ((congrArg (fun l => runsG most l n left) hdr).trans (runsG_in (r := rows[j]) h h2)))
      generalize rowCost rows[j] = C at hcost HROW hpos HT1 HT2 HT3
      clear ha hra c0 hdr
      by_cases h1 : most < C
      · have d1 : decide (C > most) = true := decide_eq_true h1
        have d1' : decide (most < C) = true := decide_eq_true h1
        have hr := (HR.out.symm.trans (HT1.out h1))
        simp only [Prod.mk.injEq] at hr
        obtain ⟨rfl, rfl⟩ := hr
        clear h1
        go_wp2_with fail
        refine HROW.out.mono ?_
        rintro e w1 ⟨rfl, x1⟩
        have HX1 := Lib.hid (Ext.trans HX.out x1)
        clear x1
        go_wp2_with fail
        go_ret2
        exact ⟨⟨none, 0, rfl⟩, HX1.out⟩
      · have d1 : decide (C > most) = false := decide_eq_false h1
        have d1' : decide (most < C) = false := decide_eq_false h1
        by_cases h2 : n = 0 ∨ left < C
        · have HST := Lib.hid (HT2.out h1 h2)
          have hmc : 0 ≤ most - C ∧ most - C ≤ 9223372036854775807 := by omega
          have hn7 : n ≤ 10000000 := by omega
          have hE : (((n : Int) == 0) = true) ∨ (((n : Int) == 0) = false ∧ decide (C > left) = true ∧ decide (left < C) = true) := by
            by_cases h3 : n = 0
            · left; simp [h3]
            · right
              exact ⟨by simp; omega, decide_eq_true (by omega), decide_eq_true (by omega)⟩
          have HH2 := Lib.hid h2
          clear h1 h2
          rcases hE with q0 | ⟨q0, q1, q2⟩
          all_goals (
            go_wp2_with fail
            refine HROW.out.mono ?_
            rintro e w1 ⟨rfl, x1⟩
            have HX1 := Lib.hid (Ext.trans HX.out x1)
            have HO1 := Lib.hid (owns_extS HO.out x1)
            have HSZ1 := Lib.hid HX1.out.size
            clear x1
            go_wp2_with (at_builtin; go_loud (refine wpList_append_one rfl (.tmp 32) (.tmp 33) 48 rfl w.heap.size 3 i0 (.int .i64 0) 1 8 Tryz.underlying48 hi0 hz0 hz1 hz2 rfl (by decide) (by decide) (.slice la n lc) n (zs.map (Value.int .i64)) [.int .i64 0] rfl HO1.out rfl rfl (by simp [Value.oneCell']) hn7 HSZ1.out ?_); intro v5 w5 h5a h5b h5c h5d; have HB5 := Lib.hid h5b; obtain ⟨g5, c5, hv5, hc51, hc52, hg5, f5, hcell5, hst5⟩ := own_last h5a; subst hv5; have e5 := hcell5 (.int .i64 0) (by have hzl : zs.length = n := (by have h := HO1.out.1; rw [List.length_map] at h; omega); rw [List.getElem?_append_right (by rw [List.length_map]; omega), List.length_map, hzl, Nat.sub_self]; rfl); have HS5 := Lib.hid (hst5 (.int .i64 1)); have HG5 := Lib.hid hg5; unfold maxLen at hc52; clear h5a h5b h5c h5d hcell5 hst5)
            go_roundw
            case rel =>
              refine ⟨j + 1, n + 1, most - C, zs ++ [1], by omega, by omega, by go_num, rfl, hmc.1, hmc.2, ?_, fun z hz => ?_, HST.out, ?_⟩
              · have h := HS5.out.1
                have hzl : zs.length = n := (by have h := HO.out.1; rw [List.length_map] at h; omega)
                rw [List.set_append_right _ _ (by rw [List.length_map]; omega), List.length_map, hzl, Nat.sub_self] at h
                rw [List.map_append]
                exact h
              · rcases List.mem_append.1 hz with hz | hz
                · have := HZ.out z hz
                  omega
                · rw [List.mem_singleton] at hz
                  omega
              · exact (show Below w.heap.size w _ from ((show Below w.heap.size w w1 from HX1.out).trans HB5.out).trans (HS5.out.2.below (Nat.le_trans HSZ1.out HB5.out.size) (fun b hb => by rw [hb]; exact HG5.out)))
            case measure => simp [intOf]; omega)
        · have HST := Lib.hid (HT3.out h1 h2)
          have hn0 : n ≠ 0 := fun h => h2 (.inl h)
          have hlc : C ≤ left := by
            rcases Int.lt_or_le left C with h | h
            · exact absurd (.inr h) h2
            · exact h
          have q0 : ((n : Int) == 0) = false := by simp; omega
          have q1 : decide (C > left) = false := decide_eq_false (by omega)
          have q2 : decide (left < C) = false := decide_eq_false (by omega)
          obtain ⟨m, rfl⟩ : ∃ m, n = m + 1 := ⟨n - 1, by omega⟩
          clear h1 h2
          go_wp2_with fail
          refine HROW.out.mono ?_
          rintro e w1 ⟨rfl, x1⟩
          have HX1 := Lib.hid (Ext.trans HX.out x1)
          have HO1 := Lib.hid (owns_extS HO.out x1)
          have HSZ1 := Lib.hid HX1.out.size
          obtain ⟨g5, c5, hv5, hc51, hc52, hg5, f5, hcell5, hst5⟩ := own_last HO1.out
          have hzl : zs.length = m + 1 := by have h := HO.out.1; rw [List.length_map] at h; omega
          have hzm : m < zs.length := by omega
          have e5 := hcell5 (.int .i64 zs[m]) (by rw [List.getElem?_map, List.getElem?_eq_getElem hzm]; rfl)
          have hzb := HZ.out zs[m] (List.getElem_mem hzm)
          generalize zs[m] = zm at e5 hzb
          have HS5 := Lib.hid (hst5 (.int .i64 (zm + 1)))
          have HG5 := Lib.hid hg5
          simp only [Value.slice.injEq] at hv5
          obtain ⟨rfl, -, rfl⟩ := hv5
          unfold maxLen at hc52
          clear x1 hcell5 hst5 hzl hzm hg5
          go_wp2_with fail
          go_roundw
          case rel =>
            refine ⟨j + 1, m + 1, left - C, zs.set m (zm + 1), by omega, by omega, by go_num, rfl, by omega, by omega, ?_, fun z hz => ?_, HST.out, ?_⟩
            · rw [List.map_set]
              exact HS5.out.1
            · rcases List.mem_or_eq_of_mem_set hz with hz | hz
              · have := HZ.out z hz
                omega
              · omega
            · exact (show Below w.heap.size w _ from (show Below w.heap.size w w1 from HX1.out).trans (HS5.out.2.below HSZ1.out (fun b hb => by rw [hb]; exact HG5.out)))
          case measure => simp [intOf]; omega
    · have hjN : j = N := by omega
      have hr := HRUN.out
      rw [hjN, List.drop_eq_nil_of_le (by rw [HN.out]; exact Nat.le_refl _)] at hr
      have hr2 := HR.out.symm.trans hr
      simp only [runsG, Prod.mk.injEq] at hr2
      obtain ⟨rfl, rfl⟩ := hr2
      clear hr
      go_wp2_with fail
      go_ret2
      exact ⟨⟨la, lc, rfl⟩, HX.out⟩
set_option maxRecDepth 100000 in
theorem refRuns18_any (u : Value) (rows : List (List V)) (most : Int) (w : World) (hu : RdRows w u rows) (hl : rows.length ≤ 1000) (hf : ∀ r ∈ rows, rowCost r ≤ 1000000000) (hm : -9223372036854775808 ≤ most ∧ most ≤ 9223372036854775807) :
    Calls Tryz.prog 13 #[u, .int .i64 most] w fun e w' => e = .returned (.tuple #[.int .i64 ((runsR rows most).1 : Nat), .int .i64 (runsR rows most).2]) ∧ Ext w w' := by
  have HC := Lib.hid (refCuts18_any u rows most w hu hl hf hm)
  obtain ⟨ua, uc, rfl, -, -⟩ := hu.shape
  generalize (runsR rows most).1 = RN at HC ⊢
  generalize (runsR rows most).2 = RE at HC ⊢
  clear hu hf
  go_enter Tryz.func13, Tryz.ntmps13
  go_wp2_with fail
  refine HC.out.mono ?_
  rintro e w1 ⟨⟨a, c, rfl⟩, x1⟩
  have HX := Lib.hid x1
  clear x1
  go_wp2_with fail
  go_ret2
  exact ⟨rfl, HX.out⟩
end Go.Proofs.YtaoegcakefodaaaGreat

