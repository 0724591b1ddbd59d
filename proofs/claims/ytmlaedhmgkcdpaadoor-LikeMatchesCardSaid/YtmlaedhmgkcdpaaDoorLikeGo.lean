/-
  The program's Match: the walk through elements and letters.
-/
import Derived.Test.YtmlaedhmgkcdpaaDoorLikeMatch
namespace Go.Proofs.YtmlaedhmgkcdpaaDoor
open Go.RowKit Go.BigFrame

theorem ms_any {N M nx la en : Nat} (h1 : en ≤ la) (h2 : nx < M) : (N + 1 - la) * (M + 1) + (M - (nx + 1)) < (N + 1 - en) * (M + 1) + (M - nx) := by
  have := Nat.mul_le_mul_right (M + 1) (show N + 1 - la ≤ N + 1 - en by omega)
  omega
theorem ms_back {N M nx af en : Nat} (h1 : en ≤ N) : (N + 1 - (en + 1)) * (M + 1) + (M - af) < (N + 1 - en) * (M + 1) + (M - nx) := by
  rw [show N + 1 - en = (N + 1 - (en + 1)) + 1 by omega, Nat.succ_mul]
  omega
theorem pC_two (el : El) (h : el ≠ .any) : ∃ (k : Int) (s : ByteArray), pC el = [.int .u8 k, .string s] ∧ (k == 2) = false := by
  cases el with
  | any => exact absurd rfl h
  | one => exact ⟨1, _, rfl, rfl⟩
  | lit c => exact ⟨0, _, rfl, rfl⟩

theorem RdE_drop {w : World} {ao : Option Addr} {ps : List El} {M cap nx : Nat} (hM : ps.length = M)
    (hC : ∀ j, (hj : j < ps.length) → ∃ g off, ao = some ⟨g, off, none⟩ ∧ ∀ f, f < 2 → w.cell? ⟨g, off + j * 2 + f, none⟩ = (pC ps[j])[f]?) (hn : nx ≤ M) (h1 : M ≤ cap) (h2 : cap ≤ maxLen) :
    RdE w (.slice (Option.map (fun x => x.add (nx * 2)) ao) (M - nx) (cap - nx)) (ps.drop nx) := by
  refine ⟨_, cap - nx, by rw [List.length_drop, hM], by rw [List.length_drop, hM]; omega, by omega, fun j hj => ?_⟩
  rw [List.length_drop, hM] at hj
  obtain ⟨g, off, rfl, h⟩ := hC (nx + j) (by omega)
  refine ⟨g, off + nx * 2, by simp [add_at], fun f hf => ?_⟩
  rw [List.getElem_drop, ← h f hf]
  congr 2
  omega
theorem RdE_none {w : World} {ao : Option Addr} {ps : List El} {M nx : Nat} (hM : ps.length = M) (hn : M ≤ nx) : RdE w (.slice ao (M - nx) 0) (ps.drop nx) := by
  refine ⟨ao, 0, by rw [List.length_drop, hM], by rw [List.length_drop, hM]; omega, by simp [maxLen], fun j hj => ?_⟩
  rw [List.length_drop, hM] at hj
  omega

set_option maxRecDepth 100000 in
set_option maxHeartbeats 2000000 in
theorem matches_any (ps : List El) (ls : List (List UInt8)) (v u : Value) (w : World) (hv : RdE w v ps) (hu : RdV w u (ls.map sv)) (hp : ps.length ≤ 5000) (hl : ls.length ≤ 5000) :
    Calls Tryd.prog 30 #[v, u] w fun e w' => e = .returned (.bool (mt ps ls)) ∧ Ext w w' := by
  obtain ⟨ao, cap, rfl, hc1, hc2, hcells⟩ := hv
  have HC := Lib.hid hcells
  obtain ⟨lo, lcap, rfl, hd1, hd2, hlcells⟩ := RdV.cellsAt hu
  have HD := Lib.hid hlcells
  unfold maxLen at hc2 hd2
  simp only [List.length_map] at *
  obtain ⟨M, hM⟩ : ∃ M, ps.length = M := ⟨_, rfl⟩
  have HM := Lib.hid hM
  rw [hM] at hp hc1 ⊢
  clear hcells hlcells hu hM
  generalize hN : ls.length = N at *
  have HN := Lib.hid hN
  clear hN
  go_enter Tryd.func30, Tryd.ntmps30
  go_wp2_with fail
  go_loopw [5, 6, 7, 8] (fun n a f e wr => ∃ nx la af en : Nat, n = .int .i64 nx ∧ a = .int .i64 la ∧ f = .int .i64 af ∧ e = .int .i64 en ∧ Gr ps ls nx la af en ∧ Ext w wr) (fun n _ _ e _ => (N + 1 - (intOf e).toNat) * (M + 1) + (M - (intOf n).toNat))
  case atStart => exact ⟨0, 0, 0, 0, rfl, rfl, rfl, rfl, Gr_start _ _, Ext.keeps.refl _⟩
  case round =>
    obtain ⟨nx, la, af, en, rfl, rfl, rfl, rfl, hgr, hext⟩ := hrel
    have HGR := Lib.hid hgr
    have HE := Lib.hid hext
    have hnx : nx ≤ M := by have := hgr.1; have := HM.out; omega
    have hla : la ≤ N := by have := hgr.2.1; have := HN.out; omega
    have hen : en ≤ la := hgr.2.2.1
    have haf : af ≤ nx := hgr.2.2.2.1
    clear hgr hext
    by_cases hlt : la < N
    · have hll : la < ls.length := by have := HN.out; omega
      obtain ⟨x, rfl, hl0⟩ := HD.out 0 (sv (ls[0]'(by omega))) (by rw [List.getElem?_map, List.getElem?_eq_getElem (by omega)]; rfl)
      rw [add_zero] at hl0
      obtain ⟨lg, loff, rfl, _⟩ := plain_of hl0
      obtain ⟨x, hx, hlc⟩ := HD.out la (sv ls[la]) (by rw [List.getElem?_map, List.getElem?_eq_getElem hll]; rfl)
      cases hx
      rw [add_at] at hlc
      clear hl0
      have HLC := Lib.hid (show ∀ z : World, Ext w z → z.cell? ⟨lg, loff + la, none⟩ = some (sv ls[la]) from fun z hz => by rw [hz.cell (lt_of_cell hlc)]; exact hlc)
      clear hlc
      by_cases hnlt : nx < M
      · have hnl : nx < ps.length := by have := HM.out; omega
        obtain ⟨g, off, rfl, hf⟩ := HC.out nx hnl
        have HF := Lib.hid (show ∀ z : World, Ext w z → ∀ f, f < 2 → z.cell? ⟨g, off + nx * 2 + f, none⟩ = (pC ps[nx])[f]? from fun z hz f h => by
          have h0 := hf f h
          obtain ⟨u, hu⟩ : ∃ u, (pC ps[nx])[f]? = some u := ⟨_, List.getElem?_eq_getElem (by rw [show (pC ps[nx]).length = 2 by cases ps[nx] <;> rfl]; exact h)⟩
          rw [hu] at h0 ⊢
          rw [← h0]
          exact hz.cell (lt_of_cell h0))
        have HANY := Lib.hid (fun h => Gr_any HGR.out hnl h)
        have HTAKE := Lib.hid (fun h1 h2 => Gr_take HGR.out hnl hll h1 h2)
        have HBACK := Lib.hid (fun h1 (h2 : ps[nx] ≠ .any ∧ tk ps[nx] ls[la] = false) => Gr_back HGR.out hll h1 (fun _ => h2))
        have HNO := Lib.hid (fun h1 (h2 : ps[nx] ≠ .any ∧ tk ps[nx] ls[la] = false) => Gr_no HGR.out hll h1 (fun _ => h2))
        clear hf
        generalize ls[la] = c at HLC HTAKE HBACK HNO
        generalize ps[nx] = el at HF HANY HTAKE HBACK HNO
        have hc0 := HF.out wr HE.out 0 (by decide)
        rw [Nat.add_zero] at hc0
        have hb0 : nx ≤ 5000 := by omega
        have hb1 : la ≤ 5000 := by omega
        by_cases hel : el = .any
        · subst hel
          simp only [pC, List.getElem?_cons_zero] at hc0
          go_wp2_with fail
          go_roundw
          case rel => exact ⟨nx + 1, la, nx + 1, la, by go_num, rfl, by go_num, rfl, HANY.out rfl, HE.out⟩
          case measure =>
            have h := ms_any (N := N) (M := M) hen hnlt
            simp only [intOf]
            simpa using h
        · obtain ⟨k, s, hz, hk⟩ := pC_two el hel
          have HZ := Lib.hid hz
          have HEL := Lib.hid hel
          rw [hz] at hc0
          simp only [List.getElem?_cons_zero] at hc0
          clear hz hel
          go_wp2_with fail
          have hz0 : ∀ z : Later Ext wr.drew, z.val.cell? ⟨g, off + nx * 2, none⟩ = some (.int .u8 k) := fun z => by
            have h := HF.out z.val (Ext.trans (Ext.trans HE.out (Ext.drew _)) z.ext) 0 (by decide)
            rw [HZ.out] at h
            exact h
          have hz1 : ∀ z : Later Ext wr.drew, z.val.cell? ⟨g, off + nx * 2 + 1, none⟩ = some (.string s) := fun z => by
            have h := HF.out z.val (Ext.trans (Ext.trans HE.out (Ext.drew _)) z.ext) 1 (by decide)
            rw [HZ.out] at h
            exact h
          have hz2 : ∀ z : Later Ext wr.drew, z.val.cell? ⟨lg, loff + la, none⟩ = some (sv c) := fun z => HLC.out z.val (Ext.trans (Ext.trans HE.out (Ext.drew _)) z.ext)
          unfold sv at hz2
          refine wp_region_segs Ext Ext.keeps [([0, 1, 2, 3, 4, 5, 6, 7, 8, 9, 10, 11, 12], some 13), ([14, 15], none)] (by kernel_rfl) (by kernel_rfl) (fun c a a' w e h => (by exact ⟨e ▸ h.1, h.2⟩)) ?_
          simp only [pickSegs, pickOps, List.map_cons, List.map_nil, Option.map_some, Option.map_none, Option.getD_some, List.getElem?_toArray, List.getElem?_cons_zero, List.getElem?_cons_succ]
          refine wpSegs_some fun K hK => ?_
          repeat go_big_quiet_step (fail)
          refine wpQuiet_nil ?_
          clear hz0 hz1 hz2
          have HW := Lib.hid (show Ext w wr.drew from Ext.trans HE.out (Ext.drew _))
          have HTK := Lib.hid (takes_any el HEL.out c wr.drew)
          rw [HZ.out] at HTK
          unfold sv at HTK
          go_wp2_with fail
          refine HTK.out.mono ?_
          rintro e w2 ⟨rfl, hb2⟩
          have HB2 := Lib.hid hb2
          have HE2 := Lib.hid (Ext.trans HW.out hb2)
          clear hb2
          go_wp2_with fail
          refine ⟨HB2.out, hK _ _ ?_⟩
          clear hK K
          refine wpSegs_none ?_
          cases htk : tk el c with
          | true =>
            have HG := Lib.hid (HTAKE.out HEL.out htk)
            clear htk
            repeat go_big_quiet_step (fail)
            refine wpQuiet_nil (wpSegs_nil ?_)
            go_wp2_with fail
            go_roundw
            case rel => exact ⟨nx + 1, la + 1, af, en, by go_num, by go_num, rfl, rfl, HG.out, HE2.out⟩
            case measure =>
              simp only [intOf]
              simp
              omega
          | false =>
            by_cases hf : 0 < af
            · have HG := Lib.hid (HBACK.out hf ⟨HEL.out, htk⟩)
              clear htk
              have hen2 : en ≤ 5000 := by omega
              repeat go_big_quiet_step (fail)
              refine wpQuiet_nil (wpSegs_nil ?_)
              go_wp2_with fail
              go_roundw
              case rel => exact ⟨af, en + 1, af, en + 1, rfl, by go_num, rfl, by go_num, HG.out, HE2.out⟩
              case measure =>
                have h := ms_back (N := N) (M := M) (nx := nx) (af := af) (en := en) (by omega)
                simp only [intOf]
                simpa using h
            · have HG := Lib.hid (HNO.out (by omega) ⟨HEL.out, htk⟩)
              have haf0 : af = 0 := by omega
              subst haf0
              clear htk hf
              repeat go_big_quiet_step (fail)
              refine wpQuiet_nil (wpSegs_nil ?_)
              go_wp2_with fail
              go_ret
              exact ⟨by rw [HG.out]; rfl, HE2.out⟩
      · have hnM : nx = M := by omega
        have HBACK := Lib.hid (fun h1 => Gr_back HGR.out hll h1 (fun hn => absurd hn (by have := HM.out; omega)))
        have HNO := Lib.hid (fun h1 => Gr_no HGR.out hll h1 (fun hn => absurd hn (by have := HM.out; omega)))
        subst hnM
        go_wp2_with fail
        refine wp_region_segs Ext Ext.keeps [([0, 1, 2, 3, 4, 5, 6, 7, 8, 9, 10, 11, 12], some 13), ([14, 15], none)] (by kernel_rfl) (by kernel_rfl) (fun c a a' w e h => (by exact ⟨e ▸ h.1, h.2⟩)) ?_
        simp only [pickSegs, pickOps, List.map_cons, List.map_nil, Option.map_some, Option.map_none, Option.getD_some, List.getElem?_toArray, List.getElem?_cons_zero, List.getElem?_cons_succ]
        refine wpSegs_some fun K hK => ?_
        repeat go_big_quiet_step (fail)
        refine wpQuiet_nil ?_
        have HW := Lib.hid (show Ext w wr.drew from Ext.trans HE.out (Ext.drew _))
        go_wp2_with fail
        refine ⟨Ext.keeps.refl _, hK _ _ ?_⟩
        clear hK K
        refine wpSegs_none ?_
        by_cases hf : 0 < af
        · have HG := Lib.hid (HBACK.out hf)
          have hen2 : en ≤ 5000 := by omega
          repeat go_big_quiet_step (fail)
          refine wpQuiet_nil (wpSegs_nil ?_)
          go_wp2_with fail
          go_roundw
          case rel => exact ⟨af, en + 1, af, en + 1, rfl, by go_num, rfl, by go_num, HG.out, HW.out⟩
          case measure =>
            have h := ms_back (N := N) (M := nx) (nx := nx) (af := af) (en := en) (by omega)
            simp only [intOf]
            simpa using h
        · have HG := Lib.hid (HNO.out (by omega))
          have haf0 : af = 0 := by omega
          subst haf0
          clear hf
          repeat go_big_quiet_step (fail)
          refine wpQuiet_nil (wpSegs_nil ?_)
          go_wp2_with fail
          go_ret
          exact ⟨by rw [HG.out]; rfl, HW.out⟩
    · have hlN : la = N := by omega
      have HEND := Lib.hid (Gr_end HGR.out (by have := HN.out; omega))
      subst hlN
      have HR1 := Lib.hid (RdE_drop (nx := nx) HM.out HC.out hnx hc1 (by unfold maxLen; omega))
      have HR2 := Lib.hid (fun hn : M ≤ nx => RdE_none (w := wr) (ao := ao) (nx := nx) HM.out hn)
      have HPL := Lib.hid (show (ps.drop nx).length ≤ 5000 by rw [List.length_drop, HM.out]; omega)
      go_wp2_with fail
      · refine (onlyAnyMany_any (ps.drop nx) _ wr (HR2.out (by omega)) HPL.out).mono ?_
        rintro e w2 ⟨rfl, hb2⟩
        have HE2 := Lib.hid (Ext.trans HE.out hb2)
        clear hb2
        rw [← HEND.out]
        go_wp2_with fail
        go_ret
        exact ⟨rfl, HE2.out⟩
      · refine (onlyAnyMany_any (ps.drop nx) _ wr (HR1.out.mono HE.out) HPL.out).mono ?_
        rintro e w2 ⟨rfl, hb2⟩
        have HE2 := Lib.hid (Ext.trans HE.out hb2)
        clear hb2
        rw [← HEND.out]
        go_wp2_with fail
        go_ret
        exact ⟨rfl, HE2.out⟩

set_option maxRecDepth 100000 in
set_option maxHeartbeats 1000000 in
theorem Match_any (p s : List UInt8) (w : World) (hT : Tabs w) (hp : p.length ≤ 5000) (hs : s.length ≤ 5000) :
    Calls Tryd.prog 17 #[sv p, sv s] w fun e w' => e = .returned (.tuple #[.bool (isB p s), .int .i64 (errN p)]) ∧ Ext w w' := by
  have HT := Lib.hid hT
  have HP := Lib.hid (elements_any p w hT hp)
  have HL := Lib.hid (fun w hT => Letters_any s w hT hs)
  have hp2 := lets_length p
  have hs2 := lets_length s
  generalize hB : isB p s = B
  generalize hE : errN p = E
  have HB := Lib.hid hB
  have HE := Lib.hid hE
  have HPL := Lib.hid (show (lets p).length ≤ 5000 by omega)
  have HSL := Lib.hid (show (lets s).length ≤ 5000 by omega)
  clear hT hp hs hE hB hp2 hs2
  unfold sv at HP HL ⊢
  go_enter Tryd.func17, Tryd.ntmps17
  go_wp2_with fail
  refine HP.out.mono ?_
  rintro e w1 ⟨⟨ps, v, h, rfl, hown⟩ | ⟨h, rfl⟩, hb⟩
  · have H := Lib.hid h
    have HBE := Lib.hid hb
    have HR := Lib.hid (RdE.of_owns hown)
    have HPS := Lib.hid (Nat.le_trans (els_len _ _ _ (Nat.le_refl _) h).1 HPL.out)
    clear h hb hown
    go_wp2_with fail
    refine (HL.out w1 (HT.out.mono HBE.out)).mono ?_
    rintro e w2 ⟨u, rfl, ho2, hb2⟩
    have HU := Lib.hid (RdV.of_owns ho2)
    have HB2 := Lib.hid hb2
    have HR2 := Lib.hid (HR.out.mono hb2)
    clear ho2 hb2
    go_wp2_with fail
    refine (matches_any ps (lets s) v u w2 HR2.out HU.out HPS.out HSL.out).mono ?_
    rintro e w3 ⟨rfl, hb3⟩
    have HB3 := Lib.hid (Ext.trans HBE.out (Ext.trans HB2.out hb3))
    have HM := Lib.hid (show mt ps (lets s) = B by rw [← HB.out, isB_some H.out])
    rw [HM.out]
    clear hb3
    go_wp2_with fail
    go_ret2
    exact ⟨by rw [← HE.out, errN_some H.out]; rfl, HB3.out⟩
  · have H := Lib.hid h
    have HBE := Lib.hid hb
    clear h hb
    go_wp2_with fail
    go_ret2
    have hz : isB p s = false := by unfold isB; rw [H.out]
    exact ⟨by rw [← HB.out, ← HE.out, errN_none H.out, hz]; rfl, HBE.out⟩

end Go.Proofs.YtmlaedhmgkcdpaaDoor
