/-
  Texts of this proof, merged: LikeGo, AskP4, AskP5.
-/
import Derived.Laws.EntriesVeiled
import Derived.Test.YtfnmcdjfdhdlmaaGreatDoorZ7
import Derived.Test.YtfnmcdjfdhdlmaaGreatDoorZ5
/-
  The program's Match: the walk through elements and letters.
-/
namespace Go.Proofs.YtfnmcdjfdhdlmaaGreatDoor
open Go.RowKit Go.BigFrame

theorem ms_any {N M nx la en : Nat} (h1 : en ≤ la) (h2 : nx < M) : (N + 1 - la) * (M + 1) + (M - (nx + 1)) < (N + 1 - en) * (M + 1) + (M - nx) := by
  have := Nat.mul_le_mul_right (M + 1) (show N + 1 - la ≤ N + 1 - en by omega)
  omega
theorem ms_back {N M nx af en : Nat} (h1 : en ≤ N) : (N + 1 - (en + 1)) * (M + 1) + (M - af) < (N + 1 - en) * (M + 1) + (M - nx) := by
  rw [show N + 1 - en = (N + 1 - (en + 1)) + 1 by omega, Nat.succ_mul]
  omega
theorem pC_two (el : El) (h : el ≠ .any) : ∃ (k : Int) (s : ByteArray), pC el = [.int .u8 k, .string s] ∧ (k == 2) = false := by
  cases el with
  | any => exact absurd rfl h
  | one => exact ⟨1, _, rfl, rfl⟩
  | lit c => exact ⟨0, _, rfl, rfl⟩

theorem RdE_drop {w : World} {ao : Option Addr} {ps : List El} {M cap nx : Nat} (hM : ps.length = M)
    (hC : ∀ j, (hj : j < ps.length) → ∃ g off, ao = some ⟨g, off, none⟩ ∧ ∀ f, f < 2 → w.cell? ⟨g, off + j * 2 + f, none⟩ = (pC ps[j])[f]?) (hn : nx ≤ M) (h1 : M ≤ cap) (h2 : cap ≤ maxLen) :
    RdE w (.slice (Option.map (fun x => x.add (nx * 2)) ao) (M - nx) (cap - nx)) (ps.drop nx) := by
  refine ⟨_, cap - nx, by rw [List.length_drop, hM], by rw [List.length_drop, hM]; omega, by omega, fun j hj => ?_⟩
  rw [List.length_drop, hM] at hj
  obtain ⟨g, off, rfl, h⟩ := hC (nx + j) (by omega)
  refine ⟨g, off + nx * 2, by simp [add_at], fun f hf => ?_⟩
  rw [List.getElem_drop, ← h f hf]
  congr 2
  omega
theorem RdE_none {w : World} {ao : Option Addr} {ps : List El} {M nx : Nat} (hM : ps.length = M) (hn : M ≤ nx) : RdE w (.slice ao (M - nx) 0) (ps.drop nx) := by
  refine ⟨ao, 0, by rw [List.length_drop, hM], by rw [List.length_drop, hM]; omega, by simp [maxLen], fun j hj => ?_⟩
  rw [List.length_drop, hM] at hj
  omega

set_option maxRecDepth 100000 in
set_option maxHeartbeats 2000000 in
theorem matches_any (ps : List El) (ls : List (List UInt8)) (v u : Value) (w : World) (hv : RdE w v ps) (hu : RdV w u (ls.map sv)) (hp : ps.length ≤ 5000) (hl : ls.length ≤ 5000) :
    Calls Tryz.prog 110 #[v, u] w fun e w' => e = .returned (.bool (mt ps ls)) ∧ Ext w w' := by
  obtain ⟨ao, cap, rfl, hc1, hc2, hcells⟩ := hv
  have HC := Lib.hid hcells
  obtain ⟨lo, lcap, rfl, hd1, hd2, hlcells⟩ := RdV.cellsAt hu
  have HD := Lib.hid hlcells
  unfold maxLen at hc2 hd2
  simp only [List.length_map] at *
  obtain ⟨M, hM⟩ : ∃ M, ps.length = M := ⟨_, rfl⟩
  have HM := Lib.hid hM
  rw [hM] at hp hc1 ⊢
  clear hcells hlcells hu hM
  generalize hN : ls.length = N at *
  have HN := Lib.hid hN
  clear hN
  go_enter Tryz.func110, Tryz.ntmps110
  go_wp2_with fail
  go_loopw [5, 6, 7, 8] (fun n a f e wr => ∃ nx la af en : Nat, n = .int .i64 nx ∧ a = .int .i64 la ∧ f = .int .i64 af ∧ e = .int .i64 en ∧ Gr ps ls nx la af en ∧ Ext w wr) (fun n _ _ e _ => (N + 1 - (intOf e).toNat) * (M + 1) + (M - (intOf n).toNat))
  case atStart => exact ⟨0, 0, 0, 0, rfl, rfl, rfl, rfl, Gr_start _ _, Ext.keeps.refl _⟩
  case round =>
    obtain ⟨nx, la, af, en, rfl, rfl, rfl, rfl, hgr, hext⟩ := hrel
    have HGR := Lib.hid hgr
    have HE := Lib.hid hext
    have hnx : nx ≤ M := by have := hgr.1; have := HM.out; omega
    have hla : la ≤ N := by have := hgr.2.1; have := HN.out; omega
    have hen : en ≤ la := hgr.2.2.1
    have haf : af ≤ nx := hgr.2.2.2.1
    clear hgr hext
    by_cases hlt : la < N
    · have hll : la < ls.length := by have := HN.out; omega
      obtain ⟨x, rfl, hl0⟩ := HD.out 0 (sv (ls[0]'(by omega))) (by rw [List.getElem?_map, List.getElem?_eq_getElem (by omega)]; rfl)
      rw [add_zero] at hl0
      obtain ⟨lg, loff, rfl, _⟩ := plain_of hl0
      obtain ⟨x, hx, hlc⟩ := HD.out la (sv ls[la]) (by rw [List.getElem?_map, List.getElem?_eq_getElem hll]; rfl)
      cases hx
      rw [add_at] at hlc
      clear hl0
      have HLC := Lib.hid (show ∀ z : World, Ext w z → z.cell? ⟨lg, loff + la, none⟩ = some (sv ls[la]) from fun z hz => by rw [hz.cell (lt_of_cell hlc)]; exact hlc)
      clear hlc
      by_cases hnlt : nx < M
      · have hnl : nx < ps.length := by have := HM.out; omega
        obtain ⟨g, off, rfl, hf⟩ := HC.out nx hnl
        have HF := Lib.hid (show ∀ z : World, Ext w z → ∀ f, f < 2 → z.cell? ⟨g, off + nx * 2 + f, none⟩ = (pC ps[nx])[f]? from fun z hz f h => by
          have h0 := hf f h
          obtain ⟨u, hu⟩ : ∃ u, (pC ps[nx])[f]? = some u := ⟨_, List.getElem?_eq_getElem (by rw [show (pC ps[nx]).length = 2 by cases ps[nx] <;> rfl]; exact h)⟩
          rw [hu] at h0 ⊢
          rw [← h0]
          exact hz.cell (lt_of_cell h0))
        have HANY := Lib.hid (fun h => Gr_any HGR.out hnl h)
        have HTAKE := Lib.hid (fun h1 h2 => Gr_take HGR.out hnl hll h1 h2)
        have HBACK := Lib.hid (fun h1 (h2 : ps[nx] ≠ .any ∧ tkE ps[nx] ls[la] = false) => Gr_back HGR.out hll h1 (fun _ => h2))
        have HNO := Lib.hid (fun h1 (h2 : ps[nx] ≠ .any ∧ tkE ps[nx] ls[la] = false) => Gr_no HGR.out hll h1 (fun _ => h2))
        clear hf
        generalize ls[la] = c at HLC HTAKE HBACK HNO
        generalize ps[nx] = el at HF HANY HTAKE HBACK HNO
        have hc0 := HF.out wr HE.out 0 (by decide)
        rw [Nat.add_zero] at hc0
        have hb0 : nx ≤ 5000 := by omega
        have hb1 : la ≤ 5000 := by omega
        by_cases hel : el = .any
        · subst hel
          simp only [pC, List.getElem?_cons_zero] at hc0
          go_wp2_with fail
          go_roundw
          case rel => exact ⟨nx + 1, la, nx + 1, la, by go_num, rfl, by go_num, rfl, HANY.out rfl, HE.out⟩
          case measure =>
            have h := ms_any (N := N) (M := M) hen hnlt
            simp only [intOf]
            simpa using h
        · obtain ⟨k, s, hz, hk⟩ := pC_two el hel
          have HZ := Lib.hid hz
          have HEL := Lib.hid hel
          rw [hz] at hc0
          simp only [List.getElem?_cons_zero] at hc0
          clear hz hel
          go_wp2_with fail
          have hz0 : ∀ z : Later Ext wr.drew, z.val.cell? ⟨g, off + nx * 2, none⟩ = some (.int .u8 k) := fun z => by
            have h := HF.out z.val (Ext.trans (Ext.trans HE.out (Ext.drew _)) z.ext) 0 (by decide)
            rw [HZ.out] at h
            exact h
          have hz1 : ∀ z : Later Ext wr.drew, z.val.cell? ⟨g, off + nx * 2 + 1, none⟩ = some (.string s) := fun z => by
            have h := HF.out z.val (Ext.trans (Ext.trans HE.out (Ext.drew _)) z.ext) 1 (by decide)
            rw [HZ.out] at h
            exact h
          have hz2 : ∀ z : Later Ext wr.drew, z.val.cell? ⟨lg, loff + la, none⟩ = some (sv c) := fun z => HLC.out z.val (Ext.trans (Ext.trans HE.out (Ext.drew _)) z.ext)
          unfold sv at hz2
          refine wp_region_segs Ext Ext.keeps [([0, 1, 2, 3, 4, 5, 6, 7, 8, 9, 10, 11, 12], some 13), ([14, 15], none)] (by kernel_rfl) (by kernel_rfl) (fun c a a' w e h => (by exact ⟨e ▸ h.1, h.2⟩)) ?_
          simp only [pickSegs, pickOps, List.map_cons, List.map_nil, Option.map_some, Option.map_none, Option.getD_some, List.getElem?_toArray, List.getElem?_cons_zero, List.getElem?_cons_succ]
          refine wpSegs_some fun K hK => ?_
          repeat go_big_quiet_step (fail)
          refine wpQuiet_nil ?_
          clear hz0 hz1 hz2
          have HW := Lib.hid (show Ext w wr.drew from Ext.trans HE.out (Ext.drew _))
          have HTK := Lib.hid (takes_any el HEL.out c wr.drew)
          rw [HZ.out] at HTK
          unfold sv at HTK
          go_wp2_with fail
          refine HTK.out.mono ?_
          rintro e w2 ⟨rfl, hb2⟩
          have HB2 := Lib.hid hb2
          have HE2 := Lib.hid (Ext.trans HW.out hb2)
          clear hb2
          go_wp2_with fail
          refine ⟨HB2.out, hK _ _ ?_⟩
          clear hK K
          refine wpSegs_none ?_
          cases htk : tkE el c with
          | true =>
            have HG := Lib.hid (HTAKE.out HEL.out htk)
            clear htk
            repeat go_big_quiet_step (fail)
            refine wpQuiet_nil (wpSegs_nil ?_)
            go_wp2_with fail
            go_roundw
            case rel => exact ⟨nx + 1, la + 1, af, en, by go_num, by go_num, rfl, rfl, HG.out, HE2.out⟩
            case measure =>
              simp only [intOf]
              simp
              omega
          | false =>
            by_cases hf : 0 < af
            · have HG := Lib.hid (HBACK.out hf ⟨HEL.out, htk⟩)
              clear htk
              have hen2 : en ≤ 5000 := by omega
              repeat go_big_quiet_step (fail)
              refine wpQuiet_nil (wpSegs_nil ?_)
              go_wp2_with fail
              go_roundw
              case rel => exact ⟨af, en + 1, af, en + 1, rfl, by go_num, rfl, by go_num, HG.out, HE2.out⟩
              case measure =>
                have h := ms_back (N := N) (M := M) (nx := nx) (af := af) (en := en) (by omega)
                simp only [intOf]
                simpa using h
            · have HG := Lib.hid (HNO.out (by omega) ⟨HEL.out, htk⟩)
              have haf0 : af = 0 := by omega
              subst haf0
              clear htk hf
              repeat go_big_quiet_step (fail)
              refine wpQuiet_nil (wpSegs_nil ?_)
              go_wp2_with fail
              go_ret
              exact ⟨by rw [HG.out]; rfl, HE2.out⟩
      · have hnM : nx = M := by omega
        have HBACK := Lib.hid (fun h1 => Gr_back HGR.out hll h1 (fun hn => absurd hn (by have := HM.out; omega)))
        have HNO := Lib.hid (fun h1 => Gr_no HGR.out hll h1 (fun hn => absurd hn (by have := HM.out; omega)))
        subst hnM
        go_wp2_with fail
        refine wp_region_segs Ext Ext.keeps [([0, 1, 2, 3, 4, 5, 6, 7, 8, 9, 10, 11, 12], some 13), ([14, 15], none)] (by kernel_rfl) (by kernel_rfl) (fun c a a' w e h => (by exact ⟨e ▸ h.1, h.2⟩)) ?_
        simp only [pickSegs, pickOps, List.map_cons, List.map_nil, Option.map_some, Option.map_none, Option.getD_some, List.getElem?_toArray, List.getElem?_cons_zero, List.getElem?_cons_succ]
        refine wpSegs_some fun K hK => ?_
        repeat go_big_quiet_step (fail)
        refine wpQuiet_nil ?_
        have HW := Lib.hid (show Ext w wr.drew from Ext.trans HE.out (Ext.drew _))
        go_wp2_with fail
        refine ⟨Ext.keeps.refl _, hK _ _ ?_⟩
        clear hK K
        refine wpSegs_none ?_
        by_cases hf : 0 < af
        · have HG := Lib.hid (HBACK.out hf)
          have hen2 : en ≤ 5000 := by omega
          repeat go_big_quiet_step (fail)
          refine wpQuiet_nil (wpSegs_nil ?_)
          go_wp2_with fail
          go_roundw
          case rel => exact ⟨af, en + 1, af, en + 1, rfl, by go_num, rfl, by go_num, HG.out, HW.out⟩
          case measure =>
            have h := ms_back (N := N) (M := nx) (nx := nx) (af := af) (en := en) (by omega)
            simp only [intOf]
            simpa using h
        · have HG := Lib.hid (HNO.out (by omega))
          have haf0 : af = 0 := by omega
          subst haf0
          clear hf
          repeat go_big_quiet_step (fail)
          refine wpQuiet_nil (wpSegs_nil ?_)
          go_wp2_with fail
          go_ret
          exact ⟨by rw [HG.out]; rfl, HW.out⟩
    · have hlN : la = N := by omega
      have HEND := Lib.hid (Gr_end HGR.out (by have := HN.out; omega))
      subst hlN
      have HR1 := Lib.hid (RdE_drop (nx := nx) HM.out HC.out hnx hc1 (by unfold maxLen; omega))
      have HR2 := Lib.hid (fun hn : M ≤ nx => RdE_none (w := wr) (ao := ao) (nx := nx) HM.out hn)
      have HPL := Lib.hid (show (ps.drop nx).length ≤ 5000 by rw [List.length_drop, HM.out]; omega)
      go_wp2_with fail
      · refine (onlyAnyMany_any (ps.drop nx) _ wr (HR2.out (by omega)) HPL.out).mono ?_
        rintro e w2 ⟨rfl, hb2⟩
        have HE2 := Lib.hid (Ext.trans HE.out hb2)
        clear hb2
        rw [← HEND.out]
        go_wp2_with fail
        go_ret
        exact ⟨rfl, HE2.out⟩
      · refine (onlyAnyMany_any (ps.drop nx) _ wr (HR1.out.mono HE.out) HPL.out).mono ?_
        rintro e w2 ⟨rfl, hb2⟩
        have HE2 := Lib.hid (Ext.trans HE.out hb2)
        clear hb2
        rw [← HEND.out]
        go_wp2_with fail
        go_ret
        exact ⟨rfl, HE2.out⟩

set_option maxRecDepth 100000 in
set_option maxHeartbeats 1000000 in
theorem Match_any (p s : List UInt8) (w : World) (hT : Tabs w) (hp : p.length ≤ 5000) (hs : s.length ≤ 5000) :
    Calls Tryz.prog 87 #[sv p, sv s] w fun e w' => e = .returned (.tuple #[.bool (isB p s), .int .i64 (errN p)]) ∧ Ext w w' := by
  have HT := Lib.hid hT
  have HP := Lib.hid (elements_any p w hT hp)
  have HL := Lib.hid (fun w hT => Letters_any s w hT hs)
  have hp2 := lets_length p
  have hs2 := lets_length s
  generalize hB : isB p s = B
  generalize hE : errN p = E
  have HB := Lib.hid hB
  have HE := Lib.hid hE
  have HPL := Lib.hid (show (lets p).length ≤ 5000 by omega)
  have HSL := Lib.hid (show (lets s).length ≤ 5000 by omega)
  clear hT hp hs hE hB hp2 hs2
  unfold sv at HP HL ⊢
  go_enter Tryz.func87, Tryz.ntmps87
  go_wp2_with fail
  refine HP.out.mono ?_
  rintro e w1 ⟨⟨ps, v, h, rfl, hown⟩ | ⟨h, rfl⟩, hb⟩
  · have H := Lib.hid h
    have HBE := Lib.hid hb
    have HR := Lib.hid (RdE.of_owns hown)
    have HPS := Lib.hid (Nat.le_trans (els_len _ _ _ (Nat.le_refl _) h).1 HPL.out)
    clear h hb hown
    go_wp2_with fail
    refine (HL.out w1 (HT.out.mono HBE.out)).mono ?_
    rintro e w2 ⟨u, rfl, ho2, hb2⟩
    have HU := Lib.hid (RdV.of_owns ho2)
    have HB2 := Lib.hid hb2
    have HR2 := Lib.hid (HR.out.mono hb2)
    clear ho2 hb2
    go_wp2_with fail
    refine (matches_any ps (lets s) v u w2 HR2.out HU.out HPS.out HSL.out).mono ?_
    rintro e w3 ⟨rfl, hb3⟩
    have HB3 := Lib.hid (Ext.trans HBE.out (Ext.trans HB2.out hb3))
    have HM := Lib.hid (show mt ps (lets s) = B by rw [← HB.out, isB_some H.out])
    rw [HM.out]
    clear hb3
    go_wp2_with fail
    go_ret2
    exact ⟨by rw [← HE.out, errN_some H.out]; rfl, HB3.out⟩
  · have H := Lib.hid h
    have HBE := Lib.hid hb
    clear h hb
    go_wp2_with fail
    go_ret2
    have hz : isB p s = false := by unfold isB; rw [H.out]
    exact ⟨by rw [← HB.out, ← HE.out, errN_none H.out, hz]; rfl, HBE.out⟩

end Go.Proofs.YtfnmcdjfdhdlmaaGreatDoor

/-
  The program's contracts of conditions: what comes of a row.
-/
namespace Go.Proofs.YtfnmcdjfdhdlmaaGreatDoor
section
open Go.RowKit Go.BigFrame

theorem pTruth14_any (b : Bool) (w : World) : Calls Tryz.prog 64 #[.bool b] w fun e w' => e = .returned (.int .u8 (if b = true then 2 else 0)) ∧ w' = w := by
  cases b with
  | true =>
    go_enter Tryz.func64, Tryz.ntmps64
    go_wp2_with fail
    go_ret
    exact ⟨rfl, rfl⟩
  | false =>
    go_enter Tryz.func64, Tryz.ntmps64
    go_wp2_with fail
    go_ret
    exact ⟨rfl, rfl⟩
theorem enters_not14 : ∀ args w, (callFunc 37 args).run Tryz.prog w = .ok (.enter 37 args) w := enters_of Tryz.func37 (by kernel_rfl) rfl
theorem enters_joined : ∀ args w, (callFunc 38 args).run Tryz.prog w = .ok (.enter 38 args) w := enters_of Tryz.func38 (by kernel_rfl) rfl
theorem enters_eval1 : ∀ args w, (callFunc 34 args).run Tryz.prog w = .ok (.enter 34 args) w := enters_of Tryz.func34 (by kernel_rfl) rfl
theorem joined_any (n : Nd) (a b : Int) (ha : tri a) (hb : tri b) (w : World) : Calls Tryz.prog 38 #[.int .u8 n.op, .int .u8 a, .int .u8 b] w fun e w' => e = .returned (.int .u8 (joinT n a b)) ∧ Ext w w' := by
  have HA := Lib.hid (fun W => And_any a b (tri_bounds ha) (tri_bounds hb) W)
  have HO := Lib.hid (fun W => Or_any a b (tri_bounds ha) (tri_bounds hb) W)
  have HJ := Lib.hid (show joinT n a b = if n.op = 2 then andT a b else orT a b from rfl)
  rw [HJ.out]
  generalize n.op = o at HJ ⊢
  clear ha hb HJ
  by_cases h : o = 2
  · subst h
    rw [if_pos rfl]
    go_enter Tryz.func38, Tryz.ntmps38
    go_wp2_with fail
    refine (HA.out _).mono ?_
    rintro e w1 ⟨rfl, hx⟩
    go_wp2_with fail
    go_ret
    exact ⟨rfl, hx⟩
  · rw [if_neg h]
    have q : (o == (2 : Int)) = false := beq_eq_false_iff_ne.2 h
    clear h
    go_enter Tryz.func38, Tryz.ntmps38
    go_wp2_with fail
    refine (HO.out _).mono ?_
    rintro e w1 ⟨rfl, hx⟩
    go_wp2_with fail
    go_ret
    exact ⟨rfl, hx⟩

/-- The value of a column. -/
def valC (r : List V) (c : Int) : V := if 0 ≤ c ∧ c < r.length then (r[c.toNat]?).getD V.zero else V.zero
set_option maxRecDepth 100000 in
theorem pValue_any (u : Value) (r : List V) (c : Int) (w : World) (hu : RdVals w u r) :
    Calls Tryz.prog 60 #[u, .int .i64 c] w fun e w' => e = .returned (valC r c).val ∧ Ext w w' := by
  obtain ⟨ao, cap, rfl, -, -⟩ := hu.shape
  obtain ⟨-, h1, h2, hc⟩ := hu.plain
  unfold maxLen at h2
  have HI := Lib.hid (fun W => in_any r.length c W)
  have HX := Lib.hid (ext_new w (.cells #[.int .u8 0, .int .i64 0, .string ⟨#[]⟩] 36))
  have HB := Lib.hid (Blk.new w [.int .u8 0, .int .i64 0, .string ⟨#[]⟩] 36)
  obtain ⟨N, hN⟩ : ∃ N, r.length = N := ⟨_, rfl⟩
  rw [hN] at HI h1 ⊢
  by_cases hin : 0 ≤ c ∧ c < (N : Int)
  · rw [decide_eq_true hin] at HI
    obtain ⟨j, rfl⟩ := Int.eq_ofNat_of_zero_le hin.1
    have hj : j < N := by omega
    have hjr : j < r.length := by omega
    obtain ⟨g, off, rfl, c0, c1, c2⟩ := hc j hjr
    have x0 := (HX.out.cell (lt_of_cell c0)).trans c0
    have x1 := (HX.out.cell (lt_of_cell c1)).trans c1
    have x2 := (HX.out.cell (lt_of_cell c2)).trans c2
    have HQ := Lib.hid (show valC r (j : Int) = r[j] by unfold valC; rw [if_pos (by omega), Int.toNat_natCast, List.getElem?_eq_getElem hjr]; rfl)
    rw [HQ.out]
    have HN := Lib.hid hN
    clear c0 c1 c2 hu hc hin hN
    generalize r[j] = v at x0 x1 x2 ⊢
    obtain ⟨vk, vn, vs⟩ := v
    unfold V.val
    simp only at x0 x1 x2 ⊢
    clear hjr HQ
    go_enter Tryz.func60, Tryz.ntmps60
    go_wp2_with fail
    refine (HI.out _).mono ?_
    rintro e w1 ⟨rfl, rfl⟩
    go_wp2_with fail
    have HB2 := Lib.hid (heap_alloc_new w (.cells #[.int .u8 vk, .int .i64 vn, .string ⟨vs.toArray⟩] 36))
    refine bodyPost_ret (results_cell_row (P := Tryz.prog) (fn := Tryz.f60) rfl _ _ w.heap.size 36 _ (0, 0) _ rfl HB2.out Tryz.underlying36 rfl (by kernel_rfl)) rfl ?_
    exact ⟨rfl, ext_new w _⟩
  · rw [decide_eq_false hin] at HI
    have HQ := Lib.hid (show valC r c = V.zero by unfold valC; rw [if_neg (by rw [hN]; exact hin)])
    rw [HQ.out]
    unfold V.val V.zero
    simp only
    clear hu hc hin hN HQ
    go_enter Tryz.func60, Tryz.ntmps60
    go_wp2_with fail
    refine (HI.out _).mono ?_
    rintro e w1 ⟨rfl, rfl⟩
    go_wp2_with fail
    refine bodyPost_ret (results_cell_row (P := Tryz.prog) (fn := Tryz.f60) rfl _ _ w.heap.size 36 _ (0, 0) _ rfl (heap_alloc_new _ _) Tryz.underlying36 rfl (by kernel_rfl)) rfl ?_
    exact ⟨rfl, ext_new w _⟩

def likeT (v : V) (p : List UInt8) : Int := if v.k = 0 then 1 else if isB p v.s = true then 2 else 0
theorem pIsLike_any (v : V) (p : List UInt8) (w : World) (hT : Tabs w) (hl : v.s.length ≤ 5000) (hp : p.length ≤ 5000) :
    Calls Tryz.prog 63 #[v.val, .string ⟨p.toArray⟩] w fun e w' => e = .returned (.int .u8 (likeT v p)) ∧ Ext w w' := by
  have HM := Lib.hid (fun W (h : Ext w W) => Match_any p v.s W (hT.mono h) hp hl)
  obtain ⟨vk, vn, vs⟩ := v
  have HX := Lib.hid (ext_new w (.cells #[.int .u8 vk, .int .i64 vn, .string ⟨vs.toArray⟩] 36))
  have HQ := Lib.hid (show likeT ⟨vk, vn, vs⟩ p = if vk = 0 then 1 else if isB p vs = true then 2 else 0 from rfl)
  rw [HQ.out]
  unfold V.val
  simp only at HM ⊢
  generalize isB p vs = b at HM ⊢
  generalize errN p = E at HM
  clear hT hl hp HQ
  by_cases h : vk = 0
  · subst h
    rw [if_pos rfl]
    go_enter Tryz.func63, Tryz.ntmps63
    go_wp2_with fail
    go_ret
    exact ⟨rfl, HX.out⟩
  · rw [if_neg h]
    have q : (vk == (0 : Int)) = false := beq_eq_false_iff_ne.2 h
    clear h
    have HTR := Lib.hid (fun W => pTruth14_any b W)
    generalize (if b = true then (2 : Int) else 0) = z at HTR ⊢
    go_enter Tryz.func63, Tryz.ntmps63
    go_wp2_with fail
    refine (HM.out _ HX.out).mono ?_
    rintro e w1 ⟨rfl, hx⟩
    have HX1 := Lib.hid (Ext.trans HX.out hx)
    clear hx
    go_wp2_with fail
    refine (HTR.out _).mono ?_
    rintro e w2 ⟨rfl, rfl⟩
    go_wp2_with fail
    go_ret
    exact ⟨rfl, HX1.out⟩

theorem valC_fit {r : List V} {n : Nat} (h : FitV n r) (c : Int) : (valC r c).fits ∧ (valC r c).s.length ≤ n := by
  unfold valC
  have h0 : V.zero.fits ∧ V.zero.s.length ≤ n := ⟨⟨by decide, by decide, by decide, by decide⟩, Nat.zero_le _⟩
  split
  · rename_i hc
    rw [List.getElem?_eq_getElem (by omega), Option.getD_some]
    exact h _ (List.getElem_mem _)
  · exact h0

set_option maxRecDepth 100000 in
set_option maxHeartbeats 2000000 in
theorem pOfRow_any (n : Nd) (u : Value) (r : List V) (w : World) (hT : Tabs w) (hn : n.v.fits ∧ n.v.s.length ≤ 5000) (hu : RdVals w u r) (hr : FitV 5000 r) :
    Calls Tryz.prog 35 #[n.val, u] w fun e w' => e = .returned (.int .u8 (leafR isB r n)) ∧ Ext w w' := by
  have hvf := valC_fit hr n.col
  have HV := Lib.hid (fun W (h : Ext w W) => pValue_any u r n.col W (hu.mono h))
  have HE := Lib.hid (fun W => Equal_any (valC r n.col) n.v hvf.1 hn.1 hvf.2 hn.2 W)
  have HL := Lib.hid (fun W => Less_any (valC r n.col) n.v hvf.1 hn.1 hvf.2 hn.2 W)
  have HK := Lib.hid (fun W (h : Ext w W) => pIsLike_any (valC r n.col) n.v.s W (hT.mono h) hvf.2 hn.2)
  have HQ := Lib.hid (show leafR isB r n = if n.op = 1 then 2 else if n.op = 5 then equalT (valC r n.col) n.v else if n.op = 6 then lessT (valC r n.col) n.v else if n.op = 7 then likeT (valC r n.col) n.v.s else if (valC r n.col).k = 0 then 2 else 0 from rfl)
  rw [HQ.out]
  obtain ⟨o, c, kd, ⟨vk, vn, vs⟩⟩ := n
  simp only at HV HE HL HK hvf ⊢
  generalize valC r c = x at HV HE HL HK ⊢
  obtain ⟨xk, xn, xs⟩ := x
  unfold V.val at HV HE HL HK
  unfold Nd.val
  simp only at HV HE HL HK ⊢
  have HB := Lib.hid (Blk.new w [.int .u8 o, .int .i64 c, .int .i64 kd, .int .u8 vk, .int .i64 vn, .string ⟨vs.toArray⟩] 38)
  have HX := Lib.hid (ext_new w (.cells #[.int .u8 o, .int .i64 c, .int .i64 kd, .int .u8 vk, .int .i64 vn, .string ⟨vs.toArray⟩] 38))
  obtain ⟨ao, cap, rfl, h1, h2⟩ := hu.shape
  generalize r.length = N at *
  clear hu hr hT hn hvf HQ
  by_cases ho1 : o = 1
  · subst ho1
    rw [if_pos rfl]
    go_enter Tryz.func35, Tryz.ntmps35
    go_wp2_with fail
    go_ret
    exact ⟨rfl, HX.out⟩
  · rw [if_neg ho1]
    have q1 : (o == (1 : Int)) = false := beq_eq_false_iff_ne.2 ho1
    clear ho1
    by_cases ho5 : o = 5
    · subst ho5
      rw [if_pos rfl]
      go_enter Tryz.func35, Tryz.ntmps35
      go_wp2_with fail
      refine (HV.out _ HX.out).mono ?_
      rintro e w1 ⟨rfl, hx⟩
      have HX1 := Lib.hid (Ext.trans HX.out hx)
      have HX2 := Lib.hid (Ext.trans HX1.out (ext_new w1 (.cells #[.int .u8 xk, .int .i64 xn, .string ⟨xs.toArray⟩] 36)))
      have HB1 := Lib.hid (HB.out.ext hx)
      clear hx
      have e0 : ∀ ob, (w1.alloc ob).cell? ⟨w.heap.size, 0, none⟩ = some (.int .u8 5) := fun ob => (HB1.out.ext (ext_new w1 ob)).cell 0 _ rfl
      have e3 : ∀ ob, (w1.alloc ob).cell? ⟨w.heap.size, 3, none⟩ = some (.int .u8 vk) := fun ob => (HB1.out.ext (ext_new w1 ob)).cell 3 _ rfl
      have e4 : ∀ ob, (w1.alloc ob).cell? ⟨w.heap.size, 4, none⟩ = some (.int .i64 vn) := fun ob => (HB1.out.ext (ext_new w1 ob)).cell 4 _ rfl
      have e5 : ∀ ob, (w1.alloc ob).cell? ⟨w.heap.size, 5, none⟩ = some (.string ⟨vs.toArray⟩) := fun ob => (HB1.out.ext (ext_new w1 ob)).cell 5 _ rfl
      go_wp2_with fail
      refine (HE.out _).mono ?_
      rintro e w2 ⟨rfl, hx⟩
      have HX3 := Lib.hid (Ext.trans HX2.out hx)
      clear hx
      go_wp2_with fail
      go_ret
      exact ⟨rfl, HX3.out⟩
    · rw [if_neg ho5]
      have q5 : (o == (5 : Int)) = false := beq_eq_false_iff_ne.2 ho5
      clear ho5
      by_cases ho6 : o = 6
      · subst ho6
        rw [if_pos rfl]
        go_enter Tryz.func35, Tryz.ntmps35
        go_wp2_with fail
        refine (HV.out _ HX.out).mono ?_
        rintro e w1 ⟨rfl, hx⟩
        have HX1 := Lib.hid (Ext.trans HX.out hx)
        have HX2 := Lib.hid (Ext.trans HX1.out (ext_new w1 (.cells #[.int .u8 xk, .int .i64 xn, .string ⟨xs.toArray⟩] 36)))
        have HB1 := Lib.hid (HB.out.ext hx)
        clear hx
        have e0 : ∀ ob, (w1.alloc ob).cell? ⟨w.heap.size, 0, none⟩ = some (.int .u8 6) := fun ob => (HB1.out.ext (ext_new w1 ob)).cell 0 _ rfl
        have e3 : ∀ ob, (w1.alloc ob).cell? ⟨w.heap.size, 3, none⟩ = some (.int .u8 vk) := fun ob => (HB1.out.ext (ext_new w1 ob)).cell 3 _ rfl
        have e4 : ∀ ob, (w1.alloc ob).cell? ⟨w.heap.size, 4, none⟩ = some (.int .i64 vn) := fun ob => (HB1.out.ext (ext_new w1 ob)).cell 4 _ rfl
        have e5 : ∀ ob, (w1.alloc ob).cell? ⟨w.heap.size, 5, none⟩ = some (.string ⟨vs.toArray⟩) := fun ob => (HB1.out.ext (ext_new w1 ob)).cell 5 _ rfl
        go_wp2_with fail
        refine (HL.out _).mono ?_
        rintro e w2 ⟨rfl, hx⟩
        have HX3 := Lib.hid (Ext.trans HX2.out hx)
        clear hx
        go_wp2_with fail
        go_ret
        exact ⟨rfl, HX3.out⟩
      · rw [if_neg ho6]
        have q6 : (o == (6 : Int)) = false := beq_eq_false_iff_ne.2 ho6
        clear ho6
        by_cases ho7 : o = 7
        · subst ho7
          rw [if_pos rfl]
          go_enter Tryz.func35, Tryz.ntmps35
          go_wp2_with fail
          refine (HV.out _ HX.out).mono ?_
          rintro e w1 ⟨rfl, hx⟩
          have HX1 := Lib.hid (Ext.trans HX.out hx)
          have HX2 := Lib.hid (Ext.trans HX1.out (ext_new w1 (.cells #[.int .u8 xk, .int .i64 xn, .string ⟨xs.toArray⟩] 36)))
          have HB1 := Lib.hid (HB.out.ext hx)
          clear hx
          have e0 : ∀ ob, (w1.alloc ob).cell? ⟨w.heap.size, 0, none⟩ = some (.int .u8 7) := fun ob => (HB1.out.ext (ext_new w1 ob)).cell 0 _ rfl
          have e3 : ∀ ob, (w1.alloc ob).cell? ⟨w.heap.size, 3, none⟩ = some (.int .u8 vk) := fun ob => (HB1.out.ext (ext_new w1 ob)).cell 3 _ rfl
          have e4 : ∀ ob, (w1.alloc ob).cell? ⟨w.heap.size, 4, none⟩ = some (.int .i64 vn) := fun ob => (HB1.out.ext (ext_new w1 ob)).cell 4 _ rfl
          have e5 : ∀ ob, (w1.alloc ob).cell? ⟨w.heap.size, 5, none⟩ = some (.string ⟨vs.toArray⟩) := fun ob => (HB1.out.ext (ext_new w1 ob)).cell 5 _ rfl
          go_wp2_with fail
          refine (HK.out _ HX2.out).mono ?_
          rintro e w2 ⟨rfl, hx⟩
          have HX3 := Lib.hid (Ext.trans HX2.out hx)
          clear hx
          go_wp2_with fail
          go_ret
          exact ⟨rfl, HX3.out⟩
        · rw [if_neg ho7]
          have q7 : (o == (7 : Int)) = false := beq_eq_false_iff_ne.2 ho7
          clear ho7
          by_cases hx0 : xk = 0
          · rw [if_pos hx0]
            subst hx0
            go_enter Tryz.func35, Tryz.ntmps35
            go_wp2_with fail
            refine (HV.out _ HX.out).mono ?_
            rintro e w1 ⟨rfl, hx⟩
            have HX1 := Lib.hid (Ext.trans HX.out hx)
            have HX2 := Lib.hid (Ext.trans HX1.out (ext_new w1 (.cells #[.int .u8 0, .int .i64 xn, .string ⟨xs.toArray⟩] 36)))
            have HB1 := Lib.hid (HB.out.ext hx)
            clear hx
            have e0 : ∀ ob, (w1.alloc ob).cell? ⟨w.heap.size, 0, none⟩ = some (.int .u8 o) := fun ob => (HB1.out.ext (ext_new w1 ob)).cell 0 _ rfl
            have e3 : ∀ ob, (w1.alloc ob).cell? ⟨w.heap.size, 3, none⟩ = some (.int .u8 vk) := fun ob => (HB1.out.ext (ext_new w1 ob)).cell 3 _ rfl
            have e4 : ∀ ob, (w1.alloc ob).cell? ⟨w.heap.size, 4, none⟩ = some (.int .i64 vn) := fun ob => (HB1.out.ext (ext_new w1 ob)).cell 4 _ rfl
            have e5 : ∀ ob, (w1.alloc ob).cell? ⟨w.heap.size, 5, none⟩ = some (.string ⟨vs.toArray⟩) := fun ob => (HB1.out.ext (ext_new w1 ob)).cell 5 _ rfl
            go_wp2_with fail
            refine (pTruth14_any _ _).mono ?_
            rintro e w2 ⟨rfl, rfl⟩
            go_wp2_with fail
            go_ret
            exact ⟨rfl, HX2.out⟩
          · rw [if_neg hx0]
            have q0 : (xk == (0 : Int)) = false := beq_eq_false_iff_ne.2 hx0
            clear hx0
            go_enter Tryz.func35, Tryz.ntmps35
            go_wp2_with fail
            refine (HV.out _ HX.out).mono ?_
            rintro e w1 ⟨rfl, hx⟩
            have HX1 := Lib.hid (Ext.trans HX.out hx)
            have HX2 := Lib.hid (Ext.trans HX1.out (ext_new w1 (.cells #[.int .u8 xk, .int .i64 xn, .string ⟨xs.toArray⟩] 36)))
            have HB1 := Lib.hid (HB.out.ext hx)
            clear hx
            have e0 : ∀ ob, (w1.alloc ob).cell? ⟨w.heap.size, 0, none⟩ = some (.int .u8 o) := fun ob => (HB1.out.ext (ext_new w1 ob)).cell 0 _ rfl
            have e3 : ∀ ob, (w1.alloc ob).cell? ⟨w.heap.size, 3, none⟩ = some (.int .u8 vk) := fun ob => (HB1.out.ext (ext_new w1 ob)).cell 3 _ rfl
            have e4 : ∀ ob, (w1.alloc ob).cell? ⟨w.heap.size, 4, none⟩ = some (.int .i64 vn) := fun ob => (HB1.out.ext (ext_new w1 ob)).cell 4 _ rfl
            have e5 : ∀ ob, (w1.alloc ob).cell? ⟨w.heap.size, 5, none⟩ = some (.string ⟨vs.toArray⟩) := fun ob => (HB1.out.ext (ext_new w1 ob)).cell 5 _ rfl
            go_wp2_with fail
            refine (pTruth14_any _ _).mono ?_
            rintro e w2 ⟨rfl, rfl⟩
            go_wp2_with fail
            go_ret
            exact ⟨rfl, HX2.out⟩

theorem evalLeaf_any (n : Nd) (u : Value) (r : List V) (kb : Nat) (w : World) (hkb : w.cell? ⟨kb, 0, none⟩ = some u) (hT : Tabs w) (hn : n.v.fits ∧ n.v.s.length ≤ 5000) (hu : RdVals w u r) (hr : FitV 5000 r) :
    Calls Tryz.prog 34 #[n.val, .pointer (some ⟨kb, 0, none⟩)] w fun e w' => e = .returned (.int .u8 (leafR isB r n)) ∧ Ext w w' := by
  have HF := Lib.hid (fun W (h : Ext w W) => pOfRow_any n u r W (hT.mono h) hn (hu.mono h) hr)
  obtain ⟨o, c, kd, ⟨vk, vn, vs⟩⟩ := n
  have HX := Lib.hid (ext_new w (.cells #[.int .u8 o, .int .i64 c, .int .i64 kd, .int .u8 vk, .int .i64 vn, .string ⟨vs.toArray⟩] 38))
  have x0 := (HX.out.cell (lt_of_cell hkb)).trans hkb
  obtain ⟨ao, cap, rfl, -, -⟩ := hu.shape
  generalize r.length = N at *
  generalize leafR isB r ⟨o, c, kd, ⟨vk, vn, vs⟩⟩ = z at HF ⊢
  unfold Nd.val at HF ⊢
  simp only at HF ⊢
  clear hu hr hT hn hkb
  go_enter Tryz.func34, Tryz.ntmps34
  go_wp2_with fail
  refine (HF.out _ HX.out).mono ?_
  rintro e w1 ⟨rfl, hx⟩
  have HX1 := Lib.hid (Ext.trans HX.out hx)
  clear hx
  go_wp2_with fail
  go_ret
  exact ⟨rfl, HX1.out⟩

/-- Five cells that were made one behind the other, and the last of them stored. -/
theorem five_made (w : World) (a b c d e f : Value) (t1 t2 t3 t4 t5 : TypeId) : ((((((w.alloc (.cells #[a] t1)).alloc (.cells #[b] t2)).alloc (.cells #[c] t3)).alloc (.cells #[d] t4)).alloc (.cells #[e] t5)).cell? ⟨w.heap.size + 1 + 1 + 1 + 1, 0, none⟩ = some e) ∧
    ((((((w.alloc (.cells #[a] t1)).alloc (.cells #[b] t2)).alloc (.cells #[c] t3)).alloc (.cells #[d] t4)).alloc (.cells #[e] t5)).frozen? ⟨w.heap.size + 1 + 1 + 1 + 1, 0, none⟩ = false) ∧
    ∃ W, W = (((((w.alloc (.cells #[a] t1)).alloc (.cells #[b] t2)).alloc (.cells #[c] t3)).alloc (.cells #[d] t4)).alloc (.cells #[e] t5)).setCell ⟨w.heap.size + 1 + 1 + 1 + 1, 0, none⟩ f ∧ Ext w W ∧
      W.cell? ⟨w.heap.size, 0, none⟩ = some a ∧ W.cell? ⟨w.heap.size + 1, 0, none⟩ = some b ∧ W.cell? ⟨w.heap.size + 1 + 1, 0, none⟩ = some c ∧ W.cell? ⟨w.heap.size + 1 + 1 + 1, 0, none⟩ = some d ∧ W.cell? ⟨w.heap.size + 1 + 1 + 1 + 1, 0, none⟩ = some f := by
  have s1 : (w.alloc (.cells #[a] t1)).heap.size = w.heap.size + 1 := by simp only [World.alloc, Array.size_push]
  generalize hW1 : w.alloc (.cells #[a] t1) = W1 at s1 ⊢
  have s2 : (W1.alloc (.cells #[b] t2)).heap.size = w.heap.size + 1 + 1 := by rw [← s1]; simp only [World.alloc, Array.size_push]
  generalize hW2 : W1.alloc (.cells #[b] t2) = W2 at s2 ⊢
  have s3 : (W2.alloc (.cells #[c] t3)).heap.size = w.heap.size + 1 + 1 + 1 := by rw [← s2]; simp only [World.alloc, Array.size_push]
  generalize hW3 : W2.alloc (.cells #[c] t3) = W3 at s3 ⊢
  have s4 : (W3.alloc (.cells #[d] t4)).heap.size = w.heap.size + 1 + 1 + 1 + 1 := by rw [← s3]; simp only [World.alloc, Array.size_push]
  generalize hW4 : W3.alloc (.cells #[d] t4) = W4 at s4 ⊢
  have b1 : Blk W1 w.heap.size [a] t1 := by rw [← hW1]; exact Blk.new w [a] t1
  have b2 : Blk W2 (w.heap.size + 1) [b] t2 := by rw [← hW2, ← s1]; exact Blk.new W1 [b] t2
  have b3 : Blk W3 (w.heap.size + 1 + 1) [c] t3 := by rw [← hW3, ← s2]; exact Blk.new W2 [c] t3
  have b4 : Blk W4 (w.heap.size + 1 + 1 + 1) [d] t4 := by rw [← hW4, ← s3]; exact Blk.new W3 [d] t4
  have b5 : Blk (W4.alloc (.cells #[e] t5)) (w.heap.size + 1 + 1 + 1 + 1) [e] t5 := by rw [← s4]; exact Blk.new W4 [e] t5
  have x1 : Ext w W1 := by rw [← hW1]; exact ext_new _ _
  have x2 : Ext W1 W2 := by rw [← hW2]; exact ext_new _ _
  have x3 : Ext W2 W3 := by rw [← hW3]; exact ext_new _ _
  have x4 : Ext W3 W4 := by rw [← hW4]; exact ext_new _ _
  have x5 : Ext W4 (W4.alloc (.cells #[e] t5)) := ext_new _ _
  refine ⟨b5.cell 0 _ rfl, b5.free 0, _, rfl, Below.setCell (Ext.trans (Ext.trans (Ext.trans (Ext.trans x1 x2) x3) x4) x5) (by show w.heap.size ≤ w.heap.size + 1 + 1 + 1 + 1; omega) _, ?_, ?_, ?_, ?_, (b5.set 0 f).cell 0 _ rfl⟩
  · exact (Blk.beside ((((b1.ext x2).ext x3).ext x4).ext x5) (by omega) 0 f).cell 0 _ rfl
  · exact (Blk.beside (((b2.ext x3).ext x4).ext x5) (by omega) 0 f).cell 0 _ rfl
  · exact (Blk.beside ((b3.ext x4).ext x5) (by omega) 0 f).cell 0 _ rfl
  · exact (Blk.beside (b4.ext x5) (by omega) 0 f).cell 0 _ rfl

set_option maxRecDepth 100000 in
set_option maxHeartbeats 2000000 in
theorem pJudge8_any (GL GN GJ : Nat) (pr u : Value) (l : List Nd) (leaf : Nd → Int) (nt : Int → Int) (jn : Nd → Int → Int → Int) (P : Int → Prop) (w : World)
    (heL : ∀ args w, (callFunc GL args).run Tryz.prog w = .ok (.enter GL args) w) (heN : ∀ args w, (callFunc GN args).run Tryz.prog w = .ok (.enter GN args) w) (heJ : ∀ args w, (callFunc GJ args).run Tryz.prog w = .ok (.enter GJ args) w)
    (hL : ∀ n ∈ l, ∀ W, Ext w W → Calls Tryz.prog GL #[n.val, pr] W fun e w' => e = .returned (.int .u8 (leaf n)) ∧ Ext W w') (hPL : ∀ n, P (leaf n))
    (hN : ∀ a, P a → ∀ W, Calls Tryz.prog GN #[.int .u8 a] W fun e w' => e = .returned (.int .u8 (nt a)) ∧ Ext W w') (hPN : ∀ a, P a → P (nt a))
    (hJ : ∀ n a b, P a → P b → ∀ W, Calls Tryz.prog GJ #[.int .u8 (Nd.op n), .int .u8 a, .int .u8 b] W fun e w' => e = .returned (.int .u8 (jn n a b)) ∧ Ext W w') (hPJ : ∀ n a b, P a → P b → P (jn n a b))
    (hu : RdNds w u l) (hlen : l.length ≤ 40) (hm : ∀ n ∈ l, manyI n = (kidsN n : Int) ∧ kidsN n ≤ 40 ∧ (n.op = 4 → kidsN n = 1)) (he : endK 1 l = some []) :
    Calls Tryz.prog 36 #[u, .func (.func GL) #[] #[pr], .func (.func GN) #[] #[], .func (.func GJ) #[] #[]] w fun e w' => (∃ v : Int, stk (combG leaf nt jn) l = [v] ∧ e = .returned (.int .u8 v)) ∧ Ext w w' := by
  have HI := Lib.hid (fun W0 p0 p1 p2 p3 p4 (h : Ext w W0) hc => judgeIn8_any GL GN GJ pr u l leaf nt jn P W0 p0 p1 p2 p3 p4 heL heN heJ (fun n hn W hW => hL n hn W (Ext.trans h hW)) hPL hN hPN hJ hPJ (hu.mono h) hlen hm hc l.length 0 [] W0 (by omega) (Nat.zero_le _) (Ext.keeps.refl _) he)
  obtain ⟨ao, cap, rfl, -, -⟩ := hu.shape
  generalize hNl : l.length = N at *
  have hmf : ∀ (fn : Fn) (first cap : Array Value) (w : World), (Instr.makeFunc fn first cap).run Tryz.prog w = .ok (.func fn first cap) w := fun _ _ _ _ => rfl
  obtain ⟨hcl, hfr, W0, hW0, hx0, k0, k1, k3, k4, k2⟩ := five_made w (.slice ao N cap) (.func (.func GL) #[] #[pr]) (.func (.func GN) #[] #[]) (.func (.func GJ) #[] #[]) .nilFunc (.func (.func 65) #[] #[.pointer (some ⟨w.heap.size, 0, none⟩), .pointer (some ⟨w.heap.size + 1, 0, none⟩), .pointer (some ⟨w.heap.size + 1 + 1 + 1 + 1, 0, none⟩), .pointer (some ⟨w.heap.size + 1 + 1, 0, none⟩), .pointer (some ⟨w.heap.size + 1 + 1 + 1, 0, none⟩)]) 23 67 69 70 91
  have HC := Lib.hid (HI.out W0 w.heap.size (w.heap.size + 1) (w.heap.size + 1 + 1 + 1 + 1) (w.heap.size + 1 + 1) (w.heap.size + 1 + 1 + 1) hx0 ⟨k0, k1, k2, k3, k4⟩)
  have HEN := enters_judge8
  have HX0 := Lib.hid hx0
  have HZ2 := Lib.hid k2
  clear heL heN heJ hL hPL hN hPN hJ hPJ hu hlen hm he k0 k1 k2 k3 k4 hx0 HI
  go_enter Tryz.func36, Tryz.ntmps36
  go_upto_region 2 with fail
  generalize (((((w.alloc (.cells #[.slice ao N cap] 23)).alloc (.cells #[.func (.func GL) #[] #[pr]] 67)).alloc (.cells #[.func (.func GN) #[] #[]] 69)).alloc (.cells #[.func (.func GJ) #[] #[]] 70)).alloc (.cells #[.nilFunc] 91)) = W5 at hcl hfr hW0 ⊢
  have HW0 := Lib.hid hW0
  clear hW0
  go_upto_region 3 with fail
  rw [← HW0.out]
  have z2 := HZ2.out
  go_wp2_with fail
  refine HC.out.mono ?_
  rintro e w1 ⟨v, hst, hP, rfl, hx⟩
  have HST := Lib.hid hst
  have HX1 := Lib.hid (Ext.trans HX0.out hx)
  clear hst hP hx
  go_wp2_with fail
  go_ret
  exact ⟨⟨v, HST.out, rfl⟩, HX1.out⟩

end
end Go.Proofs.YtfnmcdjfdhdlmaaGreatDoor

/-
  The program's contracts of conditions: Eval as a whole.
-/
namespace Go.Proofs.YtfnmcdjfdhdlmaaGreatDoor
open Go.RowKit Go.BigFrame

theorem right_many {ok : List UInt8 → Bool} {K : List Int} {l : List Nd} (h : rightA ok K l) : ∀ n ∈ l, manyI n = (kidsN n : Int) ∧ kidsN n ≤ 40 ∧ (n.op = 4 → kidsN n = 1) := fun n hn =>
  ⟨one_kids (h.2.1 n hn), (oneN_kids (h.2.1 n hn)).1, (oneN_kids (h.2.1 n hn)).2.2.1⟩

set_option maxRecDepth 100000 in
set_option maxHeartbeats 1000000 in
theorem pEval14_any (u v : Value) (K : List Int) (l : List Nd) (r : List V) (w : World) (hu : RdNds w u l) (hf : FitN 5000 l) (hv : RdVals w v r) (hr : FitV 5000 r) (hT : Tabs w) (hR : rightA okP K l) (hk : r.length = K.length) :
    Calls Tryz.prog 12 #[u, v] w fun e w' => e = .returned (.int .u8 (evalS isB l r)) ∧ Ext w w' := by
  have hJE := judge_eval isB okP K l r hR hk
  have HW := Lib.hid (fun W (h : Ext w W) => pWhole_any u l W (hu.mono h))
  rw [((right_iff okP K l).1 hR).1] at HW
  have HJ := Lib.hid (fun (kb : Nat) W (h : Ext w W) (hkb : W.cell? ⟨kb, 0, none⟩ = some v) => pJudge8_any 34 37 38 (.pointer (some ⟨kb, 0, none⟩)) u l (leafR isB r) notT joinT tri W
    enters_eval1 enters_not14 enters_joined
    (fun n hn W' h' => evalLeaf_any n v r kb W' ((h'.cell (lt_of_cell hkb)).trans hkb) (hT.mono (Ext.trans h h')) ⟨(hf n hn).1.v, (hf n hn).2⟩ (hv.mono (Ext.trans h h')) hr) (tri_leaf isB r)
    (fun a ha W' => Not_any a (tri_bounds ha) W') (fun a ha => tri_not ha) (fun n a b ha hb W' => joined_any n a b ha hb W') (fun n a b ha hb => tri_join ha hb) (hu.mono h) hR.1.2 (right_many hR) hR.2.2)
  rw [hJE.1] at HJ
  generalize evalS isB l r = z at HJ ⊢
  obtain ⟨ao, cap, rfl, -, -⟩ := hv.shape
  obtain ⟨bo, cb, rfl, -, -⟩ := hu.shape
  generalize r.length = N at *
  generalize l.length = M at *
  have HX := Lib.hid (ext_new w (.cells #[.slice ao N cap] 42))
  have HB := Lib.hid (Blk.new w [.slice ao N cap] 42)
  have hmf : ∀ (fn : Fn) (first cap : Array Value) (w : World), (Instr.makeFunc fn first cap).run Tryz.prog w = .ok (.func fn first cap) w := fun _ _ _ _ => rfl
  clear hu hf hv hr hT hR hk hJE
  go_enter Tryz.func12, Tryz.ntmps12
  go_wp2_with fail
  refine (HW.out _ HX.out).mono ?_
  rintro e w1 ⟨rfl, hx⟩
  have HX1 := Lib.hid (Ext.trans HX.out hx)
  have HB1 := Lib.hid (HB.out.ext hx)
  clear hx
  go_wp2_with fail
  refine (HJ.out w.heap.size _ HX1.out (HB1.out.cell 0 _ rfl)).mono ?_
  rintro e w2 ⟨⟨y, hy, rfl⟩, hx⟩
  have hzy : z = y := by simpa using hy
  subst hzy
  have HX2 := Lib.hid (Ext.trans HX1.out hx)
  clear hx hy
  go_wp2_with fail
  go_ret
  exact ⟨rfl, HX2.out⟩

end Go.Proofs.YtfnmcdjfdhdlmaaGreatDoor
