/-
  Texts of this proof, merged.
-/
import Derived.Test.YtaoegcakefodaaaGreatZ1
import Derived.Test.YtaoegcakefodaaaGreatZ2
import Derived.Test.YtaoegcakefodaaaGreatZ3
import Derived.Test.YtaoegcakefodaaaGreatZ4
import Derived.Test.YtaoegcakefodaaaGreatZ5
import Derived.Test.YtaoegcakefodaaaGreatZ6
import Derived.Test.YtaoegcakefodaaaGreatZ7
import Derived.Test.YtaoegcakefodaaaGreatZ8
import Derived.Test.YtaoegcakefodaaaGreatZ9
import Derived.Test.YtaoegcakefodaaaGreatZ10
import Derived.Test.YtaoegcakefodaaaGreatZ11
import Derived.Test.YtaoegcakefodaaaGreatZ12
import Derived.Test.YtaoegcakefodaaaGreatZ13
import Derived.Test.YtaoegcakefodaaaGreatZ14
import Derived.Test.YtaoegcakefodaaaGreatZ15
import Derived.Test.YtaoegcakefodaaaGreatZ16
import Derived.Test.YtaoegcakefodaaaGreatZ17
import Derived.Test.YtaoegcakefodaaaGreatZ18
import Derived.Test.YtaoegcakefodaaaGreatZ19
import Derived.Test.YtaoegcakefodaaaGreatZ20
namespace Go.Proofs.YtaoegcakefodaaaGreat
open Go.RowKit Go.BigFrame
set_option maxRecDepth 100000 in
set_option maxHeartbeats 8000000 in
theorem pMerge18_any (p q t : Nat) (ks : List Ky) (K R u : Value) (g : List Run) (xs : List (List V)) (most base : Int) (Gf : Nat) (first cap : Array Value) (Sk : Nat → St) (Zk : Nat → (Nat → Prop) → World → Prop) (bad : Prop) (Sb : St) (Zb : (Nat → Prop) → World → Prop) (O X : Nat → Prop) (w : World)
    (hS : Sink p ks g xs Gf first cap Sk Zk bad Sb Zb) (h : PSto O w p (Sk 0)) (hz : Zk 0 X w) (hX : ∀ b, X b → b < w.heap.size) (hox : ∀ b, O b → ¬ X b) (hp : ∃ pk, PurS w q ⟨most, base, pk⟩) (hb : Wk5 w t p q K 0 R) (hf : Fls w p g)
    (hqt : q ≠ t) (hoq : ¬ O q ∧ ¬ O t) (hxq : ¬ X q ∧ ¬ X t) (hF : ∀ r ∈ g, ∀ b, r.F b → ¬ O b ∧ ¬ X b ∧ b ≠ q ∧ b ≠ t)
    (hu : ∀ W, OnlyS (fun b => O b ∨ X b ∨ b = q ∨ b = t) w W → RdV W u (g.map ptrR)) (hK : ∀ W, OnlyS (fun b => O b ∨ X b ∨ b = q ∨ b = t) w W → RdKs W K ks) (hk : ks.length ≤ 1000000) (hg : g.length ≤ 16)
    (hfit : ∀ r ∈ g, FitB (sortS ks r.y)) (hm : ∀ r ∈ g, ∀ x ∈ r.y, mayR x = 0) (hc : ∀ r ∈ g, ∀ x ∈ r.y, rowCost x ≤ 1000000000) (hxs : xs = LosPure.mergeL (cmpR ks) (g.map fun r => sortS ks r.y)) :
    Calls Tryz.prog 68 #[.pointer (some ⟨t, 0, none⟩), u, .func (.func Gf) first cap] w (Merged18 p q t K R g xs most base Sk Zk bad Sb Zb O X w) := by
  obtain ⟨n, hn⟩ : ∃ n, g.length = n := ⟨_, rfl⟩
  have HN := Lib.hid hn
  have hn16 : n ≤ 16 := by omega
  obtain ⟨ua, uc, rfl, huc1, huc2, -⟩ := RdV.cellsAt (hu w (OnlyS.refl _ _))
  unfold maxLen at huc2
  rw [List.length_map, hn] at huc1 hu ⊢
  have HS := Lib.hid hS
  have HP := Lib.hid h
  have HZ := Lib.hid hz
  have HX := Lib.hid hX
  have HOX := Lib.hid hox
  have HPU := Lib.hid hp
  have HB := Lib.hid hb
  have HFL := Lib.hid hf
  have HQT := Lib.hid hqt
  have HOQ := Lib.hid hoq
  have HXQ := Lib.hid hxq
  have HF := Lib.hid hF
  have HU := Lib.hid hu
  have HK := Lib.hid hK
  have HFIT := Lib.hid hfit
  have HM := Lib.hid hm
  have HC := Lib.hid hc
  have HXS := Lib.hid hxs
  have HG := Lib.hid hg
  have hb0 : 0 ≤ base := by obtain ⟨pk, hp⟩ := hp; exact hp.ok.n0
  have HSM := Lib.hid (fun (r : Run) (hr : r ∈ g) (x : List V) (hx : x ∈ sortS ks r.y) => (sortS_perm ks r.y).mem_iff.1 hx)
  clear hS h hz hX hox hp hb hf hqt hoq hxq hF hu hK hfit hm hc hxs hg hn
  go_enter Tryz.func68, Tryz.ntmps68
  go_wp2_with fail
  go_cut [7, 8] from 16 to 21 (fun a b W => ∃ ca ha, a = .slice (some ⟨ca, 0, none⟩) n n ∧ b = .slice (some ⟨ha, 0, none⟩) n n ∧ Made18 w n ca ha W)
  case first =>
    obtain ⟨w1, hr1, ho1, hx1⟩ := make_ptrs w.drew n (by omega)
    obtain ⟨w2, hr2, ho2, hx2⟩ := make_heads w1 n (by omega)
    obtain ⟨w3, hr3, ho3, hx3⟩ := make_heads w.drew n (by omega)
    obtain ⟨w4, hr4, ho4, hx4⟩ := make_ptrs w3 n (by omega)
    have HA := Lib.hid (show Made18 w n w.drew.heap.size w1.heap.size w2 from ⟨owns_extS ho1 hx2, Joins.ownsRow_le ho2 hx1.size, fun e => by have := (ho1.lt w.drew.heap.size rfl).2; omega, Nat.le_refl _, hx1.size, Ext.trans (Ext.drew w) (Ext.trans hx1 hx2)⟩)
    have HBB := Lib.hid (show Made18 w n w3.heap.size w.drew.heap.size w4 from ⟨Joins.ownsRow_le ho4 hx3.size, owns_extS ho3 hx4, fun e => by have := (ho3.lt w.drew.heap.size rfl).2; omega, hx3.size, Nat.le_refl _, Ext.trans (Ext.drew w) (Ext.trans hx3 hx4)⟩)
    have HX1 := Lib.hid hx1
    have HX2 := Lib.hid hx2
    have HX3 := Lib.hid hx3
    have HX4 := Lib.hid hx4
    clear ho1 hx1 ho2 hx2 ho3 hx3 ho4 hx4
    refine wp_region_plan Ext Ext.keeps (.quiet [0, 1, 3, 4] (.two 2 (.quiet [6] (.one 5 (.quiet [7] .done))) 5 (.one 2 (.quiet [6, 7] .done)))) (by kernel_rfl) (by kernel_rfl) (fun c a a' w e h => (by exact ⟨e ▸ h.1, h.2⟩)) ?_
    refine wpPlan_quiet fun K0 hK0 => ?_
    simp only [pickOps, List.map_cons, List.map_nil, Option.getD_some, List.getElem?_toArray, List.getElem?_cons_zero, List.getElem?_cons_succ]
    repeat go_big_quiet_step (fail)
    refine wpQuiet_nil (hK0 _ ?_)
    clear hK0 K0
    refine wpPlan_two (fun K1 hK1 => ?_) (fun K1 hK1 => ?_)
    · simp only [pickOps, List.map_cons, List.map_nil, Option.getD_some, List.getElem?_toArray, List.getElem?_cons_zero, List.getElem?_cons_succ]
      go_wp2_with fail
      refine ⟨HX1.out, hK1 _ _ ?_⟩
      clear hK1 K1
      refine wpPlan_quiet fun K3 hK3 => ?_
      simp only [pickOps, List.map_cons, List.map_nil, Option.getD_some, List.getElem?_toArray, List.getElem?_cons_zero, List.getElem?_cons_succ]
      repeat go_big_quiet_step (fail)
      refine wpQuiet_nil (hK3 _ ?_)
      clear hK3 K3
      refine wpPlan_one fun K1 hK1 => ?_
      simp only [pickOps, List.map_cons, List.map_nil, Option.getD_some, List.getElem?_toArray, List.getElem?_cons_zero, List.getElem?_cons_succ]
      go_wp2_with fail
      refine ⟨HX2.out, hK1 _ _ ?_⟩
      clear hK1 K1
      refine wpPlan_quiet fun K3 hK3 => ?_
      simp only [pickOps, List.map_cons, List.map_nil, Option.getD_some, List.getElem?_toArray, List.getElem?_cons_zero, List.getElem?_cons_succ]
      repeat go_big_quiet_step (fail)
      refine wpQuiet_nil (hK3 _ ?_)
      clear hK3 K3
      refine wpPlan_done ?_
      go_wp2_with fail
      go_meet
      exact ⟨_, _, rfl, rfl, HA.out⟩
    · simp only [pickOps, List.map_cons, List.map_nil, Option.getD_some, List.getElem?_toArray, List.getElem?_cons_zero, List.getElem?_cons_succ]
      go_wp2_with fail
      refine ⟨HX3.out, hK1 _ _ ?_⟩
      clear hK1 K1
      refine wpPlan_one fun K1 hK1 => ?_
      simp only [pickOps, List.map_cons, List.map_nil, Option.getD_some, List.getElem?_toArray, List.getElem?_cons_zero, List.getElem?_cons_succ]
      go_wp2_with fail
      refine ⟨HX4.out, hK1 _ _ ?_⟩
      clear hK1 K1
      refine wpPlan_quiet fun K3 hK3 => ?_
      simp only [pickOps, List.map_cons, List.map_nil, Option.getD_some, List.getElem?_toArray, List.getElem?_cons_zero, List.getElem?_cons_succ]
      repeat go_big_quiet_step (fail)
      refine wpQuiet_nil (hK3 _ ?_)
      clear hK3 K3
      refine wpPlan_done ?_
      go_wp2_with fail
      go_meet
      exact ⟨_, _, rfl, rfl, HBB.out⟩
  case rest =>
  obtain ⟨ca, ha, rfl, rfl, hmade⟩ := hcut
  have HMD := Lib.hid hmade
  clear hmade
  generalize wc = wm at HMD ⊢
  go_wp2_with fail
  go_loopw [24] (fun iv wr => ∃ (j : Nat) (Z : Nat → Nat → Prop) (cv hs : List Value) (cur : List (List (List V))), j ≤ n ∧ iv = .int .i64 j ∧ Mg w.heap.size p q t ks K R (.slice (some ⟨ca, 0, none⟩) n n) (.slice (some ⟨ha, 0, none⟩) n n) g most base (fun i => i < j) (heldO cur) wr Z (Sk 0) cv hs cur ∧ Zk 0 (Z 1) wr ∧ cur = (g.take j).map (fun r => sortS ks r.y) ++ List.replicate (n - j) [] ∧ Orig q t O X w.heap.size Z ∧ OnlyS (fun b => O b ∨ X b ∨ b = q ∨ b = t) w wr) (fun iv _ => n - (intOf iv).toNat)
  case atStart =>
    obtain ⟨m1, m2, m3, m4, m5, m6⟩ := HMD.out
    have hs0 := m6.size
    have hFL := HFL.out
    have hheld : heldO (List.replicate n ([] : List (List V))) = 0 := by
      rw [heldO_eq, List.map_replicate]
      show (List.replicate n (0 : Int)).sum = 0
      simp
    refine ⟨0, Z0m O X q t g ca ha, List.replicate n (.pointer none), List.replicate n (.slice none 0 0), List.replicate n [], Nat.zero_le _, rfl, ?_, HS.out.keep 0 X w wm (fun _ => False) HZ.out (OnlyS.of_ext m6) (fun _ h => h.elim), by simp, fun i b hb => ?_, OnlyS.of_ext m6⟩
    · have hfam := z0_fam (g := g) hs0 HP.out.lt HX.out HOX.out (by obtain ⟨pk, hp⟩ := HPU.out; exact hp.lt) HB.out.lt HQT.out HOQ.out HXQ.out (fun r hr b hb => ⟨(hFL.fil r hr).lt hb, HF.out r hr b hb⟩) ⟨m4, (m1.lt ca rfl).2⟩ ⟨m5, (m2.lt ha rfl).2⟩ m3
      rw [hheld]
      have hN := HN.out
      obtain ⟨pk, hpu⟩ := HPU.out
      exact ⟨hfam, HP.out.mono m6, HS.out.ok 0 (Nat.zero_le _), ⟨pk, by rw [Int.add_zero]; exact hpu.ext m6⟩, HB.out.ext m6, rfl, rfl, hFL.keep (OnlyS.of_ext (X := fun _ => False) m6) (fun _ _ _ h => h.elim), fun r hr b hb => ⟨r, hr, hb⟩, HS.out.hold 0 (Nat.zero_le _), by rw [hN]; exact m1, fun b hb => (Option.some.inj hb).symm, by rw [hN]; exact m2, fun b hb => (Option.some.inj hb).symm, by rw [hN, List.length_replicate], fun i hi => absurd hi (Nat.not_lt_zero _), fun i hi => absurd hi (Nat.not_lt_zero _)⟩
    · match i, hb with
      | 0, hb => exact .inr (.inl ⟨rfl, hb⟩)
      | 1, hb => exact .inr (.inr (.inl ⟨rfl, hb⟩))
      | 2, hb => exact hb.elim
      | 3, hb => exact .inr (.inr (.inr (.inl ⟨rfl, hb⟩)))
      | 4, hb => exact .inr (.inr (.inr (.inr (.inl ⟨rfl, hb⟩))))
      | 5, hb => exact .inl rfl
      | 6, hb => exact .inr (.inr (.inr (.inr (.inr (by rw [show b = ca from hb]; exact m4)))))
      | 7, hb => exact .inr (.inr (.inr (.inr (.inr (by rw [show b = ha from hb]; exact m5)))))
      | _ + 8, hb => exact hb.elim
  case round =>
    obtain ⟨j, Z, cv, hs, cur, hj, rfl, hM, hZ, hcur, hO, ho⟩ := hrel
    have HMG := Lib.hid hM
    have HZK := Lib.hid hZ
    have HCUR := Lib.hid hcur
    have HOR := Lib.hid hO
    have HON := Lib.hid ho
    clear hM hZ hcur hO ho
    by_cases hlt : j < n
    · have hjg : j < g.length := by rw [HN.out]; exact hlt
      have hgj : g[j]? = some g[j] := List.getElem?_eq_getElem hjg
      obtain ⟨gu, offu, rfl, c0⟩ := (RdV.plainV (HU.out wr HON.out)).2.2.2 j (ptrR g[j]) (by rw [List.getElem?_map, hgj]; rfl)
      unfold ptrR at c0
      have hlen : (sortS ks g[j].y).length = g[j].y.length := (sortS_perm ks g[j].y).length_eq
      have HFI := HMG.out.fls.fil g[j] (List.getElem_mem hjg)
      rw [← hlen] at HFI
      have HOP := Lib.hid (pOpen17_any g[j].F g[j].f p g[j].ids (sortS ks g[j].y) wr HFI)
      go_wp2_with fail
      refine HOP.out.mono ?_
      rintro e w1 ⟨⟨c, C, rfl, hC, hCn⟩, hx1⟩
      have HM1 := Lib.hid (HMG.out.turn (P' := fun i => i < j) (fun i => i = 8 + 2 * j) (OnlyS.of_ext hx1) (HMG.out.fam.set1 (8 + 2 * j) hx1.size (fun x hx => ⟨.inr (hCn x hx), hC.lt hx⟩)) (fun i hi => setZ_other Z C hi) (fun i h => h) (fun i hi => ⟨by omega, by omega⟩) (.inl ⟨by omega, rfl⟩) (.inl ⟨by omega, by omega, rfl⟩) (by omega) (.inl ⟨by omega, rfl⟩) (.inl ⟨by omega, rfl⟩) (fun _ _ => rfl) (fun _ _ => rfl))
      obtain ⟨b1, c1, hCA, ⟨u1, y1⟩, f1, hwc⟩ := HM1.out.writeC hjg (Nat.lt_irrefl j)
      simp only [Value.slice.injEq, Option.some.injEq, Addr.mk.injEq, and_true] at hCA
      obtain ⟨rfl, -, rfl⟩ := hCA
      obtain ⟨hM2, ho2⟩ := hwc (.pointer (some ⟨c, 0, none⟩))
      have hC2 : Cur (setZ Z (8 + 2 * j) C (8 + 2 * j)) (w1.setCell ⟨ca, j, none⟩ (.pointer (some ⟨c, 0, none⟩))) c g[j].f p g[j].ids (sortS ks g[j].y) 0 := by
        have h1 : Cur (setZ Z (8 + 2 * j) C (8 + 2 * j)) w1 c g[j].f p g[j].ids (sortS ks g[j].y) 0 := by rw [setZ_same]; exact hC
        exact h1.keep ho2 fun b h7 => HM1.out.fam.dis 6 (8 + 2 * j) (by omega) b h7
      have hwsz : w.heap.size ≤ (w1.setCell ⟨ca, j, none⟩ (.pointer (some ⟨c, 0, none⟩))).heap.size := Nat.le_trans HON.out.size (Nat.le_trans hx1.size ho2.size)
      have HNX := Lib.hid (pMgNext_any hM2 hwsz hgj (Nat.lt_irrefl j) (Nat.zero_le _) hC2 HQT.out (HFIT.out g[j] (List.getElem_mem hjg)) (HM.out g[j] (List.getElem_mem hjg)) (HC.out g[j] (List.getElem_mem hjg)) (heldO_nonneg cur) hb0)
      have HOR1 := Lib.hid (HOR.out.set (a := 8 + 2 * j) (A := C) fun b hb => .inr (Nat.le_trans HON.out.size (hCn b hb)))
      have HZ1 := Lib.hid (HS.out.keep 0 (Z 1) wr w1 (fun _ => False) HZK.out (OnlyS.of_ext hx1) fun _ h => h.elim)
      have HON1 := Lib.hid (HOR1.out.only (OnlyS.trans HON.out (OnlyS.of_ext (X := fun _ => False) hx1) fun _ _ h => h.elim) (S := fun i => i = 6) (by decide) (ho2.mono fun b _ hb => ⟨6, rfl, hb⟩))
      have HZ2 := Lib.hid (HS.out.keep 0 (Z 1) w1 _ _ HZ1.out ho2 fun b h7 h8 => by
        refine HM1.out.fam.dis 6 1 (by decide) b h7 ?_
        rw [setZ_other Z C (by omega)]
        exact h8)
      have HMG2 := Lib.hid hM2
      clear hC hCn hx1 hwc hM2 ho2 hC2 hwsz HOP HFI hlen
      go_wp2_with fail
      refine HNX.out.mono ?_
      rintro e w3 ⟨Z3, z0, z3, z4, z5, z6, z7, ho3, ⟨v, rfl, hM3, hv, hC3⟩ | ⟨rfl, hlt3, hM3⟩⟩
      · obtain ⟨va, vn, vc, rfl⟩ := hv.opt.shape
        have hcv : (cv.set j (.pointer (some ⟨c, 0, none⟩)))[j]? = some (.pointer (some ⟨c, 0, none⟩)) := List.getElem?_set_self (by have := hM3.ca.1; rw [List.length_set] at this; omega)
        obtain ⟨b4, c4, hHA, ⟨u4, y4⟩, f4, hM4, ho4⟩ := hM3.put hgj (Nat.lt_irrefl j) hv ⟨c, 0, hcv, Nat.zero_le _, rfl, hC3⟩
        simp only [Value.slice.injEq, Option.some.injEq, Addr.mk.injEq, and_true] at hHA
        obtain ⟨rfl, -, rfl⟩ := hHA
        have hn1 : ¬ ZN j 1 := by unfold ZN; omega
        have hz1 : Z3 1 = Z 1 := by rw [z0 1 hn1, setZ_other Z C (by omega)]
        have HZ3 := HS.out.keep 0 (Z 1) _ w3 _ HZ2.out ho3 fun b h7 h8 => by
          refine HMG2.out.fam.other hn1 b h7 ?_
          rw [setZ_other Z C (by omega)]
          exact h8
        have HZ4 := Lib.hid (HS.out.keep 0 (Z 1) _ _ _ HZ3 ho4 fun b h7 h8 => hM4.fam.dis 7 1 (by decide) b h7 (by rw [hz1]; exact h8))
        have HOR3 := Lib.hid (HOR1.out.next (i0 := j) HON1.out.size z0 z3 z4 z5 z6 z7)
        have HON4 := Lib.hid (HOR3.out.only (HOR1.out.only HON1.out (S := ZN j) (by unfold ZN; omega) ho3) (S := fun i => i = 7) (by decide) (ho4.mono fun b _ hb => ⟨7, rfl, hb⟩))
        have HM4 := Lib.hid hM4
        have HE1 := Lib.hid hz1
        clear hM3 hv hC3 hM4 ho4 ho3 z0 z3 z4 z5 z6 z7 hcv HZ3 hz1 c0 y1 f1
        go_wp2_with fail
        go_roundw
        case rel =>
          obtain ⟨p1, p2⟩ := part_fill g (fun r => sortS ks r.y) [] n j HN.out hjg
          have hcur := HCUR.out
          refine ⟨j + 1, Z3, cv.set j (.pointer (some ⟨c, 0, none⟩)), hs.set j (.slice va vn vc), cur.set j ((sortS ks g[j].y).drop 0), by omega, by go_num, ?_, by rw [HE1.out]; exact HZ4.out, by rw [hcur]; exact p2, HOR3.out, HON4.out⟩
          have hheld : heldO cur + costH ((sortS ks g[j].y).drop 0) = heldO (cur.set j ((sortS ks g[j].y).drop 0)) := by
            rw [heldO_set (l := []) (by rw [hcur]; exact p1)]
            have e : costH [] = 0 := rfl
            omega
          have hM := HM4.out.weak (Q := fun i => i < j + 1) fun i hi => by omega
          rw [hheld] at hM
          exact hM
        case measure => simp [intOf]; omega
      · obtain ⟨b4, c4, hHA, ⟨u4, y4⟩, f4, hwh⟩ := hM3.writeH hjg (Nat.lt_irrefl j)
        obtain ⟨hM4, ho4⟩ := hwh (.slice none 0 0)
        simp only [Value.slice.injEq, Option.some.injEq, Addr.mk.injEq, and_true] at hHA
        obtain ⟨rfl, -, rfl⟩ := hHA
        have hn1 : ¬ ZN j 1 := by unfold ZN; omega
        have hz1 : Z3 1 = Z 1 := by rw [z0 1 hn1, setZ_other Z C (by omega)]
        have HZ3 := HS.out.keep 0 (Z 1) _ w3 _ HZ2.out ho3 fun b h7 h8 => by
          refine HMG2.out.fam.other hn1 b h7 ?_
          rw [setZ_other Z C (by omega)]
          exact h8
        have HZ4 := Lib.hid (HS.out.keep 0 (Z 1) _ _ _ HZ3 ho4 fun b h7 h8 => hM4.fam.dis 7 1 (by decide) b h7 (by rw [hz1]; exact h8))
        have HOR3 := Lib.hid (HOR1.out.next (i0 := j) HON1.out.size z0 z3 z4 z5 z6 z7)
        have HON4 := Lib.hid (HOR3.out.only (HOR1.out.only HON1.out (S := ZN j) (by unfold ZN; omega) ho3) (S := fun i => i = 7) (by decide) (ho4.mono fun b _ hb => ⟨7, rfl, hb⟩))
        have HM4 := Lib.hid hM4
        have HE1 := Lib.hid hz1
        have HLT := Lib.hid hlt3
        clear hM3 hM4 ho4 ho3 z0 z3 z4 z5 z6 z7 HZ3 hz1 c0 y1 f1 hlt3 hwh
        go_wp2_with fail
        go_ret
        obtain ⟨p1, p2⟩ := part_fill g (fun r => sortS ks r.y) [] n j HN.out hjg
        have hcur := HCUR.out
        have hbd := HMG.out.bounds
        refine HM4.out.ends HOR3.out HON4.out (heldO_nonneg cur) (.inr (.inl ⟨rfl, ?_, 0, Nat.zero_le _, rfl, by rw [HE1.out]; exact HZ4.out⟩))
        have e0 : costH [] = 0 := rfl
        refine too_much (cur := cur) (i0 := j) (l := []) HMG.out.cl (by rw [hcur]; exact p1) (sortS ks g[j].y) (fun m hm x hx => ?_) (by have h5 := HLT.out; rw [List.drop_zero] at h5; omega) (by omega)
        rw [hcur, p2] at hm
        rcases List.mem_append.1 hm with hm | hm
        · obtain ⟨r, hr, rfl⟩ := List.mem_map.1 hm
          exact ⟨r, List.mem_of_mem_take hr, HSM.out r (List.mem_of_mem_take hr) x (head_mem hx)⟩
        · rw [List.eq_of_mem_replicate hm] at hx
          cases hx
    · obtain rfl : j = n := by omega
      have hcur : cur = g.map fun r => sortS ks r.y := by
        have := HCUR.out
        rw [Nat.sub_self, List.take_of_length_le (by have := HN.out; omega)] at this
        simpa using this
      have HM0 := Lib.hid ((HMG.out.weak (Q := fun i => i < g.length) fun i hi => by have := HN.out; omega).all)
      have HFT := Lib.hid (HM0.out.fit HFIT.out)
      have HNEW := Lib.hid (pNew16_any (.slice (some ⟨ha, 0, none⟩) j j) K hs (cur.map List.head?) ks wr wr (Ext.keeps.refl _) (RdV.of_owns HM0.out.ha) HM0.out.opts (HK.out wr HON.out) hk (fun x hx => (HFT.out x hx).1) (fun x hx => (HFT.out x hx).2) (by rw [List.length_map, HM0.out.cl, HN.out]; omega))
      have hl16 : ¬ 16 < (cur.map List.head?).length := by rw [List.length_map, HM0.out.cl, HN.out]; omega
      have HL16 := Lib.hid hl16
      have c2 := HM0.out.blk.cell 2 _ rfl
      have HCU := Lib.hid hcur
      obtain ⟨ka, kc, hKs, -, -⟩ := (HK.out wr HON.out).shape
      subst hKs
      clear hl16 hcur
      go_wp2_with fail
      refine HNEW.out.mono ?_
      rintro e w1 ⟨⟨h16, -⟩ | ⟨-, tp, T, nn, rfl, hT, -, -, hTn⟩, hx1⟩
      · exact absurd h16 HL16.out
      have HT := Lib.hid hT
      have HM1 := Lib.hid (HM0.out.one (a := 2) (.inr rfl) (A := T) (OnlyS.of_ext hx1) fun x hx => ⟨.inr (hTn x hx), (hT.lt hx).2⟩)
      have HOR1 := Lib.hid (HOR.out.set (a := 2) (A := T) fun b hb => .inr (Nat.le_trans HON.out.size (hTn b hb)))
      have HON1 := Lib.hid (show OnlyS (fun b => O b ∨ X b ∨ b = q ∨ b = t) w w1 from OnlyS.trans HON.out (OnlyS.of_ext (X := fun _ => False) hx1) fun _ _ h => h.elim)
      have HZ1 := Lib.hid (HS.out.keep 0 (Z 1) wr w1 (fun _ => False) HZK.out (OnlyS.of_ext hx1) fun _ h => h.elim)
      have HNX := Lib.hid (pNext16_any _ T tp _ ks nn w1 hT)
      clear hT hTn hx1 HNEW c2
      go_wp2_with fail
      refine HNX.out.mono ?_
      rintro e w2 ⟨rfl, ho2, T', hT', hTn'⟩
      have HM2 := Lib.hid (HM1.out.one (a := 2) (.inr rfl) (A := T') (ho2.mono fun b _ hb => by rw [setZ_same]; exact hb) fun x hx => ⟨by rw [setZ_same]; exact hTn' x hx, (hT'.lt hx).2⟩)
      have HLP0 := Lib.hid (show LpM w.heap.size p q t ks (.slice ka ks.length kc) R (.slice (some ⟨ca, 0, none⟩) j j) (.slice (some ⟨ha, 0, none⟩) j j) g most base xs Sk Zk O X w wr.heap.size tp 0 (.int .i64 (nextI ks (cur.map List.head?))) (.bool (nextB ks (cur.map List.head?))) w2 from by
        refine ⟨Nat.zero_le _, _, _, _, cur, nn, rfl, rfl, HM2.out, ?_, ?_, ?_, ?_, ?_⟩
        · rw [setZ_other _ _ (by decide), setZ_other _ _ (by decide)]
          exact HS.out.keep 0 (Z 1) w1 w2 _ HZ1.out ho2 fun b h7 h8 => HM1.out.fam.dis 2 1 (by decide) b (by rw [setZ_same]; exact h7) (by rw [setZ_other Z T (by decide)]; exact h8)
        · rw [setZ_same]
          exact hT'
        · rw [HCU.out, List.drop_zero, HXS.out]
        · exact HOR1.out.set (a := 2) (A := T') fun b hb => by
            rw [setZ_same]
            exact (hTn' b hb).imp id fun h => Nat.le_trans HON1.out.size h
        · exact HOR1.out.only HON1.out (S := fun i => i = 2) (by decide) (ho2.mono fun b _ hb => ⟨2, rfl, by rw [setZ_same]; exact hb⟩))
      clear ho2 hT' hTn' HM2
      go_wp2_with fail
      generalize nextI ks (cur.map List.head?) = I0 at HLP0 ⊢
      generalize nextB ks (cur.map List.head?) = B0 at HLP0 ⊢
      clear HM1 HOR1 HON1 HZ1 HNX HM0 HFT HL16 HCU HMG HZK HCUR HOR HON HT
      generalize hBt : wr.heap.size = Bt at HLP0
      clear hBt
      clear wr
      go_loopw [13, 14] (fun iv ov wr => ∃ k, k ≤ xs.length ∧ LpM w.heap.size p q t ks (.slice ka ks.length kc) R (.slice (some ⟨ca, 0, none⟩) j j) (.slice (some ⟨ha, 0, none⟩) j j) g most base xs Sk Zk O X w Bt tp k iv ov wr) (fun iv ov wr => xs.length - maxK (fun k => LpM w.heap.size p q t ks (.slice ka ks.length kc) R (.slice (some ⟨ca, 0, none⟩) j j) (.slice (some ⟨ha, 0, none⟩) j j) g most base xs Sk Zk O X w Bt tp k iv ov wr) xs.length)
      case atStart => exact ⟨0, Nat.zero_le _, HLP0.out⟩
      case round =>
        obtain ⟨k, hlp, hkn, hkm⟩ := maxK_get hrel
        have HMK := Lib.hid hkm
        clear hrel hkm
        obtain ⟨-, Z, cv, hs, cur, nn, rfl, rfl, hM, hZ, hT, hmg, hO, ho⟩ := hlp
        have HMG := Lib.hid hM
        have HZK := Lib.hid hZ
        have HT := Lib.hid hT
        have HL := Lib.hid hmg
        have HOR := Lib.hid hO
        have HON := Lib.hid ho
        clear hM hZ hT hmg hO ho
        obtain ⟨bb, hbb⟩ : ∃ bb, nextB ks (cur.map List.head?) = bb := ⟨_, rfl⟩
        rw [hbb] at HMK ⊢
        cases bb with
        | false =>
          have hns : LosPure.nextS (cmpR ks) (cur.map List.head?) = none := by
            unfold nextB at hbb
            cases hn : LosPure.nextS (cmpR ks) (cur.map List.head?) with
            | none => rfl
            | some i => rw [hn] at hbb; cases hbb
          have HNS := Lib.hid hns
          clear hns hbb
          go_wp2_with fail
          go_ret
          have hl := HL.out
          rw [merge_done HNS.out] at hl
          have hle : xs.length ≤ k := List.drop_eq_nil_iff.1 hl.symm
          obtain rfl : k = xs.length := by omega
          have h0 := heldO_none (LosPure.next_none (cmpR_pre ks) HNS.out)
          exact HMG.out.ends HOR.out HON.out (heldO_nonneg cur) (.inl ⟨rfl, h0, rfl, HZK.out⟩)
        | true =>
          obtain ⟨i, x, tl, hI, hci, hns⟩ := nextI_at hbb
          rw [hI] at HMK ⊢
          have hstep := merge_step hns hci
          rw [HL.out] at hstep
          have hkx : k < xs.length := by
            rcases Nat.lt_or_ge k xs.length with h | h
            · exact h
            · rw [List.drop_eq_nil_of_le h] at hstep; cases hstep
          rw [List.drop_eq_getElem_cons hkx] at hstep
          simp only [List.cons.injEq] at hstep
          obtain ⟨hxk, hrest⟩ := hstep
          have hil : i < g.length := by rw [← HMG.out.cl]; exact (List.getElem?_eq_some_iff.1 hci).1
          have hij : i < j := by rw [← HN.out]; exact hil
          have hgi : g[i]? = some g[i] := List.getElem?_eq_getElem hil
          have hhl : hs.length = g.length := by simpa using HMG.out.ha.1
          have hvi : hs[i]? = some hs[i] := List.getElem?_eq_getElem (by omega)
          have hha := HMG.out.ha
          rw [HN.out] at hha
          have hcell : wr.cell? ⟨ha, i, none⟩ = some hs[i] := (hha.cellAt i (by omega)).trans hvi
          clear hha
          have hhd := HMG.out.hd i trivial hs[i] (x :: tl) hvi hci
          obtain ⟨c, m, hcv, hmle, hdrop, hcu⟩ := HMG.out.cu i trivial g[i] (x :: tl) hgi hci
          generalize hv : hs[i] = v at hcell hhd
          obtain ⟨va, vc, rfl, -, -⟩ := own_shapeG hhd.1.1
          have HCALL := Lib.hid (HS.out.call k hkx (Z 0) (Z 1) wr w.heap.size _ HMG.out.sto HZK.out (HMG.out.fam.dis 0 1 (by decide)) (by rw [hxk]; exact hhd.1.1) fun b hb => ⟨fun h2 => HMG.out.fam.dis 0 (9 + 2 * i) (by omega) b h2 (hhd.2 b hb), fun h2 => HMG.out.fam.dis 1 (9 + 2 * i) (by omega) b h2 (hhd.2 b hb)⟩)
          have HHD := Lib.hid hhd
          have hent := HS.out.enter
          have HCI := Lib.hid hci
          have HREST := Lib.hid hrest
          have HNS := Lib.hid hns
          have HCV := Lib.hid hcv
          have HDR := Lib.hid hdrop
          have HCUR := Lib.hid hcu
          have HVI := Lib.hid (hvi.trans (by rw [hv]))
          clear hI hns hxk hrest hhd hcv hdrop hcu hvi hv hci hbb
          go_wp2_with fail
          have HHD0 := HHD.out
          rw [← Array.push_eq_append] at HCALL
          refine HCALL.out.mono ?_
          rintro e w1 ⟨E, O', X', rfl, ho1, hO', hX', hOX', ⟨rfl, hp1, hz1⟩ | ⟨rfl, hbad, hp1, hz1⟩⟩
          · have hon : OnlyS (fun b => ∃ a, (a = 0 ∨ a = 1 ∨ a = 9 + 2 * i) ∧ Z a b) wr w1 := ho1.mono fun b _ hb => hb.elim (fun h => ⟨0, .inl rfl, h⟩) fun h => ⟨1, .inr (.inl rfl), h⟩
            have HM1 := Lib.hid (HMG.out.turn (P' := fun a => a ≠ i) (Z' := setZ3 Z 0 1 (9 + 2 * i) O' X' (fun _ => False)) (held' := heldO cur) (fun a => a = 0 ∨ a = 1 ∨ a = 9 + 2 * i) hon
              (HMG.out.fam.set3 (by omega) (by omega) (by omega) ho1.size (fun b hb => ⟨(hO' b hb).elim .inl fun h => .inr (.inr (.inr h)), hp1.lt b hb⟩) (fun b hb => ⟨by
                rcases (hX' b hb).1 with h2 | h2 | h2
                · exact .inr (.inl h2)
                · exact .inr (.inr (.inl (HHD0.2 b h2)))
                · exact .inr (.inr (.inr h2)), (hX' b hb).2⟩) (fun _ h => h.elim) hOX' (fun _ _ h => h) fun _ _ h => h)
              (fun a ha => setZ3_o Z O' X' _ (fun e => ha (.inl e)) (fun e => ha (.inr (.inl e))) (fun e => ha (.inr (.inr e)))) (fun _ _ => trivial) (fun a ha => ⟨by omega, by omega⟩) (.inr ⟨by rw [setZ3_a]; exact hp1, HS.out.ok (k + 1) hkx, HS.out.hold (k + 1) hkx⟩) (.inl ⟨by omega, by omega, rfl⟩) (by omega) (.inl ⟨by omega, rfl⟩) (.inl ⟨by omega, rfl⟩) (fun _ _ => rfl) (fun _ _ => rfl))
            have hz18 : setZ3 Z 0 1 (9 + 2 * i) O' X' (fun _ => False) (8 + 2 * i) = Z (8 + 2 * i) := setZ3_o Z O' X' _ (by omega) (by omega) (by omega)
            have hz12 : setZ3 Z 0 1 (9 + 2 * i) O' X' (fun _ => False) 2 = Z 2 := setZ3_o Z O' X' _ (by omega) (by omega) (by omega)
            have hz11 : setZ3 Z 0 1 (9 + 2 * i) O' X' (fun _ => False) 1 = X' := setZ3_b Z _ O' X' _ (by omega)
            have HCU1 := Lib.hid (show Cur (setZ3 Z 0 1 (9 + 2 * i) O' X' (fun _ => False) (8 + 2 * i)) w1 c g[i].f p g[i].ids (sortS ks g[i].y) (min (m + 1) (sortS ks g[i].y).length) from by
              rw [hz18]
              exact HCUR.out.keep hon fun b h2 => HMG.out.fam.other (S := fun a => a = 0 ∨ a = 1 ∨ a = 9 + 2 * i) (by omega) b h2)
            have HT1 := Lib.hid (show Tre Bt (setZ3 Z 0 1 (9 + 2 * i) O' X' (fun _ => False) 2) w1 tp (cur.map List.head?) ks nn from by
              rw [hz12]
              exact HT.out.others hon fun b h2 => HMG.out.fam.other (S := fun a => a = 0 ∨ a = 1 ∨ a = 9 + 2 * i) (by omega) b h2)
            have HZ1 := Lib.hid (show Zk (k + 1) (setZ3 Z 0 1 (9 + 2 * i) O' X' (fun _ => False) 1) w1 from by rw [hz11]; exact hz1)
            have HOR1 := Lib.hid (show Orig q t O X w.heap.size (setZ3 Z 0 1 (9 + 2 * i) O' X' (fun _ => False)) from HOR.out.step fun a b hb => by
              have hsz := HON.out.size
              by_cases h1 : a = 0
              · subst h1
                rw [setZ3_a] at hb
                exact (hO' b hb).imp id fun h => Nat.le_trans hsz h
              · by_cases h2 : a = 1
                · subst h2
                  rw [hz11] at hb
                  rcases (hX' b hb).1 with h3 | h3 | h3
                  · exact .inl h3
                  · have h4 := HHD0.2 b h3
                    rcases HOR.out (9 + 2 * i) b h4 with h5 | ⟨h5, -⟩ | ⟨h5, -⟩ | ⟨h5, -⟩ | ⟨h5, -⟩ | h5
                    · omega
                    · omega
                    · omega
                    · omega
                    · omega
                    · exact .inr h5
                  · exact .inr (Nat.le_trans hsz h3)
                · by_cases h3 : a = 9 + 2 * i
                  · subst h3
                    rw [setZ3_c Z O' X' _ (by omega) (by omega)] at hb
                    exact hb.elim
                  · rw [setZ3_o Z O' X' _ h1 h2 h3] at hb
                    exact .inl hb)
            have HON1 := Lib.hid (HOR.out.only HON.out (S := fun a => a = 0 ∨ a = 1 ∨ a = 9 + 2 * i) (by omega) hon)
            have HRD := Lib.hid (show RdVals w1 (.slice va x.length vc) x from RdVals.of_owns (own_others HHD0.1.1 ho1 fun b hb h2 => h2.elim (fun h3 => HMG.out.fam.dis 0 (9 + 2 * i) (by omega) b h3 (HHD0.2 b hb)) fun h3 => HMG.out.fam.dis 1 (9 + 2 * i) (by omega) b h3 (HHD0.2 b hb)))
            have hcle := heldO_le HCI.out
            have hcx : costH (x :: tl) = rowCost x := rfl
            rw [hcx] at hcle
            have hbd1 := HM1.out.bounds
            obtain ⟨pk1, hpu1⟩ := HM1.out.pur
            have HGV := Lib.hid (pGive18_any t p q _ R (heldO cur) ⟨most, base + heldO cur, pk1⟩ _ x w1 HM1.out.blk hpu1 HQT.out HRD.out hcle (by simp only; omega))
            have hha1 := HM1.out.ha
            rw [HN.out] at hha1
            have hc1 : w1.cell? ⟨ha, i, none⟩ = some (.slice va x.length vc) := (hha1.cellAt i (by omega)).trans HVI.out
            clear hha1 hpu1 hbd1 hp1 hz1 hO' hX' hOX' ho1 hon hz18 hz12 hz11 HHD0 HHD hcell
            generalize setZ3 Z 0 1 (9 + 2 * i) O' X' (fun _ => False) = Z1 at HM1 HCU1 HT1 HZ1 HOR1
            have HCLE := Lib.hid hcle
            clear hcle hcx
            go_wp2_with fail
            refine HGV.out.mono ?_
            rintro e w2 ⟨rfl, ho2, hpu2, hb2⟩
            have hon2 : OnlyS (fun b => ∃ a, (a = 3 ∨ a = 4) ∧ Z1 a b) w1 w2 := ho2.mono fun b _ hb => by
              rcases hb with rfl | rfl
              · exact ⟨4, .inr rfl, HM1.out.zq⟩
              · exact ⟨3, .inl rfl, HM1.out.zt⟩
            have HM2 := Lib.hid (HM1.out.turn (P' := fun a => a ≠ i) (Z' := Z1) (held' := heldO cur - rowCost x) (s' := Sk (k + 1)) (fun a => a = 3 ∨ a = 4) hon2 (HM1.out.fam.later ho2.size) (fun _ _ => rfl) (fun _ h => h) (fun a ha => ⟨by omega, by omega⟩) (.inl ⟨by omega, rfl⟩) (.inr ⟨HM1.out.zt, HM1.out.zq, ⟨pk1, by
              have e : base + (heldO cur - rowCost x) = base + heldO cur - rowCost x := by omega
              rw [e]
              exact hpu2⟩, hb2⟩) (by omega) (.inl ⟨by omega, rfl⟩) (.inl ⟨by omega, rfl⟩) (fun _ _ => rfl) (fun _ _ => rfl))
            have hdl : m < (sortS ks g[i].y).length := by
              rcases Nat.lt_or_ge m (sortS ks g[i].y).length with h | h
              · exact h
              · have := HDR.out
                rw [List.drop_eq_nil_of_le h] at this
                cases this
            have htl : tl = (sortS ks g[i].y).drop (m + 1) := by
              have := HDR.out
              rw [List.drop_eq_getElem_cons hdl] at this
              simp only [List.cons.injEq] at this
              exact this.2
            have hmin : min (m + 1) (sortS ks g[i].y).length = m + 1 := by omega
            have hcu2 : Cur (Z1 (8 + 2 * i)) w2 c g[i].f p g[i].ids (sortS ks g[i].y) (m + 1) := by
              have := HCU1.out
              rw [hmin] at this
              exact this.keep hon2 fun b h2 => HM1.out.fam.other (S := fun a => a = 3 ∨ a = 4) (by omega) b h2
            have HT2 := Lib.hid (HT1.out.others hon2 fun b h2 => HM1.out.fam.other (S := fun a => a = 3 ∨ a = 4) (by omega) b h2)
            have HZ2 := Lib.hid (HS.out.keep (k + 1) (Z1 1) w1 w2 _ HZ1.out hon2 fun b h2 => HM1.out.fam.other (S := fun a => a = 3 ∨ a = 4) (by omega) b h2)
            have HON2 := Lib.hid (HOR1.out.only HON1.out (S := fun a => a = 3 ∨ a = 4) (by omega) hon2)
            have hheld0 : 0 ≤ heldO cur - rowCost x := by have := HCLE.out; omega
            have HNXT := Lib.hid (pMgNext_any HM2.out HON2.out.size hgi (fun h => h rfl) (Nat.succ_le_of_lt hdl) hcu2 HQT.out (HFIT.out g[i] (List.getElem_mem hil)) (HM.out g[i] (List.getElem_mem hil)) (HC.out g[i] (List.getElem_mem hil)) hheld0 hb0)
            have hca2 := HM2.out.ca
            rw [HN.out] at hca2
            have hc2 : w2.cell? ⟨ca, i, none⟩ = some (.pointer (some ⟨c, 0, none⟩)) := (hca2.cellAt i (by omega)).trans HCV.out
            have HTL := Lib.hid htl
            have HDL := Lib.hid hdl
            clear hca2 htl hdl hmin hcu2 ho2 hpu2 hb2 hon2 hc1 HGV HRD hheld0
            go_wp2_with fail
            refine HNXT.out.mono ?_
            rintro e w3 ⟨Z3, z0, z3, z4, z5, z6, z7, ho3, ⟨v3, rfl, hM3, hv3, hC3⟩ | ⟨rfl, hlt3, hM3⟩⟩
            · obtain ⟨v1, v2, v4, rfl⟩ := hv3.opt.shape
              obtain ⟨b4, c4, hHA, ⟨u4, y4⟩, f4, hM4, ho4⟩ := hM3.put hgi (fun h => h rfl) hv3 ⟨c, m + 1, HCV.out, Nat.succ_le_of_lt HDL.out, rfl, hC3⟩
              simp only [Value.slice.injEq, Option.some.injEq, Addr.mk.injEq, and_true] at hHA
              obtain ⟨rfl, -, rfl⟩ := hHA
              have hn1 : ¬ ZN i 1 := by unfold ZN; omega
              have hn2 : ¬ ZN i 2 := by unfold ZN; omega
              have hz1 := z0 1 hn1
              have hz2 := z0 2 hn2
              have HZ4 := Lib.hid (HS.out.keep (k + 1) (Z1 1) _ _ _ (HS.out.keep (k + 1) (Z1 1) _ w3 _ HZ2.out ho3 fun b h7 => HM2.out.fam.other hn1 b h7) ho4 fun b h7 h8 => hM4.fam.dis 7 1 (by decide) b h7 (by rw [hz1]; exact h8))
              have HT4 := Lib.hid ((HT2.out.others ho3 fun b h7 => HM2.out.fam.other hn2 b h7).others ho4 fun b h7 h8 => hM4.fam.dis 7 2 (by decide) b h7 (by rw [hz2]; exact h8))
              have HOR3 := Lib.hid (HOR1.out.next (i0 := i) HON2.out.size z0 z3 z4 z5 z6 z7)
              have HON4 := Lib.hid (HOR3.out.only (HOR1.out.only HON2.out (S := ZN i) (by unfold ZN; omega) ho3) (S := fun a => a = 7) (by decide) (ho4.mono fun b _ hb => ⟨7, rfl, hb⟩))
              have HM4 := Lib.hid (hM4.weak (Q := fun _ => True) fun a _ => (Classical.em (a = i)).elim .inr .inl)
              have hov : OptV (w3.setCell ⟨ha, i, none⟩ (.slice v1 v2 v4)) (.slice v1 v2 v4) tl.head? := by
                rw [HTL.out]
                exact (hv3.others ho4 fun b hb h7 => hM3.fam.dis 7 (9 + 2 * i) (by omega) b h7 (by
                  cases hh : ((sortS ks g[i].y).drop (m + 1)).head? with
                  | none => rw [hh] at hv3; rw [show Value.slice v1 v2 v4 = .slice none 0 0 from hv3] at hb; cases hb
                  | some r => rw [hh] at hv3; exact hv3.2 b hb)).opt
              have HPUT := Lib.hid (pPut16_any Bt (Z1 2) tp (cur.map List.head?) ks nn (.slice v1 v2 v4) tl.head? _ HT4.out hov fun r hr => by
                have h1 := HTL.out
                have h2 : r ∈ sortS ks g[i].y := by
                  rw [h1] at hr
                  exact List.mem_of_mem_drop (head_mem hr)
                have h3 := (HFIT.out g[i] (List.getElem_mem hil)).2 r h2
                exact ⟨h3.2, by omega⟩)
              have HE1 := Lib.hid hz1
              have HE2 := Lib.hid hz2
              clear hM3 hv3 hC3 hM4 ho4 ho3 z0 z3 z4 z5 z6 z7 hz1 hz2 hov hc2
              go_wp2_with fail
              refine HPUT.out.mono ?_
              rintro e w5 ⟨rfl, ho5, T5, n5, hT5, hTn5, -, -⟩
              generalize (if nextB ks (cur.map List.head?) = true then (0 : Int) else 2) = EP
              have hos : putL16 ks (cur.map List.head?) tl.head? = (cur.set i ((sortS ks g[i].y).drop (m + 1))).map List.head? := by
                unfold putL16
                rw [HNS.out, HTL.out, List.map_set]
              rw [hos] at hT5
              have HM5 := Lib.hid (HM4.out.one (a := 2) (.inr rfl) (A := T5) (ho5.mono fun b _ hb => by rw [HE2.out]; exact hb) fun b hb => ⟨by rw [HE2.out]; exact hTn5 b hb, (hT5.lt hb).2⟩)
              have HZ5 := Lib.hid (HS.out.keep (k + 1) (Z1 1) _ w5 _ HZ4.out ho5 fun b h7 h8 => HM4.out.fam.dis 2 1 (by decide) b (by rw [HE2.out]; exact h7) (by rw [HE1.out]; exact h8))
              have HOR5 := Lib.hid (HOR3.out.set (a := 2) (A := T5) fun b hb => by rw [HE2.out]; exact (hTn5 b hb).imp id fun h => Nat.le_trans HON4.out.size h)
              have HON5 := Lib.hid (HOR3.out.only HON4.out (S := fun a => a = 2) (by decide) (ho5.mono fun b _ hb => ⟨2, rfl, by rw [HE2.out]; exact hb⟩))
              have HNX := Lib.hid (pNext16_any Bt T5 tp _ ks n5 w5 hT5)
              clear hos ho5 hT5 hTn5 HPUT HT4 y4 f4
              go_wp2_with fail
              refine HNX.out.mono ?_
              rintro e w6 ⟨rfl, ho6, T6, hT6, hTn6⟩
              have HLP := Lib.hid (show LpM w.heap.size p q t ks (.slice ka ks.length kc) R (.slice (some ⟨ca, 0, none⟩) j j) (.slice (some ⟨ha, 0, none⟩) j j) g most base xs Sk Zk O X w Bt tp (k + 1) (.int .i64 (nextI ks ((cur.set i ((sortS ks g[i].y).drop (m + 1))).map List.head?))) (.bool (nextB ks ((cur.set i ((sortS ks g[i].y).drop (m + 1))).map List.head?))) w6 from by
                have hM6 := HM5.out.one (a := 2) (.inr rfl) (A := T6) (ho6.mono fun b _ hb => by rw [setZ_same]; exact hb) fun b hb => ⟨by rw [setZ_same]; exact hTn6 b hb, (hT6.lt hb).2⟩
                have hheld : heldO cur - rowCost x + costH ((sortS ks g[i].y).drop (m + 1)) = heldO (cur.set i ((sortS ks g[i].y).drop (m + 1))) := by
                  rw [heldO_set HCI.out]
                  rfl
                rw [hheld] at hM6
                refine ⟨hkx, _, cv, _, _, n5, rfl, rfl, hM6, ?_, ?_, ?_, ?_, ?_⟩
                · rw [setZ_other _ _ (by decide), setZ_other _ _ (by decide), HE1.out]
                  exact HS.out.keep (k + 1) (Z1 1) w5 w6 _ HZ5.out ho6 fun b h7 h8 => HM5.out.fam.dis 2 1 (by decide) b (by rw [setZ_same]; exact h7) (by rw [setZ_other _ _ (by decide), HE1.out]; exact h8)
                · rw [setZ_same]
                  exact hT6
                · rw [← HTL.out]
                  exact HREST.out.symm
                · exact HOR5.out.set (a := 2) (A := T6) fun b hb => by
                    rw [setZ_same]
                    exact (hTn6 b hb).imp id fun h => Nat.le_trans HON5.out.size h
                · exact HOR5.out.only HON5.out (S := fun a => a = 2) (by decide) (ho6.mono fun b _ hb => ⟨2, rfl, by rw [setZ_same]; exact hb⟩))
              clear ho6 hT6 hTn6
              generalize nextI ks ((cur.set i ((sortS ks g[i].y).drop (m + 1))).map List.head?) = NI at HLP ⊢
              generalize nextB ks ((cur.set i ((sortS ks g[i].y).drop (m + 1))).map List.head?) = NB at HLP ⊢
              go_wp2_with fail
              go_roundw
              case rel => exact ⟨k + 1, hkx, HLP.out⟩
              case measure =>
                have h1 := le_maxK (P := fun k => LpM w.heap.size p q t ks (.slice ka ks.length kc) R (.slice (some ⟨ca, 0, none⟩) j j) (.slice (some ⟨ha, 0, none⟩) j j) g most base xs Sk Zk O X w Bt tp k (.int .i64 NI) (.bool NB) w6) HLP.out xs.length hkx
                have h2 := HMK.out
                rw [h2]
                exact Nat.sub_lt_sub_left hkx h1
            · obtain ⟨b4, c4, hHA, ⟨u4, y4⟩, f4, hwh⟩ := hM3.writeH hil (fun h => h rfl)
              obtain ⟨hM4, ho4⟩ := hwh (.slice none 0 0)
              simp only [Value.slice.injEq, Option.some.injEq, Addr.mk.injEq, and_true] at hHA
              obtain ⟨rfl, -, rfl⟩ := hHA
              have hn1 : ¬ ZN i 1 := by unfold ZN; omega
              have hz1 := z0 1 hn1
              have HZ4 := Lib.hid (HS.out.keep (k + 1) (Z1 1) _ _ _ (HS.out.keep (k + 1) (Z1 1) _ w3 _ HZ2.out ho3 fun b h7 => HM2.out.fam.other hn1 b h7) ho4 fun b h7 h8 => hM4.fam.dis 7 1 (by decide) b h7 (by rw [hz1]; exact h8))
              have HOR3 := Lib.hid (HOR1.out.next (i0 := i) HON2.out.size z0 z3 z4 z5 z6 z7)
              have HON4 := Lib.hid (HOR3.out.only (HOR1.out.only HON2.out (S := ZN i) (by unfold ZN; omega) ho3) (S := fun a => a = 7) (by decide) (ho4.mono fun b _ hb => ⟨7, rfl, hb⟩))
              have HM4 := Lib.hid hM4
              have HE1 := Lib.hid hz1
              have HLT := Lib.hid hlt3
              have hheld0 : 0 ≤ heldO cur - rowCost x := by have := HCLE.out; omega
              clear hM3 hM4 ho4 ho3 z0 z3 z4 z5 z6 z7 hz1 hc2 hlt3 hwh
              go_wp2_with fail
              go_ret
              have hbd := HM2.out.bounds
              refine HM4.out.ends HOR3.out HON4.out hheld0 (.inr (.inl ⟨rfl, ?_, k + 1, hkx, rfl, by rw [HE1.out]; exact HZ4.out⟩))
              have hcx : costH (x :: tl) = rowCost x := rfl
              refine too_much (cur := cur) (i0 := i) (l := x :: tl) HMG.out.cl HCI.out ((sortS ks g[i].y).drop (m + 1)) (fun l hl y hy => ?_) (by rw [hcx]; exact HLT.out) (by rw [hcx]; omega)
              rcases List.mem_or_eq_of_mem_set hl with h1 | h1
              · obtain ⟨r, hr, hyr⟩ := HMG.out.head_of h1 (head_mem hy)
                exact ⟨r, hr, HSM.out r hr y hyr⟩
              · rw [h1] at hy
                exact ⟨g[i], List.getElem_mem hil, HSM.out g[i] (List.getElem_mem hil) y (List.mem_of_mem_drop (head_mem hy))⟩
          · have hno : ∀ a, a = 3 ∨ a = 4 → ∀ b, (Z 0 b ∨ Z 1 b) → ¬ Z a b := fun a ha b hb => by
              rcases hb with hb | hb
              · exact HMG.out.fam.dis 0 a (by omega) b hb
              · exact HMG.out.fam.dis 1 a (by omega) b hb
            obtain ⟨pk, hpu⟩ := HMG.out.pur
            have HPUR := Lib.hid (hpu.onlyS ho1 fun h => hno 4 (.inr rfl) q h HMG.out.zq)
            have HBLK := Lib.hid (show Wk5 w1 t p q _ (heldO cur) R from HMG.out.blk.onlyS ho1 fun h => hno 3 (.inl rfl) t h HMG.out.zt)
            have HON1 := Lib.hid (HOR.out.only HON.out (S := fun a => a = 0 ∨ a = 1) (by omega) (ho1.mono fun b _ hb => hb.elim (fun h => ⟨0, .inl rfl, h⟩) fun h => ⟨1, .inr rfl, h⟩))
            have HP1 := Lib.hid hp1
            have HZ1 := Lib.hid hz1
            have HOO := Lib.hid hO'
            have HXX := Lib.hid hX'
            have HOX1 := Lib.hid hOX'
            have HBAD := Lib.hid hbad
            clear hno hpu ho1 hO' hX' hOX' hbad hp1 hz1 hcell
            go_wp2_with fail
            go_ret
            have hsz := HON.out.size
            refine ⟨4, O', X', Sb, heldO cur, rfl, HP1.out, HBLK.out, ⟨pk, HPUR.out⟩, heldO_nonneg cur, HON1.out, fun b hb => ?_, fun b hb => ⟨?_, (HXX.out b hb).2⟩, HOX1.out, .inr (.inr ⟨rfl, HBAD.out, rfl, HZ1.out⟩)⟩
            · rcases HOO.out b hb with h1 | h1
              · rcases HOR.out 0 b h1 with h2 | h2 | h2 | h2 | h2 | h2
                · cases h2
                · exact .inl h2.2
                · cases h2.1
                · cases h2.1
                · cases h2.1
                · exact .inr h2
              · exact .inr (by omega)
            · rcases (HXX.out b hb).1 with h1 | h1 | h1
              · rcases HOR.out 1 b h1 with h2 | h2 | h2 | h2 | h2 | h2
                · cases h2
                · cases h2.1
                · exact .inl h2.2
                · cases h2.1
                · cases h2.1
                · exact .inr h2
              · rcases HOR.out (9 + 2 * i) b (HHD0.2 b h1) with h5 | ⟨h5, -⟩ | ⟨h5, -⟩ | ⟨h5, -⟩ | ⟨h5, -⟩ | h5
                · omega
                · omega
                · omega
                · omega
                · omega
                · exact .inr h5
              · exact .inr (by omega)
end Go.Proofs.YtaoegcakefodaaaGreat

namespace Go.Proofs.YtaoegcakefodaaaGreat
open Go.RowKit Go.BigFrame
set_option maxRecDepth 100000 in
set_option maxHeartbeats 1000000 in
theorem pCollect18_any (lb : Nat) (L : Value) (hs : List Value) (k : Nat) (ua : Option Addr) (un uc : Nat) (w : World) (hb : Blk w lb [L] 22) (hL : w.ownsRow 0 58 1 L k hs) (hk : k ≤ 1000000) :
    Calls Tryz.prog 69 #[.slice ua un uc, .pointer (some ⟨lb, 0, none⟩)] w fun e w' => e = .returned (.int .i64 0) ∧ ∃ L', Blk w' lb [L'] 22 ∧ w'.ownsRow 0 58 1 L' (k + 1) (hs ++ [.slice ua un uc]) ∧ OnlyS (fun b => b = lb ∨ L.ownBlock = some b) w w' ∧ Grew w L L' := by
  obtain ⟨i1, hi1, hy0, hy1, hy2⟩ := info_parts Tryz.info_row
  obtain ⟨la, lc, rfl, -, -⟩ := own_shapeP hL
  have c0 := hb.cell 0 _ rfl
  have HB := Lib.hid hb
  have HL := Lib.hid hL
  have HNE := Lib.hid (hb.apart hL (by decide))
  have hk10 : k ≤ 10000000 := by omega
  have h1c : ∀ v ∈ [Value.slice ua un uc], v.oneCell' = true := fun v hv => by rw [List.mem_singleton] at hv; rw [hv]; cases ua <;> rfl
  clear hb hL
  go_enter Tryz.func69, Tryz.ntmps69
  go_wp2_with (at_builtin; go_loud (refine wpList_append_oneG rfl (.tmp 4) (.tmp 6) 22 rfl 0 58 i1 (.slice none 0 0) 1 24 Tryz.underlying22 hi1 hy0 hy1 hy2 rfl (by decide) (by decide) (.slice la k lc) k hs [.slice ua un uc] rfl HL.out rfl rfl h1c hk10 (Nat.zero_le _) ?_); intro v5 w5 h5a h5b h5c h5d; have HO5 := Lib.hid h5a; have HY5 := Lib.hid h5c; have HG5 := Lib.hid h5d; have HB5 := Lib.hid (HB.out.others h5c fun e => HNE.out e); have z0 := HB5.out.cell 0 _ rfl; have f0 := HB5.out.free 0; obtain ⟨qa, qc, rfl, -, -⟩ := own_shapeP h5a; clear h5a h5b h5c h5d)
  go_ret
  have hs0 := only_setL lb 0 w5 (.slice qa (k + 1) qc)
  refine ⟨rfl, _, HB5.out.set 0 _, own_others HO5.out hs0 fun b hb e => HB5.out.apart HO5.out (by decide) (e ▸ hb), OnlyS.trans (HY5.out.mono fun b _ h => .inr h) (hs0.mono fun b _ h => .inl h) fun _ _ h => h, HG5.out⟩
def ClX (lb : Nat) (L : Value) (hs : List Value) (b : Nat) : Prop := b = lb ∨ L.ownBlock = some b ∨ ∃ v ∈ hs, v.ownBlock = some b
def ClZ (lb : Nat) (xs : List (List V)) (k : Nat) (X : Nat → Prop) (w : World) : Prop := ∃ L hs, X = ClX lb L hs ∧ Blk w lb [L] 22 ∧ w.ownsRow 0 58 1 L k hs ∧ OwnRows 0 w hs (xs.take k)
theorem ClZ.lt {lb : Nat} {xs : List (List V)} {k : Nat} {X : Nat → Prop} {w : World} (h : ClZ lb xs k X w) {b : Nat} (hb : X b) : b < w.heap.size := by
  obtain ⟨L, hs, rfl, h1, h2, h3⟩ := h
  rcases hb with rfl | hb | ⟨v, hv, hb⟩
  · exact h1.lt
  · exact (h2.lt b hb).2
  · obtain ⟨i, hi, rfl⟩ := List.mem_iff_getElem.1 hv
    exact ((h3.2 i hi (h3.1 ▸ hi)).lt b hb).2
theorem ClZ.keep {lb : Nat} {xs : List (List V)} {k : Nat} {X Y : Nat → Prop} {w w' : World} (h : ClZ lb xs k X w) (ho : OnlyS Y w w') (hy : ∀ b, Y b → ¬ X b) : ClZ lb xs k X w' := by
  obtain ⟨L, hs, rfl, h1, h2, h3⟩ := h
  exact ⟨L, hs, rfl, h1.others ho fun h4 => hy lb h4 (.inl rfl), own_others h2 ho fun b hb h4 => hy b h4 (.inr (.inl hb)), h3.1, fun i a b => own_others (h3.2 i a b) ho fun c hc h4 => hy c h4 (.inr (.inr ⟨_, List.getElem_mem a, hc⟩))⟩
theorem sink_list (p : Nat) (ks : List Ky) (g : List Run) (xs : List (List V)) (s : St) (lb : Nat) (hok : okS s) (hh : ∀ r ∈ g, Holds s r.ids (rowsB (sortS ks r.y))) (hx : xs.length ≤ 1000000) (_hl : ∀ x ∈ xs, x.length ≤ 1000000) :
    Sink p ks g xs 69 #[] #[.pointer (some ⟨lb, 0, none⟩)] (fun _ => s) (ClZ lb xs) False s (fun _ _ => True) where
  keep := fun k X w w' Y h ho hy => h.keep ho hy
  ok := fun _ _ => hok
  hold := fun _ _ => hh
  enter := enters_of Tryz.func69 (by kernel_rfl) rfl
  call := fun k hk O X w B u hp hz hox hu huo => by
    obtain ⟨ua, uc, rfl, -, -⟩ := own_shapeG hu
    have hzl : ∀ b, X b → b < w.heap.size := fun b hb => hz.lt hb
    obtain ⟨L, hs, rfl, h1, h2, h3⟩ := hz
    have e : (#[] : Array Value) ++ #[.slice ua xs[k].length uc] ++ #[.pointer (some ⟨lb, 0, none⟩)] = #[.slice ua xs[k].length uc, .pointer (some ⟨lb, 0, none⟩)] := by simp
    rw [e]
    refine (pCollect18_any lb L hs k ua _ uc w h1 h2 (by omega)).mono ?_
    rintro e w' ⟨rfl, L', hb', hL', ho, hg⟩
    have hox' : OnlyS (fun b => O b ∨ ClX lb L hs b) w w' := ho.mono fun b _ hb => .inr (hb.elim .inl fun h => .inr (.inl h))
    have hP' : PSto O w' p s := hp.onlyS ho fun b hb h4 => hox b hb (h4.elim .inl fun h => .inr (.inl h))
    have hno : ∀ b, (Value.slice ua xs[k].length uc).ownBlock = some b → ¬ (b = lb ∨ L.ownBlock = some b) := fun b hb h4 => (huo b hb).2 (h4.elim .inl fun h => .inr (.inl h))
    have hhs : hs.length = k := by simpa using h2.1
    have hrow : OwnRows 0 w' hs (xs.take k) := ⟨h3.1, fun i a b => own_others (h3.2 i a b) ho fun c hc h4 => by
      rcases h4 with rfl | h4
      · exact h1.apart (h3.2 i a b) (by decide) hc
      · exact rows_apart (h3.2 i a b) h2 c hc h4⟩
    have htk : xs.take (k + 1) = xs.take k ++ [xs[k]] := List.take_succ_eq_append_getElem hk
    refine ⟨0, O, ClX lb L' (hs ++ [.slice ua xs[k].length uc]), rfl, hox', fun b hb => .inl hb, fun b hb => ?_, fun b hO hb => ?_, .inl ⟨rfl, hP', L', _, rfl, hb', hL', ?_⟩⟩
    · rcases hb with rfl | hb | ⟨v, hv, hb⟩
      · exact ⟨.inl (.inl rfl), hb'.lt⟩
      · refine ⟨?_, (hL'.lt b hb).2⟩
        rcases hg with h4 | ⟨c, h4, h5⟩
        · exact .inl (.inr (.inl (h4 ▸ hb)))
        · rw [h4] at hb
          exact .inr (.inr ((Option.some.inj hb) ▸ h5))
      · rcases List.mem_append.1 hv with hv | hv
        · have h4 : ClX lb L hs b := .inr (.inr ⟨v, hv, hb⟩)
          exact ⟨.inl h4, Nat.lt_of_lt_of_le (hzl b h4) ho.size⟩
        · rw [List.mem_singleton] at hv
          subst hv
          exact ⟨.inr (.inl hb), Nat.lt_of_lt_of_le (hu.lt b hb).2 ho.size⟩
    · rcases hb with rfl | hb | ⟨v, hv, hb⟩
      · exact hox b hO (.inl rfl)
      · rcases hg with h4 | ⟨c, h4, h5⟩
        · exact hox b hO (.inr (.inl (h4 ▸ hb)))
        · rw [h4] at hb
          have := hp.lt b hO
          have := Option.some.inj hb
          omega
      · rcases List.mem_append.1 hv with hv | hv
        · exact hox b hO (.inr (.inr ⟨v, hv, hb⟩))
        · rw [List.mem_singleton] at hv
          subst hv
          exact (huo b hb).1 hO
    · rw [htk]
      exact hrow.append (OwnRows.one (own_others (Joins.ownsRow_le hu (Nat.zero_le _)) ho hno))
theorem full_need {xs : List (List V)} {k : Nat} : (fullK (xs.take k) : Int) ≤ needS ((rowsB xs).length : Int) := by
  have h1 : (rowsB xs).length = (rowsB (xs.take k)).length + (rowsB (xs.drop k)).length := by rw [← List.length_append, ← rowsB_append, List.take_append_drop]
  have h2 := need_ge56 (rowsB xs).length
  unfold fullK
  omega
theorem sink_writer (p : Nat) (ks : List Ky) (g : List Run) (xs : List (List V)) (s : St) (f : Nat) (hok : okS s) (hh : ∀ r ∈ g, Holds s r.ids (rowsB (sortS ks r.y))) (hfit : FitB xs) (hm : ∀ x ∈ xs, mayR x = 0) :
    Sink p ks g xs 82 #[.pointer (some ⟨f, 0, none⟩)] #[] (fun k => storeK s (rowsB (xs.take k)) (fullK (xs.take k))) (fun k X w => Wri X w f p (atW s (xs.take k)) ∧ fullK (xs.take k) + usedS s ≤ s.length) ((s.length : Int) - usedS s < needS ((rowsB xs).length : Int)) s (fun X w => Wri X w f p offW) where
  keep := fun k X w w' Y h ho hy => ⟨h.1.keep ho hy, h.2⟩
  ok := fun _ _ => storeK_ok hok _ _
  hold := fun _ _ r hr => (hh r hr).beside _ _
  enter := enters_of Tryz.func82 (by kernel_rfl) rfl
  call := fun k hk O X w B u hp hz hox hu huo => by
    obtain ⟨hW, hK⟩ := hz
    have e : #[.pointer (some ⟨f, 0, none⟩)] ++ #[u] ++ (#[] : Array Value) = #[.pointer (some ⟨f, 0, none⟩), u] := by simp
    rw [e]
    have hmk := hm xs[k] (List.getElem_mem hk)
    have htk : xs.take (k + 1) = xs.take k ++ [xs[k]] := List.take_succ_eq_append_getElem hk
    refine (pAdd17_any O X f p _ _ u xs[k] w hp (storeK_ok hok _ _) hW hox (fun W' ho => RdVals.of_owns (own_others hu ho fun b hb h4 => h4.elim (huo b hb).1 (huo b hb).2)) ⟨by simp, fun r hr => by rw [List.mem_singleton] at hr; rw [hr]; exact hfit.2 _ (List.getElem_mem hk)⟩ (by
      have := hfit.1
      show (xs.take k).length ≤ 1000000
      rw [List.length_take]
      omega)).mono ?_
    rintro e w' ⟨O', X', rfl, h1, h2, h3, h4, h5, h6⟩
    have hX' : ∀ b, X' b → (X b ∨ u.ownBlock = some b ∨ w.heap.size ≤ b) ∧ b < w'.heap.size := fun b hb => ⟨(h5 b hb).elim .inl fun h => .inr (.inr h), h2.lt hb⟩
    by_cases hroom : fullK (xs.take k ++ [xs[k]]) + usedS s ≤ s.length
    · rw [addW_room hmk hroom] at h1 h2 ⊢
      refine ⟨0, O', X', rfl, h3, h4, hX', h6, .inl ⟨rfl, ?_, ?_, ?_⟩⟩
      · show PSto O' w' p (storeK s (rowsB (xs.take (k + 1))) (fullK (xs.take (k + 1))))
        rw [htk]; exact h1
      · show Wri X' w' f p (atW s (xs.take (k + 1)))
        rw [htk]; exact h2
      · show fullK (xs.take (k + 1)) + usedS s ≤ s.length
        rw [htk]; exact hroom
    · rw [addW_none hmk hK hroom] at h1 h2 ⊢
      refine ⟨4, O', X', rfl, h3, h4, hX', h6, .inr ⟨rfl, ?_, h1, h2⟩⟩
      have := full_need (xs := xs) (k := k + 1)
      rw [htk] at this
      omega
end Go.Proofs.YtaoegcakefodaaaGreat

namespace Go.Proofs.YtaoegcakefodaaaGreat
open Go.RowKit Go.BigFrame
set_option maxHeartbeats 1000000 in
theorem pCancelTD_any (L : Nat) (O : Nat → Prop) (f p : Nat) (s : St) (W : Wr17) (vi vr : Value) (u : FrameMode) (w : World) (h : PSto O w p s) (hok : okS s) (hT : WrT L w f p W vi vr) (hL : L ≤ 1000000000000) (hox : ∀ b, O b → ¬ ownW f vi vr b) :
    CallsD Tryz.prog 83 #[.pointer (some ⟨f, 0, none⟩)] u w fun e u' w' => u' = u ∧ ∃ O', e = .returned (.tuple #[]) ∧ PSto O' w' p (cancelW s W) ∧ Blk w' f [.pointer none, .slice none 0 0, .slice none 0 0, .int .i64 0] 145 ∧
      OnlyS (fun b => O b ∨ b = f) w w' ∧ (∀ b, O' b → O b ∨ w.heap.size ≤ b) ∧ ¬ O' f := by
  have HF := Lib.hid hT.blk.lt
  have HEN := Lib.hid (pEnded17_any f _ w (hT.blk.cell 0 _ rfl))
  cases hon : W.on with
  | false =>
    obtain ⟨hoff, rfl, rfl⟩ := hT.off hon
    subst hoff
    have HB := Lib.hid hT.blk
    have HP := Lib.hid h
    have HO := Lib.hid (fun h2 => hox f h2 (.inl rfl))
    simp only [hon, if_false, Bool.false_eq_true] at HEN HB
    clear hT h hok hox hon
    go_enter_d Tryz.func83, Tryz.ntmps83
    go_wp2_with fail
    refine HEN.out.mono ?_
    rintro e w' ⟨rfl, rfl⟩
    go_wp2_with fail
    refine bodyPost_ret (v := .tuple #[]) (results_none rfl _ _ _) rfl ?_
    exact ⟨O, rfl, HP.out, HB.out, OnlyS.refl _ _, fun b hb => .inl hb, HO.out⟩
  | true =>
    simp only [hon, if_true] at HEN
    have HCW := Lib.hid (show cancelW s W = dropS s (intsN W.ids) by unfold cancelW; rw [if_neg (by simp [hon])])
    have hrd : RdV w.drew vi ((intsN W.ids).map (Value.int .i64)) := by rw [intsN_ivs]; exact (RdV.of_owns hT.ids).mono (Ext.drew w)
    have HDROP := Lib.hid (pDrop_any (w := w.drew) vi (intsN W.ids) (h.keep (fun b hb => rfl) (Nat.le_refl _)) hok hrd (fun _ k hk hO => hox k hO (.inr (.inl hk))) (by
      have := hT.few.1
      unfold intsN
      rw [List.length_map]
      omega) (fun i hi => by
      obtain ⟨q, hq, rfl⟩ := List.mem_map.1 hi
      have := hT.few.2 q hq
      omega))
    have HB := Lib.hid hT.blk
    have HO := Lib.hid (show ¬ O f from fun h2 => hox f h2 (.inl rfl))
    have HBZ := Lib.hid (fun z : Later (OnlyS O) w.drew => (HB.out.ext (Ext.drew w)).onlyS z.ext HO.out)
    have a0 : ∀ z : Later (OnlyS O) w.drew, z.val.cell? ⟨f, 0, none⟩ = some (.pointer (some ⟨p, 0, none⟩)) := fun z => by
      have := (HBZ.out z).cell 0 _ rfl
      rwa [hon] at this
    have a1 : ∀ z : Later (OnlyS O) w.drew, z.val.cell? ⟨f, 1, none⟩ = some vi := fun z => (HBZ.out z).cell 1 _ rfl
    clear hT h hok hox hrd
    go_enter_d Tryz.func83, Tryz.ntmps83
    go_wp2_with fail
    refine HEN.out.mono ?_
    rintro e w' ⟨rfl, rfl⟩
    go_wp2_with fail
    refine wp_region_segs (OnlyS O) (OnlyS.keeps O) [([0, 1, 2, 3, 4, 5, 6, 7], some 8)] (by kernel_rfl) (by kernel_rfl) (fun c a a' w e h => (by exact ⟨e ▸ h.1, h.2⟩)) ?_
    simp only [pickSegs, pickOps, List.map_cons, List.map_nil, Option.map_some, Option.getD_some, List.getElem?_toArray, List.getElem?_cons_zero, List.getElem?_cons_succ]
    refine wpSegs_some fun K hK => ?_
    repeat go_big_quiet_step (fail)
    refine wpQuiet_nil ?_
    clear a0 a1
    go_wp2_with fail
    refine HDROP.out.mono ?_
    rintro e w2 ⟨rfl, O2, k1, k2, k3, -⟩
    have HP2 := Lib.hid k1
    have HO2 := Lib.hid k2
    have HN2 := Lib.hid k3
    clear k1 k2 k3
    go_wp2_with fail
    refine ⟨HO2.out, hK _ _ (wpSegs_nil ?_)⟩
    clear hK K
    have HB2 := Lib.hid ((HB.out.ext (Ext.drew w)).onlyS HO2.out HO.out)
    have c0 := HB2.out.cell 0 _ rfl
    have c1 := HB2.out.cell 1 _ rfl
    have c2 := HB2.out.cell 2 _ rfl
    have c3 := HB2.out.cell 3 _ rfl
    have fz := HB2.out.free
    go_wp2_with fail
    go_end0
    have hs := (OnlyS.set0 f 0 w2 (.pointer none)).step (OnlyS.set0 f 1 _ (.slice none 0 0)) |>.step (OnlyS.set0 f 2 _ (.slice none 0 0)) |>.step (OnlyS.set0 f 3 _ (.int .i64 0))
    have hO2f : ¬ O2 f := fun h2 => by
      rcases HN2.out f h2 with h3 | h3
      · exact HO.out h3
      · have := HF.out
        exact absurd h3 (Nat.not_le.2 this)
    refine ⟨O2, rfl, ?_, ?_, ?_, HN2.out, hO2f⟩
    · rw [HCW.out]
      exact HP2.out.onlyS hs (fun b hb e => hO2f (e ▸ hb))
    · exact (((HB2.out.set 0 _).set 1 _).set 2 _).set 3 _
    · exact OnlyS.trans (OnlyS.of_ext (Ext.drew w)) (OnlyS.trans (HO2.out.mono fun b _ hb => .inl hb) (hs.mono fun b _ hb => .inr hb) fun _ _ h => h) fun _ _ h => h
theorem pCancelD17_any (O X : Nat → Prop) (f p : Nat) (s : St) (W : Wr17) (u : FrameMode) (w : World) (h : PSto O w p s) (hok : okS s) (hW : Wri X w f p W) (hox : ∀ b, O b → ¬ X b) :
    CallsD Tryz.prog 83 #[.pointer (some ⟨f, 0, none⟩)] u w fun e u' w' => u' = u ∧ ∃ O', e = .returned (.tuple #[]) ∧ PSto O' w' p (cancelW s W) ∧
      OnlyS (fun b => O b ∨ X b) w w' ∧ (∀ b, O' b → O b ∨ w.heap.size ≤ b) := by
  obtain ⟨vi, vr, hT, -, hm, rfl⟩ := hW
  refine (pCancelTD_any _ O f p s W vi vr u w h hok hT (by omega) hox).mono ?_
  rintro e u' w' ⟨rfl, O', rfl, h1, h2, h3, h4, h5⟩
  exact ⟨rfl, O', rfl, h1, h3.mono (fun b _ hb => hb.imp id .inl), h4⟩
end Go.Proofs.YtaoegcakefodaaaGreat

