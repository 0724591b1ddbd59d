/-
  Texts of this proof, merged: OrdQ5, OrdSays, OrdShown, OrderMerges, OrderSorts, OpenVal, OpenVals.
-/
import Derived.Carry
import Derived.Lib.SmallJoins
import Derived.Deep.Slices
import Derived.Deep.Fields
import Derived.Test.YtjpdpgjalbjmgaaZ7
import Derived.Test.YtjpdpgjalbjmgaaZ4
import Derived.Test.YtjpdpgjalbjmgaaZ8
import Derived.Test.YtjpdpgjalbjmgaaZ5
import Derived.Test.YtjpdpgjalbjmgaaZ1
/-
  The program's contracts of layer 15: do keys begin with others, why rows can't be ordered so.
-/
namespace Go.Proofs.Ytjpdpgjalbjmgaa
open Go.RowKit Go.BigFrame

set_option maxRecDepth 100000 in
set_option maxHeartbeats 1000000 in
/-- Are two lists of keys the same. -/
theorem equalKeys_any (u v : Value) (ks bs : List Ky) (w : World) (hu : RdKs w u ks) (hv : RdKs w v bs) :
    Calls Try.prog 35 #[u, v] w fun e w' => e = .returned (.bool (decide (ks = bs))) ∧ Ext w w' := by
  obtain ⟨ao, ca, rfl, -, -⟩ := hu.shape
  obtain ⟨bo, cb, rfl, -, -⟩ := hv.shape
  obtain ⟨-, h1, h2, hca⟩ := hu.plain
  obtain ⟨-, h3, h4, hcb⟩ := hv.plain
  have HA := Lib.hid hca
  have HB := Lib.hid hcb
  unfold maxLen at h2 h4
  obtain ⟨K, hK⟩ : ∃ K, ks.length = K := ⟨_, rfl⟩
  obtain ⟨N, hN⟩ : ∃ N, bs.length = N := ⟨_, rfl⟩
  have HK := Lib.hid hK
  have HN := Lib.hid hN
  rw [hK] at h1 ⊢
  rw [hN] at h3 ⊢
  clear hu hv hca hcb hK hN
  by_cases hlen : K = N
  · subst hlen
    have q0 : ((K : Int) != (K : Int)) = false := bne_self_eq_false _
    have q0' : (K != K) = false := bne_self_eq_false _
    go_enter Try.func35, Try.ntmps35
    go_wp2_with fail
    go_loopw [5, 13] (fun _ i wr => ∃ j : Nat, j ≤ K ∧ i = .int .i64 j ∧ ks.take j = bs.take j ∧ Ext w wr) (fun _ i _ => K - (intOf i).toNat)
    case atStart => exact ⟨0, Nat.zero_le _, rfl, rfl, Ext.keeps.refl _⟩
    case round =>
      obtain ⟨j, hj, rfl, htk, hext⟩ := hrel
      have HT := Lib.hid htk
      have HE := Lib.hid hext
      clear htk hext
      by_cases hlt : j < K
      · have hjx : j < ks.length := by have := HK.out; omega
        have hjy : j < bs.length := by have := HN.out; omega
        obtain ⟨g, off, rfl, c0, c1⟩ := HA.out j hjx
        obtain ⟨g', off', rfl, d0, d1⟩ := HB.out j hjy
        have z0 : ∀ z : Later Ext wr.drew, z.val.cell? ⟨g, off + j * 2, none⟩ = some (.int .i64 ks[j].col) := fun z => ((Ext.trans HE.out (Ext.trans (Ext.drew wr) z.ext)).cell (lt_of_cell c0)).trans c0
        have z1 : ∀ z : Later Ext wr.drew, z.val.cell? ⟨g, off + j * 2 + 1, none⟩ = some (.bool ks[j].down) := fun z => ((Ext.trans HE.out (Ext.trans (Ext.drew wr) z.ext)).cell (lt_of_cell c1)).trans c1
        have y0 : ∀ z : Later Ext wr.drew, z.val.cell? ⟨g', off' + j * 2, none⟩ = some (.int .i64 bs[j].col) := fun z => ((Ext.trans HE.out (Ext.trans (Ext.drew wr) z.ext)).cell (lt_of_cell d0)).trans d0
        have y1 : ∀ z : Later Ext wr.drew, z.val.cell? ⟨g', off' + j * 2 + 1, none⟩ = some (.bool bs[j].down) := fun z => ((Ext.trans HE.out (Ext.trans (Ext.drew wr) z.ext)).cell (lt_of_cell d1)).trans d1
        have HS := Lib.hid (show ks.take (j + 1) = ks.take j ++ [ks[j]] ∧ bs.take (j + 1) = bs.take j ++ [bs[j]] from ⟨List.take_succ_eq_append_getElem hjx, List.take_succ_eq_append_getElem hjy⟩)
        have HNO := Lib.hid (show ks[j] ≠ bs[j] → decide (ks = bs) = false from fun hne => decide_eq_false fun e => hne (by simp only [e]))
        have hne := ne_key ks[j] bs[j]
        unfold Ky.val at hne
        generalize ks[j] = c at z0 z1 HS HNO hne
        generalize bs[j] = d at y0 y1 HS HNO hne
        obtain ⟨ck, cd⟩ := c
        obtain ⟨dk, dd⟩ := d
        simp only at z0 z1 y0 y1 hne
        clear c0 c1 d0 d1
        by_cases he : (⟨ck, cd⟩ : Ky) = ⟨dk, dd⟩
        · rw [decide_eq_false (fun h => h he)] at hne
          have HEQ := Lib.hid he
          clear he
          go_wp2_with fail
          refine wp_region_segs Ext Ext.keeps [(List.range 9, none)] (by kernel_rfl) (by kernel_rfl) (fun c a a' w e h => (by exact ⟨e ▸ h.1, h.2⟩)) ?_
          simp only [List.range, List.range.loop, pickSegs, pickOps, List.map_cons, List.map_nil, Option.map_none, Option.getD_some, List.getElem?_toArray, List.getElem?_cons_zero, List.getElem?_cons_succ]
          refine wpSegs_none ?_
          repeat go_big_quiet_step (fail)
          refine wpQuiet_nil (wpSegs_nil ?_)
          clear z0 z1 y0 y1
          go_wp2_with fail
          go_roundw
          case rel => exact ⟨j + 1, by omega, by go_num, by rw [HS.out.1, HS.out.2, HT.out, HEQ.out], Ext.trans HE.out (Ext.drew wr)⟩
          case measure => simp [intOf]; omega
        · rw [decide_eq_true he] at hne
          have HR := Lib.hid (HNO.out he)
          clear he
          go_wp2_with fail
          refine wp_region_segs Ext Ext.keeps [(List.range 9, none)] (by kernel_rfl) (by kernel_rfl) (fun c a a' w e h => (by exact ⟨e ▸ h.1, h.2⟩)) ?_
          simp only [List.range, List.range.loop, pickSegs, pickOps, List.map_cons, List.map_nil, Option.map_none, Option.getD_some, List.getElem?_toArray, List.getElem?_cons_zero, List.getElem?_cons_succ]
          refine wpSegs_none ?_
          repeat go_big_quiet_step (fail)
          refine wpQuiet_nil (wpSegs_nil ?_)
          clear z0 z1 y0 y1
          go_wp2_with fail
          go_ret
          exact ⟨by rw [HR.out]; rfl, Ext.trans HE.out (Ext.drew wr)⟩
      · have HR := Lib.hid (show decide (ks = bs) = true from decide_eq_true (by
          have h := HT.out
          rwa [List.take_of_length_le (by have := HK.out; omega), List.take_of_length_le (by have := HN.out; omega)] at h))
        go_wp2_with fail
        go_ret
        exact ⟨by rw [HR.out]; rfl, HE.out⟩
  · have q0 : ((K : Int) != (N : Int)) = true := bne_iff_ne.2 (by omega)
    have q0' : (K != N) = true := bne_iff_ne.2 hlen
    have HR := Lib.hid (show decide (ks = bs) = false from decide_eq_false fun e => hlen (by rw [← HK.out, ← HN.out, e]))
    clear hlen
    go_enter Try.func35, Try.ntmps35
    go_wp2_with fail
    go_ret
    exact ⟨by rw [HR.out]; rfl, Ext.keeps.refl _⟩

set_option maxRecDepth 100000 in
set_option maxHeartbeats 1000000 in
theorem pBeginsQ_any (u v : Value) (ks bs : List Ky) (w : World) (hu : RdKs w u ks) (hv : RdKs w v bs) :
    Calls Try.prog 22 #[u, v] w fun e w' => e = .returned (.bool (beginsK ks bs)) ∧ Ext w w' := by
  obtain ⟨ao, ca, rfl, h1, h2⟩ := hu.shape
  obtain ⟨bo, cb, rfl, h3, h4⟩ := hv.shape
  unfold maxLen at h2 h4
  obtain ⟨K, hK⟩ : ∃ K, ks.length = K := ⟨_, rfl⟩
  obtain ⟨N, hN⟩ : ∃ N, bs.length = N := ⟨_, rfl⟩
  have HK := Lib.hid hK
  have HN := Lib.hid hN
  rw [hK] at h1 hu ⊢
  rw [hN] at h3 hv ⊢
  by_cases hlen : N ≤ K
  · have HE := Lib.hid (equalKeys_any _ _ (ks.take N) bs w (hu.take N hlen) hv)
    have HR := Lib.hid (show beginsK ks bs = decide (ks.take N = bs) from by
      by_cases h : ks.take N = bs
      · rw [decide_eq_true h]
        exact (begins_iff ks bs).2 ⟨by have := HK.out; have := HN.out; omega, by rw [HN.out, h]⟩
      · rw [decide_eq_false h]
        cases hb : beginsK ks bs with
        | false => rfl
        | true => exact absurd (by rw [← HN.out]; exact (((begins_iff ks bs).1 hb).2).symm) h)
    have d0 : decide ((N : Int) ≤ (K : Int)) = true := decide_eq_true (by omega)
    have d0' : decide (N ≤ K) = true := decide_eq_true hlen
    clear hu hv hK hN
    generalize decide (ks.take N = bs) = R at HE HR
    go_enter Try.func22, Try.ntmps22
    go_wp2_with fail
    refine HE.out.mono ?_
    rintro e w1 ⟨rfl, x1⟩
    have HX1 := Lib.hid x1
    clear x1
    go_wp2_with fail
    go_ret
    exact ⟨by rw [HR.out]; rfl, HX1.out⟩
  · have HR := Lib.hid (show beginsK ks bs = false from by
      cases h : beginsK ks bs with
      | false => rfl
      | true => have := ((begins_iff ks bs).1 h).1; have := HK.out; have := HN.out; omega)
    have d0 : decide ((N : Int) ≤ (K : Int)) = false := decide_eq_false (by omega)
    have d0' : decide (N ≤ K) = false := decide_eq_false hlen
    clear hu hv hK hN hlen
    go_enter Try.func22, Try.ntmps22
    go_wp2_with fail
    go_ret
    exact ⟨by rw [HR.out]; rfl, Ext.keeps.refl _⟩

set_option maxRecDepth 100000 in
set_option maxHeartbeats 1000000 in
theorem pRightQ_any (cols : Int) (v : Value) (ks : List Ky) (w : World) (hv : RdKs w v ks) (hk : ∀ k ∈ ks, k.fits) :
    Calls Try.prog 18 #[.int .i64 cols, v] w fun e w' => e = .returned (.int .i64 (rightK cols ks)) ∧ Ext w w' := by
  obtain ⟨ao, ca, rfl, -, -⟩ := hv.shape
  obtain ⟨-, h1, h2, hca⟩ := hv.plain
  have HA := Lib.hid hca
  have HF := Lib.hid hk
  unfold maxLen at h2
  obtain ⟨N, hN⟩ : ∃ N, ks.length = N := ⟨_, rfl⟩
  have HN := Lib.hid hN
  rw [hN] at h1 ⊢
  clear hv hca hN hk
  by_cases hneg : cols < 0
  · have HR := Lib.hid (rightK_neg (ks := ks) hneg)
    go_enter Try.func18, Try.ntmps18
    go_wp2_with fail
    go_ret
    exact ⟨by rw [HR.out]; rfl, Ext.keeps.refl _⟩
  · have d0 : decide (cols < 0) = false := decide_eq_false hneg
    by_cases hlong : 8 < N
    · have HR := Lib.hid (rightK_long (ks := ks) hneg (by have := HN.out; omega))
      have d1 : decide (8 < N) = true := decide_eq_true hlong
      have d1' : decide ((8 : Int) < (N : Int)) = true := decide_eq_true (by omega)
      go_enter Try.func18, Try.ntmps18
      go_wp2_with fail
      go_ret
      exact ⟨by rw [HR.out]; rfl, Ext.keeps.refl _⟩
    · have d1 : decide (8 < N) = false := decide_eq_false hlong
      have d1' : decide ((8 : Int) < (N : Int)) = false := decide_eq_false (by omega)
      have HYES := Lib.hid (fun h3 => rightK_ok (ks := ks) hneg (by have := HN.out; omega) h3)
      have HNO := Lib.hid (fun h3 => rightK_no (ks := ks) hneg (by have := HN.out; omega) h3)
      have hmm := @run_makeMap Try.prog
      go_enter Try.func18, Try.ntmps18
      go_wp2_with fail
      go_loopw [18] (fun i wr => ∃ j : Nat, j ≤ N ∧ i = .int .i64 j ∧ USet wr w.heap.size ((ks.take j).map Ky.col) ∧ (∀ i, (hi : i < ks.length) → i < j → 0 ≤ ks[i].col ∧ ks[i].col < cols ∧ ∀ k, (hk : k < i) → (ks[k]'(by omega)).col ≠ ks[i].col) ∧ Ext w wr) (fun i _ => N - (intOf i).toNat)
      case atStart => exact ⟨0, Nat.zero_le _, rfl, USet.made w, fun i _ h => absurd h (Nat.not_lt_zero _), ext_new w _⟩
      case round =>
        obtain ⟨j, hj, rfl, hu, hs, hext⟩ := hrel
        have HU := Lib.hid hu
        have HS := Lib.hid hs
        have HE := Lib.hid hext
        clear hu hs hext
        by_cases hlt : j < N
        · have hjl : j < ks.length := by have := HN.out; omega
          obtain ⟨g, off, rfl, c0, c1⟩ := HA.out j hjl
          have x0 := (HE.out.cell (lt_of_cell c0)).trans c0
          have x1 := (HE.out.cell (lt_of_cell c1)).trans c1
          have HBAD := Lib.hid (fun (h : ¬ (0 ≤ ks[j].col ∧ ks[j].col < cols)) => HNO.out fun h3 => h ⟨(h3 j hjl).1, (h3 j hjl).2.1⟩)
          have HDUP := Lib.hid (fun (h : ks[j].col ∈ (ks.take j).map Ky.col) => HNO.out fun h3 => by
            obtain ⟨q, hq, e⟩ := List.mem_map.1 h
            obtain ⟨k, hk, rfl⟩ := List.mem_iff_getElem.1 hq
            rw [List.length_take] at hk
            rw [List.getElem_take] at e
            exact (h3 j hjl).2.2 k (by omega) e)
          have HNX := Lib.hid (show 0 ≤ ks[j].col ∧ ks[j].col < cols → ks[j].col ∉ (ks.take j).map Ky.col → ∀ i, (hi : i < ks.length) → i < j + 1 → 0 ≤ ks[i].col ∧ ks[i].col < cols ∧ ∀ k, (hk : k < i) → (ks[k]'(by omega)).col ≠ ks[i].col from fun a c i hi hij => by
            by_cases e : i = j
            · subst e
              refine ⟨a.1, a.2, fun k hk h => c (List.mem_map.2 ⟨ks[k]'(by omega), ?_, h⟩)⟩
              rw [List.mem_iff_getElem]
              exact ⟨k, by rw [List.length_take]; omega, List.getElem_take⟩
            · exact HS.out i hi (by omega))
          have HLA := Lib.hid (show (ks.take (j + 1)).map Ky.col = (ks.take j).map Ky.col ++ [ks[j].col] by rw [List.take_succ_eq_append_getElem hjl, List.map_append]; rfl)
          have HCF := Lib.hid (HF.out ks[j] (List.getElem_mem hjl))
          unfold Ky.fits at HCF
          have HIL := Lib.hid (show ((ks.take j).map Ky.col).length < maxLen by rw [List.length_map, List.length_take]; unfold maxLen; omega)
          generalize ks[j].col = col at x0 HBAD HDUP HNX HLA HCF
          generalize ks[j].down = down at x1
          generalize (ks.take j).map Ky.col = I at HU HDUP HNX HLA HIL
          have HXK := Lib.hid (ext_new wr (.cells #[.int .i64 col, .bool down] 43))
          have HBK := Lib.hid (Blk.new wr [.int .i64 col, .bool down] 43)
          clear c0 c1
          go_upto_region 9 with fail
          generalize wr.alloc (.cells #[.int .i64 col, .bool down] 43) = W at HXK HBK ⊢
          clear x0 x1
          have hlook := (HU.out.ext HXK.out).look col HCF.out
          have k0 := HBK.out.cell 0 _ rfl
          have k0' : ∀ o, (W.alloc o).cell? ⟨wr.heap.size, 0, none⟩ = some (.int .i64 col) := fun o => (HBK.out.ext (ext_new W o)).cell 0 _ rfl
          generalize hB : decide (col ∈ I) = B at hlook
          have HBB := Lib.hid hB
          clear hB
          cases B with
          | true =>
            have HR := Lib.hid (HDUP.out (of_decide_eq_true HBB.out))
            go_wp2_with fail
            go_ret
            exact ⟨by rw [HR.out]; rfl, Ext.trans (Ext.trans HE.out HXK.out) (ext_new _ _)⟩
          | false =>
            have HNI := Lib.hid (of_decide_eq_false HBB.out)
            by_cases hc : 0 ≤ col ∧ col < cols
            · have HIN := Lib.hid (pIn15_any cols col (W.alloc (.cells #[] 53)))
              rw [decide_eq_true hc] at HIN
              have HGOOD := Lib.hid (HNX.out hc HNI.out)
              obtain ⟨w5, hrun, hset, honly⟩ := ((HU.out.ext HXK.out).ext (ext_new W (.cells #[] 53))).add col HCF.out HIL.out
              have HSET := Lib.hid hset
              have HE2 := Lib.hid (Ext.trans (Ext.trans HE.out HXK.out) (ext_new W (.cells #[] 53)))
              have HE5 := Lib.hid (show Below w.heap.size w w5 from (show Below w.heap.size w _ from HE2.out).trans (honly.below HE2.out.size (fun b hb => by omega)))
              clear hset honly hc
              go_wp2_with fail
              refine HIN.out.mono ?_
              rintro e w1 ⟨rfl, rfl⟩
              go_wp2_with fail
              go_roundw
              case rel => exact ⟨j + 1, by omega, by go_num, by rw [HLA.out]; exact HSET.out, HGOOD.out, HE5.out⟩
              case measure => simp [intOf]; omega
            · have HIN := Lib.hid (pIn15_any cols col (W.alloc (.cells #[] 53)))
              rw [decide_eq_false hc] at HIN
              have HR := Lib.hid (HBAD.out hc)
              clear hc
              go_wp2_with fail
              refine HIN.out.mono ?_
              rintro e w1 ⟨rfl, rfl⟩
              go_wp2_with fail
              go_ret
              exact ⟨by rw [HR.out]; rfl, Ext.trans (Ext.trans HE.out HXK.out) (ext_new _ _)⟩
        · have HR := Lib.hid (HYES.out fun i hi => HS.out i hi (by have := HN.out; omega))
          go_wp2_with fail
          go_ret
          exact ⟨by rw [HR.out]; rfl, HE.out⟩

end Go.Proofs.Ytjpdpgjalbjmgaa

/-
  The program's calls of layer 15, as the law's texts name them.
-/
namespace Go.Proofs.Ytjpdpgjalbjmgaa
open Go.RowKit Go.BigFrame

theorem pCompare15_any (u v x : Value) (a b : List V) (ks : List Ky) (w : World) (hu : RdVals w u a) (hv : RdVals w v b) (hx : RdKs w x ks) (ha : FitR 5000 a) (hb : FitR 5000 b) :
    Calls Try.prog 24 #[u, v, x] w fun e w' => e = .returned (.int .i64 (cmpR ks a b)) ∧ Ext w w' :=
  pCompareQ_any u v x a b ks w hu hv hx ha hb
theorem pSort15_any (u x : Value) (rs : List (List V)) (ks : List Ky) (w : World) (hu : RdRV w u rs) (hx : RdKs w x ks) (hf : FitL rs) (hl : rs.length ≤ 100000) :
    Calls Try.prog 13 #[u, x] w fun e w' => (∃ o, e = .returned o ∧ Cp w.heap.size w' o (sortS ks rs)) ∧ Ext w w' :=
  pSortQ_any u x rs ks w hu hx hf hl
theorem pSorted15_any (u x : Value) (rs : List (List V)) (ks : List Ky) (w : World) (hu : RdRV w u rs) (hx : RdKs w x ks) (hf : FitL rs) (_hl : rs.length ≤ 100000) :
    Calls Try.prog 16 #[u, x] w fun e w' => e = .returned (.bool (sortedR ks rs)) ∧ Ext w w' :=
  pSortedQ_any u x rs ks w hu hx hf
theorem pMerge15_any (u v x : Value) (xs ys : List (List V)) (ks : List Ky) (w : World) (hu : RdRV w u xs) (hv : RdRV w v ys) (hx : RdKs w x ks) (hfx : FitL xs) (hfy : FitL ys) (hl : xs.length + ys.length ≤ 100000) :
    Calls Try.prog 20 #[u, v, x] w fun e w' => (∃ o, e = .returned o ∧ Cp w.heap.size w' o (OrdPure.mergeS (cmpR ks) xs ys)) ∧ Ext w w' :=
  pMergeQ_any u v x xs ys ks w hu hv hx hfx hfy hl
theorem pBegins15_any (u v : Value) (ks bs : List Ky) (w : World) (hu : RdKs w u ks) (hv : RdKs w v bs) :
    Calls Try.prog 22 #[u, v] w fun e w' => e = .returned (.bool (beginsK ks bs)) ∧ Ext w w' :=
  pBeginsQ_any u v ks bs w hu hv
theorem pRight15_any (cols : Int) (v : Value) (ks : List Ky) (w : World) (hv : RdKs w v ks) (hk : ∀ k ∈ ks, k.fits) :
    Calls Try.prog 18 #[.int .i64 cols, v] w fun e w' => e = .returned (.int .i64 (rightK cols ks)) ∧ Ext w w' :=
  pRightQ_any cols v ks w hv hk

end Go.Proofs.Ytjpdpgjalbjmgaa

/-
  The document's examples of layer 15.
-/
namespace Go.Proofs.Ytjpdpgjalbjmgaa
open Go.RowKit Go.BigFrame

theorem FitR.le {m m' : Nat} {r : List V} (h : FitR m r) (hm : m ≤ m') : FitR m' r := fun v hv => ⟨(h v hv).1, Nat.le_trans (h v hv).2 hm⟩
theorem FitRs.le {m m' : Nat} {rs : List (List V)} (h : FitRs m rs) (hm : m ≤ m') : FitRs m' rs := fun r hr => (h r hr).le hm

def rows3 : List (List V) := [numV 2, [V.zero], numV 1]
theorem fit3 : FitRs 5000 rows3 := by
  intro r hr v hv
  simp only [rows3, List.mem_cons, List.not_mem_nil, or_false] at hr
  rcases hr with rfl | rfl | rfl <;> (simp only [numV, List.mem_singleton] at hv; subst hv; exact ⟨⟨by decide, by decide, by decide, by decide⟩, by simp [V.zero]⟩)

theorem fit3L : FitL rows3 := ⟨fit3, fun r hr => by
  simp only [rows3, List.mem_cons, List.not_mem_nil, or_false] at hr
  rcases hr with rfl | rfl | rfl <;> simp [numV]⟩

theorem up3 : sortS [⟨0, false⟩] rows3 = [[V.zero], numV 1, numV 2] := by
  have hp := cmpR_pre [⟨0, false⟩]
  have h1 : OrdPure.IsSort (cmpR [⟨0, false⟩]) [numV 2] [numV 2] := OrdPure.IsSort.self (List.pairwise_singleton ..)
  have h2 := h1.snoc hp (x := [V.zero]) (k := 0) ⟨by decide, by decide, fun j _ h => by omega⟩
  have h3 := h2.snoc hp (x := numV 1) (k := 1) ⟨by decide, by decide, fun j hj h => by
    obtain rfl : j = 0 := by omega
    show cmpR [⟨0, false⟩] [V.zero] (numV 1) ≤ 0
    decide⟩
  exact (sortS_eq h3).symm
theorem down3 : sortS [⟨0, true⟩] rows3 = [[V.zero], numV 2, numV 1] := by
  have hp := cmpR_pre [⟨0, true⟩]
  have h1 : OrdPure.IsSort (cmpR [⟨0, true⟩]) [numV 2] [numV 2] := OrdPure.IsSort.self (List.pairwise_singleton ..)
  have h2 := h1.snoc hp (x := [V.zero]) (k := 0) ⟨by decide, by decide, fun j _ h => by omega⟩
  have h3 := h2.snoc hp (x := numV 1) (k := 2) ⟨by decide, by decide, fun j hj h => by
    obtain rfl : j = 1 := by omega
    show cmpR [⟨0, true⟩] (numV 2) (numV 1) ≤ 0
    decide⟩
  exact (sortS_eq h3).symm

theorem lit_rows (w : World) (hs : List Value) (rs : List (List V)) (h : HdRows w hs rs) (hl : hs.length ≤ maxLen) : RdRV (w.alloc (.cells hs.toArray 33)) (.slice (some ⟨w.heap.size, 0, none⟩) hs.length hs.length) rs := by
  have h1 := World.ownsRow_lit (base := w.heap.size) (e := 33) (size := 1) w hs.toArray hs.length (Nat.le_refl _) hl (by simp)
  exact ⟨hs, by simpa using RdV.of_owns h1, h.mono (ext_new w _)⟩

theorem three_rows {w : World} {base : Nat} {a b c : Value} {x y z : List V} (ha : w.ownsRow base 35 3 a x.length (x.flatMap V.cells)) (hb : RdVals w b y) (hc : RdVals w c z) : HdRows w [a, b, c] [x, y, z] :=
  (HdRows.one (RdVals.of_owns ha)).append ((HdRows.one hb).append (HdRows.one hc))

set_option maxRecDepth 100000 in
set_option maxHeartbeats 4000000 in
theorem shown15_any (w : World) : Calls Try.prog 9 #[] w fun e w' => e = .returned (.bool true) ∧ Ext w w' := by
  have hz : (V.zero.cells.toArray : Array Value) = #[.int .u8 0, .int .i64 0, .string ⟨#[]⟩] := rfl
  clear hz
  go_enter Try.func9, Try.ntmps9
  go_wp2_with fail
  refine (num15_any 2 w).mono ?_
  rintro e w1 ⟨⟨v1, rfl, h1⟩, x1⟩
  obtain ⟨a1, c1, rfl⟩ := owns3_shape h1
  have HX1 := Lib.hid x1
  have HZ1 := Lib.hid (RdVals.of_owns (l := [V.zero]) (lit_own w1 [V.zero] (by simp [maxLen])))
  have HV1 := Lib.hid (RdVals.of_owns (l := numV 2) h1)
  have HXZ := Lib.hid (ext_new w1 (.cells #[.int .u8 0, .int .i64 0, .string ⟨#[]⟩] 35))
  have HR1 := Lib.hid (HV1.out.mono HXZ.out)
  replace HZ1 := Lib.hid (show RdVals (w1.alloc (.cells #[.int .u8 0, .int .i64 0, .string ⟨#[]⟩] 35)) (.slice (some ⟨w1.heap.size, 0, none⟩) 1 1) [V.zero] from HZ1.out)
  clear h1 x1 HV1
  go_wp2_with fail
  generalize w1.alloc (.cells #[.int .u8 0, .int .i64 0, .string ⟨#[]⟩] 35) = W1 at HZ1 HXZ HR1 ⊢
  refine (num15_any 1 W1).mono ?_
  rintro e w2 ⟨⟨v2, rfl, h2⟩, x2⟩
  obtain ⟨a2, c2, rfl⟩ := owns3_shape h2
  have HX2 := Lib.hid (Ext.trans (Ext.trans HX1.out HXZ.out) x2)
  have HD := Lib.hid ((HdRows.one (HR1.out.mono x2)).append ((HdRows.one (HZ1.out.mono x2)).append (HdRows.one (RdVals.of_owns (l := numV 1) h2))))
  have HL := Lib.hid (lit_rows w2 _ _ HD.out (by simp [maxLen]))
  replace HL := Lib.hid (show RdRV (w2.alloc (.cells #[.slice a1 1 c1, .slice (some ⟨w1.heap.size, 0, none⟩) 1 1, .slice a2 1 c2] 33)) (.slice (some ⟨w2.heap.size, 0, none⟩) 3 3) rows3 from HL.out)
  have HX3 := Lib.hid (Ext.trans HX2.out (ext_new w2 (.cells #[.slice a1 1 c1, .slice (some ⟨w1.heap.size, 0, none⟩) 1 1, .slice a2 1 c2] 33)))
  clear h2 x2 HX1 HXZ HR1 HZ1 HX2 HD
  go_upto_region 2 with fail
  generalize w2.alloc (.cells #[.slice a1 1 c1, .slice (some ⟨w1.heap.size, 0, none⟩) 1 1, .slice a2 1 c2] 33) = W3 at HL HX3 ⊢
  have HK := Lib.hid (show RdKs (W3.alloc (.cells #[.int .i64 0, .bool false] 43)) (.slice (some ⟨W3.heap.size, 0, none⟩) 1 1) [⟨0, false⟩] from RdKs.lit W3 [⟨0, false⟩] 43 (by simp [maxLen]))
  have HXK := Lib.hid (ext_new W3 (.cells #[.int .i64 0, .bool false] 43))
  go_wp2_with fail
  generalize W3.alloc (.cells #[.int .i64 0, .bool false] 43) = W4 at HK HXK ⊢
  refine (pSort15_any _ _ rows3 _ W4 (HL.out.mono HXK.out) HK.out fit3L (by decide)).mono ?_
  rintro e w5 ⟨⟨up, rfl, hup⟩, x5⟩
  rw [up3] at hup
  have HUP := Lib.hid hup
  have HX5 := Lib.hid (Ext.trans (Ext.trans HX3.out HXK.out) x5)
  have HL5 := Lib.hid (HL.out.mono (Ext.trans HXK.out x5))
  have HK6 := Lib.hid (show RdKs (w5.alloc (.cells #[.int .i64 0, .bool true] 43)) (.slice (some ⟨w5.heap.size, 0, none⟩) 1 1) [⟨0, true⟩] from RdKs.lit w5 [⟨0, true⟩] 43 (by simp [maxLen]))
  have HXK6 := Lib.hid (ext_new w5 (.cells #[.int .i64 0, .bool true] 43))
  clear hup x5 HL HX3 HK HXK
  go_wp2_with fail
  generalize w5.alloc (.cells #[.int .i64 0, .bool true] 43) = W6 at HK6 HXK6 ⊢
  refine (pSort15_any _ _ rows3 _ W6 (HL5.out.mono HXK6.out) HK6.out fit3L (by decide)).mono ?_
  rintro e w7 ⟨⟨dn, rfl, hdn⟩, x7⟩
  rw [down3] at hdn
  have HDN := Lib.hid hdn.rd
  have HX7 := Lib.hid (Ext.trans (Ext.trans HX5.out HXK6.out) x7)
  have HUP7 := Lib.hid ((HUP.out.ext (Ext.trans HXK6.out x7)).rd)
  clear hdn x7 HL5 HK6 HXK6 HX5 HUP
  go_wp2_with fail
  have HZp := Lib.hid (RdVals.of_owns (l := [V.zero]) (lit_own w7 [V.zero] (by simp [maxLen])))
  have HXZp := Lib.hid (ext_new w7 (.cells #[.int .u8 0, .int .i64 0, .string ⟨#[]⟩] 35))
  replace HZp := Lib.hid (show RdVals (w7.alloc (.cells #[.int .u8 0, .int .i64 0, .string ⟨#[]⟩] 35)) (.slice (some ⟨w7.heap.size, 0, none⟩) 1 1) [V.zero] from HZp.out)
  generalize w7.alloc (.cells #[.int .u8 0, .int .i64 0, .string ⟨#[]⟩] 35) = WAp at HZp HXZp ⊢
  refine (num15_any 1 WAp).mono ?_
  rintro e wbp ⟨⟨v1, rfl, h1⟩, x1⟩
  obtain ⟨b1, d1, rfl⟩ := owns3_shape h1
  have HV1p := Lib.hid (RdVals.of_owns (l := numV 1) h1)
  have HXBp := Lib.hid x1
  clear h1 x1
  go_wp2_with fail
  refine (num15_any 2 wbp).mono ?_
  rintro e wcp ⟨⟨v2, rfl, h2⟩, x2⟩
  obtain ⟨b2, d2, rfl⟩ := owns3_shape h2
  have HDp := Lib.hid ((HdRows.one (HZp.out.mono (Ext.trans HXBp.out x2))).append ((HdRows.one (HV1p.out.mono x2)).append (HdRows.one (RdVals.of_owns (l := numV 2) h2))))
  have HXCp := Lib.hid (Ext.trans (Ext.trans HXZp.out HXBp.out) x2)
  have HLp := Lib.hid (lit_rows wcp _ _ HDp.out (by simp [maxLen]))
  replace HLp := Lib.hid (show RdRows (wcp.alloc (.cells #[.slice (some ⟨w7.heap.size, 0, none⟩) 1 1, .slice b1 1 d1, .slice b2 1 d2] 33)) (.slice (some ⟨wcp.heap.size, 0, none⟩) 3 3) [[V.zero], numV 1, numV 2] from HLp.out.rd)
  have HXDp := Lib.hid (Ext.trans HXCp.out (ext_new wcp (.cells #[.slice (some ⟨w7.heap.size, 0, none⟩) 1 1, .slice b1 1 d1, .slice b2 1 d2] 33)))
  clear h2 x2 HZp HXZp HV1p HXBp HDp HXCp
  go_wp2_with fail
  generalize wcp.alloc (.cells #[.slice (some ⟨w7.heap.size, 0, none⟩) 1 1, .slice b1 1 d1, .slice b2 1 d2] 33) = WDp at HLp HXDp ⊢
  refine (refSameRows_any up _ [[V.zero], numV 1, numV 2] [[V.zero], numV 1, numV 2] WDp (HUP7.out.mono HXDp.out) HLp.out).mono ?_
  rw [decide_eq_true rfl]
  rintro e wep ⟨rfl, xe⟩
  have HXEp := Lib.hid (Ext.trans HXDp.out xe)
  clear xe HLp HXDp
  go_wp2_with fail
  have HDNE := Lib.hid (HDN.out.mono HXEp.out)
  have HZq := Lib.hid (RdVals.of_owns (l := [V.zero]) (lit_own wep [V.zero] (by simp [maxLen])))
  have HXZq := Lib.hid (ext_new wep (.cells #[.int .u8 0, .int .i64 0, .string ⟨#[]⟩] 35))
  replace HZq := Lib.hid (show RdVals (wep.alloc (.cells #[.int .u8 0, .int .i64 0, .string ⟨#[]⟩] 35)) (.slice (some ⟨wep.heap.size, 0, none⟩) 1 1) [V.zero] from HZq.out)
  generalize wep.alloc (.cells #[.int .u8 0, .int .i64 0, .string ⟨#[]⟩] 35) = WAq at HZq HXZq ⊢
  refine (num15_any 2 WAq).mono ?_
  rintro e wbq ⟨⟨v1, rfl, h1⟩, x1⟩
  obtain ⟨b1, d1, rfl⟩ := owns3_shape h1
  have HV1q := Lib.hid (RdVals.of_owns (l := numV 2) h1)
  have HXBq := Lib.hid x1
  clear h1 x1
  go_wp2_with fail
  refine (num15_any 1 wbq).mono ?_
  rintro e wcq ⟨⟨v2, rfl, h2⟩, x2⟩
  obtain ⟨b2, d2, rfl⟩ := owns3_shape h2
  have HDq := Lib.hid ((HdRows.one (HZq.out.mono (Ext.trans HXBq.out x2))).append ((HdRows.one (HV1q.out.mono x2)).append (HdRows.one (RdVals.of_owns (l := numV 1) h2))))
  have HXCq := Lib.hid (Ext.trans (Ext.trans HXZq.out HXBq.out) x2)
  have HLq := Lib.hid (lit_rows wcq _ _ HDq.out (by simp [maxLen]))
  replace HLq := Lib.hid (show RdRows (wcq.alloc (.cells #[.slice (some ⟨wep.heap.size, 0, none⟩) 1 1, .slice b1 1 d1, .slice b2 1 d2] 33)) (.slice (some ⟨wcq.heap.size, 0, none⟩) 3 3) [[V.zero], numV 2, numV 1] from HLq.out.rd)
  have HXDq := Lib.hid (Ext.trans HXCq.out (ext_new wcq (.cells #[.slice (some ⟨wep.heap.size, 0, none⟩) 1 1, .slice b1 1 d1, .slice b2 1 d2] 33)))
  clear h2 x2 HZq HXZq HV1q HXBq HDq HXCq
  go_wp2_with fail
  generalize wcq.alloc (.cells #[.slice (some ⟨wep.heap.size, 0, none⟩) 1 1, .slice b1 1 d1, .slice b2 1 d2] 33) = WDq at HLq HXDq ⊢
  refine (refSameRows_any dn _ [[V.zero], numV 2, numV 1] [[V.zero], numV 2, numV 1] WDq (HDNE.out.mono HXDq.out) HLq.out).mono ?_
  rw [decide_eq_true rfl]
  rintro e weq ⟨rfl, xe⟩
  have HXEq := Lib.hid (Ext.trans HXDq.out xe)
  clear xe HLq HXDq
  go_wp2_with fail
  go_ret
  exact ⟨rfl, Ext.trans (Ext.trans HX7.out HXEp.out) HXEq.out⟩

end Go.Proofs.Ytjpdpgjalbjmgaa

/-
  The walks of the laws OrderMerges, OrderBoth, OrderMore.
-/
namespace Go.Proofs.Ytjpdpgjalbjmgaa
open Go.RowKit Go.BigFrame

set_option maxRecDepth 100000 in
set_option maxHeartbeats 4000000 in
theorem orderMerges_walk (u : Value) (xs : List (List V)) (v : Value) (ys : List (List V)) (x : Value) (ks : List Ky) (y : Value) (bs : List Ky) (w : World) (hu : RdRows w u xs) (hfx : ∀ r ∈ xs, ∀ x ∈ r, x.fits ∧ x.s.length ≤ maxLen) (hzu : ∀ n c, u = .slice none n c → n = 0 ∧ c = 0) (hv : RdRows w v ys) (hfy : ∀ r ∈ ys, ∀ x ∈ r, x.fits ∧ x.s.length ≤ maxLen) (hzv : ∀ n c, v = .slice none n c → n = 0 ∧ c = 0) (hx : RdKs w x ks) (_hk : ∀ k ∈ ks, k.fits) (hy : RdKs w y bs) (_hb : ∀ k ∈ bs, k.fits) :
    Calls Try.prog 4 #[u, v, x, y] w fun e w' => e = .returned (.bool true) ∧ Below w.heap.size w w' := by
  have HU := Lib.hid (RdRV.of_rows hu hzu)
  have HV := Lib.hid (RdRV.of_rows hv hzv)
  have HX := Lib.hid hx
  have HY := Lib.hid hy
  have HFX := Lib.hid hfx
  have HFY := Lib.hid hfy
  clear hu hv hx hy hfx hfy hzu hzv
  go_enter Try.func4, Try.ntmps4
  go_wp2_with fail
  refine (few15_any u xs w HU.out HFX.out).mono ?_
  rintro e w1 ⟨⟨fu, M, rfl, hfu, hwu⟩, x1⟩
  have HX1 := Lib.hid x1
  have HFU := Lib.hid hfu
  have HWU := Lib.hid hwu
  clear hfu hwu x1
  go_wp2_with fail
  refine (few15_any v ys w1 (HV.out.mono HX1.out) HFY.out).mono ?_
  rintro e w2 ⟨⟨fv, M', rfl, hfv, hwv⟩, x2⟩
  have HX2 := Lib.hid (Ext.trans HX1.out x2)
  have HFU2 := Lib.hid (HFU.out.mono HX2.out)
  have HFV := Lib.hid (hfv.mono x2)
  have HWV := Lib.hid hwv
  clear hfv hwv x2 HFU
  go_wp2_with fail
  refine (some15_any x ks w2 (HX.out.mono HX2.out)).mono ?_
  rintro e w3 ⟨⟨kv, rfl, hkv⟩, rfl⟩
  have HKV := Lib.hid hkv
  generalize xs.take M = X at HFU2 HWU
  generalize ys.take M' = Y at HFV HWV
  generalize ks.take 10 = K at HKV
  clear hkv HFX HFY HU HV HX HX1
  go_wp2_with fail
  refine (shown15_any w3).mono ?_
  rintro e w4 ⟨rfl, x4⟩
  have HX4 := Lib.hid x4
  clear x4
  go_wp2_with fail
  refine (pMerge15_any fu fv kv X Y K w4 (HFU2.out.mono HX4.out) (HFV.out.mono HX4.out) (HKV.out.mono HX4.out) HWU.out.fitL HWV.out.fitL (by have := HWU.out.1; have := HWV.out.1; omega)).mono ?_
  rintro e w5 ⟨⟨m1, rfl, hm1⟩, x5⟩
  have HM1 := Lib.hid hm1
  have HX5 := Lib.hid (Ext.trans HX4.out x5)
  clear hm1 x5
  go_wp2_with fail
  refine (refMerge15_any fu fv kv X Y K 200 w5 (HFU2.out.mono HX5.out) (HFV.out.mono HX5.out) (HKV.out.mono HX5.out) HWU.out.fit HWV.out.fit (by have := HWU.out.1; have := HWV.out.1; omega)).mono ?_
  rintro e w6 ⟨⟨m2, rfl, hm2⟩, x6⟩
  have HM2 := Lib.hid hm2.rd
  have HX6 := Lib.hid (Ext.trans HX5.out x6)
  have HM16 := Lib.hid (HM1.out.ext x6).rd
  clear hm2 x6 HM1
  go_wp2_with fail
  refine (refSameRows_any m1 m2 _ _ w6 HM16.out HM2.out).mono ?_
  rw [decide_eq_true rfl]
  rintro e w7 ⟨rfl, x7⟩
  have HX7 := Lib.hid (Ext.trans HX6.out x7)
  clear x7 HM16 HM2
  go_wp2_with fail
  refine (some15_any y bs w7 (HY.out.mono (Ext.trans HX2.out HX7.out))).mono ?_
  rintro e w8 ⟨⟨bv, rfl, hbv⟩, rfl⟩
  have HBV := Lib.hid hbv
  clear hbv
  have HQ1 := Lib.hid (fun W (h : Ext w8 W) bv hbv => pBegins15_any kv bv K (bs.take 10) W ((HKV.out.mono HX7.out).mono h) hbv)
  have HQ2 := Lib.hid (fun W (h : Ext w8 W) bv hbv => refBegins15_any kv bv K (bs.take 10) W ((HKV.out.mono HX7.out).mono h) hbv)
  generalize beginsK K (bs.take 10) = Q at HQ1 HQ2
  go_wp2_with fail
  refine (HQ1.out w8 (Ext.keeps.refl _) bv HBV.out).mono ?_
  rintro e w9 ⟨rfl, x9⟩
  have HX9 := Lib.hid x9
  clear x9
  go_wp2_with fail
  refine (some15_any y bs w9 (HY.out.mono (Ext.trans (Ext.trans HX2.out HX7.out) HX9.out))).mono ?_
  rintro e w10 ⟨⟨cv, rfl, hcv⟩, rfl⟩
  have HCV := Lib.hid hcv
  clear hcv
  go_wp2_with fail
  refine (HQ2.out w10 HX9.out cv HCV.out).mono ?_
  rintro e w11 ⟨rfl, x11⟩
  have HX11 := Lib.hid (Ext.trans (Ext.trans (Ext.trans HX2.out HX7.out) HX9.out) x11)
  clear x11
  have hQ : (Q == Q) = true := beq_self_eq_true Q
  go_wp2_with fail
  go_ret
  exact ⟨rfl, HX11.out⟩

set_option maxRecDepth 100000 in
set_option maxHeartbeats 4000000 in
theorem orderBoth_walk (u : Value) (xs : List (List V)) (v : Value) (ys : List (List V)) (x : Value) (ks : List Ky) (w : World) (hu : RdRows w u xs) (hfx : ∀ r ∈ xs, ∀ x ∈ r, x.fits ∧ x.s.length ≤ maxLen) (hzu : ∀ n c, u = .slice none n c → n = 0 ∧ c = 0) (hv : RdRows w v ys) (hfy : ∀ r ∈ ys, ∀ x ∈ r, x.fits ∧ x.s.length ≤ maxLen) (hzv : ∀ n c, v = .slice none n c → n = 0 ∧ c = 0) (hx : RdKs w x ks) (_hk : ∀ k ∈ ks, k.fits) :
    Calls Try.prog 7 #[u, v, x] w fun e w' => e = .returned (.bool true) ∧ Below w.heap.size w w' := by
  obtain ⟨i1, hi1, hy0, hy1, hy2⟩ := info_parts Try.info_row
  have HU := Lib.hid (RdRV.of_rows hu hzu)
  have HV := Lib.hid (RdRV.of_rows hv hzv)
  have HX := Lib.hid hx
  have HFX := Lib.hid hfx
  have HFY := Lib.hid hfy
  clear hu hv hx hfx hfy hzu hzv
  go_enter Try.func7, Try.ntmps7
  go_wp2_with fail
  refine (shown15_any w).mono ?_
  rintro e w0 ⟨rfl, x0⟩
  have HX0 := Lib.hid x0
  clear x0
  go_wp2_with fail
  refine (few15_any u xs w0 (HU.out.mono HX0.out) HFX.out).mono ?_
  rintro e w1 ⟨⟨fu, M, rfl, hfu, hwu⟩, x1⟩
  have HX1 := Lib.hid (Ext.trans HX0.out x1)
  have HFU := Lib.hid (hfu.mono x1)
  have HWU := Lib.hid hwu
  clear hfu hwu x1
  go_wp2_with fail
  refine (few15_any v ys w1 (HV.out.mono HX1.out) HFY.out).mono ?_
  rintro e w2 ⟨⟨fv, M', rfl, hfv, hwv⟩, x2⟩
  have HX2 := Lib.hid (Ext.trans HX1.out x2)
  have HFU2 := Lib.hid (HFU.out.mono x2)
  have HFV := Lib.hid (hfv.mono x2)
  have HWV := Lib.hid hwv
  clear hfv hwv x2 HFU
  go_wp2_with fail
  refine (some15_any x ks w2 (HX.out.mono HX2.out)).mono ?_
  rintro e w3 ⟨⟨kv, rfl, hkv⟩, rfl⟩
  have HKV := Lib.hid hkv
  generalize xs.take M = X at HFU2 HWU
  generalize ys.take M' = Y at HFV HWV
  generalize ks.take 10 = K at HKV
  clear hkv HFX HFY HU HV HX HX1
  obtain ⟨xh, hxh1, hxh2⟩ := HFU2.out
  obtain ⟨yh, hyh1, hyh2⟩ := HFV.out
  have hxl : xh.length ≤ 100 := by rw [hxh2.1]; exact HWU.out.1
  have hyl : yh.length ≤ 100 := by rw [hyh2.1]; exact HWV.out.1
  have HXH := Lib.hid (hxh1.mono (ext_new w3 (.cells #[] 33)))
  have HYH := Lib.hid hyh1
  have HOX := Lib.hid hxh2.oneCell
  have HOY := Lib.hid hyh2.oneCell
  have HXHD := Lib.hid hxh2
  have HYHD := Lib.hid hyh2
  clear hxh1 hxh2 hyh1 hyh2
  go_wp2_with (at_builtin; first
    | (refine wpList_append_rd rfl (.tmp 19) (.tmp 20) 22 rfl w3.heap.size 33 i1 (.slice none 0 0) 24 Try.underlying22 hi1 hy0 hy1 hy2 rfl _ _ _ rfl (empty_rows w3) _ _ rfl HXH.out HOX.out (by unfold maxLen; omega) (by omega) (by simp) ?_
       intro v5 w5 h5 hg5
       rw [List.nil_append, Nat.zero_add] at h5
       have HO5 := Lib.hid h5
       have HB5 := Lib.hid (show Ext w3 w5 from (ext_new w3 _).grown hg5 (by simp) (fun k hk => by cases hk; exact Nat.le_refl _))
       clear h5 hg5)
    | (refine wpList_append_rd rfl (.tmp 21) (.tmp 22) 22 rfl w3.heap.size 33 i1 (.slice none 0 0) 24 Try.underlying22 hi1 hy0 hy1 hy2 rfl _ _ _ rfl HO5.out _ _ rfl (HYH.out.mono HB5.out) HOY.out (by unfold maxLen; omega) (by omega) HB5.out.size ?_
       intro v6 w6 h6 hg6
       have HO6 := Lib.hid h6
       have HB6 := Lib.hid (show Below w3.heap.size w5 w6 from (Below.refl w3.heap.size w5).grown hg6 HB5.out.size (fun b hb => (HO5.out.lt b hb).1))
       clear h6 hg6))
  have HX6 := Lib.hid (show Ext w3 w6 from (show Below w3.heap.size w3 w5 from HB5.out).trans HB6.out)
  have HALL := Lib.hid (show RdRV w6 v6 (X ++ Y) from ⟨xh ++ yh, RdV.of_owns (n := xh.length + yh.length) HO6.out, (HXHD.out.append HYHD.out).mono HX6.out⟩)
  have HFS := Lib.hid (show ∀ Z, FitL Z → FitL (sortS K Z) from fun Z hZ => hZ.sort K)
  have HFX5 := Lib.hid (show FitL X from HWU.out.fitL)
  have HFY5 := Lib.hid (show FitL Y from HWV.out.fitL)
  have HXL := Lib.hid HWU.out.1
  have HYL := Lib.hid HWV.out.1
  have HSL := Lib.hid (show ∀ Z, (sortS K Z).length = Z.length from fun Z => (sortS_is K Z).length (cmpR_pre K))
  have HMS := Lib.hid (sortS_merge K X Y)
  clear HXH HYH HO5 HB5 HO6 HB6 HXHD HYHD HOX HOY hxl hyl
  refine (pSort15_any fu kv X K w6 (HFU2.out.mono HX6.out) (HKV.out.mono HX6.out) HFX5.out (by have := HXL.out; omega)).mono ?_
  rintro e w7 ⟨⟨o1, rfl, h1⟩, x7⟩
  have HO1 := Lib.hid h1
  have HX7 := Lib.hid (Ext.trans HX6.out x7)
  have HALL7 := Lib.hid (HALL.out.mono x7)
  clear h1 x7 HALL HX6
  go_wp2_with fail
  refine (pSort15_any fv kv Y K w7 (HFV.out.mono HX7.out) (HKV.out.mono HX7.out) HFY5.out (by have := HYL.out; omega)).mono ?_
  rintro e w8 ⟨⟨o2, rfl, h2⟩, x8⟩
  have HO2 := Lib.hid h2.rv
  have HO18 := Lib.hid (HO1.out.ext x8).rv
  have HX8 := Lib.hid (Ext.trans HX7.out x8)
  have HALL8 := Lib.hid (HALL7.out.mono x8)
  clear h2 x8 HALL7 HX7 HO1
  go_wp2_with fail
  refine (pMerge15_any o1 o2 kv (sortS K X) (sortS K Y) K w8 HO18.out HO2.out (HKV.out.mono HX8.out) (HFS.out X HFX5.out) (HFS.out Y HFY5.out) (by have h1 := HSL.out X; have h2 := HSL.out Y; have := HXL.out; have := HYL.out; omega)).mono ?_
  rw [HMS.out]
  rintro e w9 ⟨⟨o3, rfl, h3⟩, x9⟩
  have HO3 := Lib.hid h3
  have HX9 := Lib.hid (Ext.trans HX8.out x9)
  have HALL9 := Lib.hid (HALL8.out.mono x9)
  clear h3 x9 HALL8 HX8 HO18 HO2
  go_wp2_with fail
  refine (pSort15_any v6 kv (X ++ Y) K w9 HALL9.out (HKV.out.mono HX9.out) (HFX5.out.append HFY5.out) (by rw [List.length_append]; have := HXL.out; have := HYL.out; omega)).mono ?_
  rintro e w10 ⟨⟨o4, rfl, h4⟩, x10⟩
  have HO4 := Lib.hid h4.rd
  have HO310 := Lib.hid (HO3.out.ext x10).rd
  have HX10 := Lib.hid (Ext.trans HX9.out x10)
  clear h4 x10 HALL9 HX9 HO3
  go_wp2_with fail
  refine (refSameRows_any o3 o4 _ _ w10 HO310.out HO4.out).mono ?_
  rw [decide_eq_true rfl]
  rintro e w11 ⟨rfl, x11⟩
  have HX11 := Lib.hid (Ext.trans HX2.out (Ext.trans HX10.out x11))
  clear x11
  go_wp2_with fail
  go_ret
  exact ⟨rfl, HX11.out⟩

theorem begins_take (K : List Ky) (n : Nat) : beginsK K (K.take n) = true := by
  rw [begins_iff, List.length_take]
  refine ⟨by omega, ?_⟩
  rcases Nat.le_total n K.length with h | h
  · rw [Nat.min_eq_left h]
  · rw [Nat.min_eq_right h, List.take_of_length_le h, List.take_length]

set_option maxRecDepth 100000 in
set_option maxHeartbeats 4000000 in
theorem orderMore_walk (u : Value) (xs : List (List V)) (x : Value) (ks : List Ky) (n : Int) (w : World) (hu : RdRows w u xs) (hfx : ∀ r ∈ xs, ∀ x ∈ r, x.fits ∧ x.s.length ≤ maxLen) (hzu : ∀ n c, u = .slice none n c → n = 0 ∧ c = 0) (hx : RdKs w x ks) (_hk : ∀ k ∈ ks, k.fits) (hn : 0 ≤ n ∧ n ≤ 255) :
    Calls Try.prog 8 #[u, x, .int .u8 n] w fun e w' => e = .returned (.bool true) ∧ Below w.heap.size w w' := by
  have HU := Lib.hid (RdRV.of_rows hu hzu)
  have HX := Lib.hid hx
  have HFX := Lib.hid hfx
  obtain ⟨n, rfl⟩ : ∃ m : Nat, n = (m : Int) := ⟨n.toNat, by omega⟩
  have hn255 : n ≤ 255 := by omega
  clear hu hx hfx hzu hn
  go_enter Try.func8, Try.ntmps8
  go_wp2_with fail
  refine (shown15_any w).mono ?_
  rintro e w0 ⟨rfl, x0⟩
  have HX0 := Lib.hid x0
  clear x0
  go_wp2_with fail
  refine (some15_any x ks w0 (HX.out.mono HX0.out)).mono ?_
  rintro e w1 ⟨⟨kv, rfl, hkv⟩, rfl⟩
  obtain ⟨ka, kc, rfl, hkc1, hkc2⟩ := hkv.shape
  have HKV := Lib.hid hkv
  have hkl : (ks.take 10).length ≤ 10 := by rw [List.length_take]; omega
  generalize ks.take 10 = K at HKV hkc1 hkc2 hkl
  obtain ⟨L, hL⟩ : ∃ L, K.length = L := ⟨_, rfl⟩
  rw [hL] at hkc1 hkl HKV ⊢
  unfold maxLen at hkc2
  obtain ⟨Q, hQ⟩ : ∃ Q, n % (L + 1) = Q := ⟨_, rfl⟩
  have hQL : Q ≤ L := by have := Nat.mod_lt n (show 0 < L + 1 by omega); omega
  have hQc : Q ≤ kc := by omega
  have e1 : (n : Int) % ((L : Int) + 1) = (Q : Int) := by rw [← hQ]; simp
  have HBY := Lib.hid (HKV.out.take Q hQL)
  have HLL := Lib.hid hL
  clear hkv hQ hL
  go_wp2_with fail
  clear e1
  refine (pBegins15_any _ _ K (K.take Q) w1 HKV.out HBY.out).mono ?_
  rw [begins_take]
  rintro e w2 ⟨rfl, x2⟩
  have HX2 := Lib.hid x2
  clear x2
  go_wp2_with fail
  refine (few15_any u xs w2 (HU.out.mono (Ext.trans HX0.out HX2.out)) HFX.out).mono ?_
  rintro e w3 ⟨⟨fu, M, rfl, hfu, hwu⟩, x3⟩
  have HFU := Lib.hid (hfu.mono x3)
  have HWU := Lib.hid hwu
  have HX3 := Lib.hid (Ext.trans HX2.out x3)
  generalize xs.take M = X at HFU HWU
  clear hfu hwu x3
  go_wp2_with fail
  refine (pSort15_any fu _ X K w3 HFU.out (HKV.out.mono HX3.out) HWU.out.fitL (by have := HWU.out.1; omega)).mono ?_
  rintro e w4 ⟨⟨o1, rfl, h1⟩, x4⟩
  have HO1 := Lib.hid h1.rv
  have HX4 := Lib.hid (Ext.trans HX3.out x4)
  clear h1 x4
  go_wp2_with fail
  have HSD := Lib.hid (show sortedR (K.take Q) (sortS K X) = true from decide_eq_true (by
    have h := (sortS_is K X).1
    unfold OrdPure.Rising at h ⊢
    exact h.imp fun h => cmpR_take K Q h))
  refine (pSorted15_any o1 _ (sortS K X) (K.take Q) w4 HO1.out (HBY.out.mono HX4.out) (HWU.out.fitL.sort K) (by rw [(sortS_is K X).length (cmpR_pre K)]; have := HWU.out.1; omega)).mono ?_
  rw [HSD.out]
  rintro e w5 ⟨rfl, x5⟩
  have HX5 := Lib.hid (Ext.trans HX4.out x5)
  clear x5
  go_wp2_with fail
  have HB2 := begins_take K K.length
  rw [List.take_length] at HB2
  refine (pBegins15_any _ _ K K w5 (HKV.out.mono HX5.out) (HKV.out.mono HX5.out)).mono ?_
  rw [HB2]
  rintro e w6 ⟨rfl, x6⟩
  have HX6 := Lib.hid (Ext.trans HX5.out x6)
  clear x6 HB2
  go_wp2_with fail
  have HB3 := begins_take K 0
  rw [List.take_zero] at HB3
  refine (pBegins15_any _ (.slice none 0 0) K [] w6 (HKV.out.mono HX6.out) (RdKs.nil w6)).mono ?_
  rw [HB3]
  rintro e w7 ⟨rfl, x7⟩
  have HX7 := Lib.hid (Ext.trans HX0.out (Ext.trans HX6.out x7))
  clear x7 HB3
  go_wp2_with fail
  go_ret
  exact ⟨rfl, HX7.out⟩

end Go.Proofs.Ytjpdpgjalbjmgaa

/-
  The walk of the law OrderSorts.
-/
namespace Go.Proofs.Ytjpdpgjalbjmgaa
open Go.RowKit Go.BigFrame

/-- Rows of one's own, whatever they hold by now: they may be written. -/
structure Spoil (B : Nat) (w0 w : World) (a : Value) (hs : List Value) (rs : List (List V)) : Prop where
  own : HeadOwn B w a hs
  len : hs.length = rs.length
  rows : ∀ i, (h : i < hs.length) → (h' : i < rs.length) → (∃ ys, w.ownsRow B 35 3 hs[i] rs[i].length ys) ∨ (rs[i].length = 0 ∧ ∃ ao c, hs[i] = .slice ao 0 c ∧ c ≤ maxLen)
  below : Below B w0 w

theorem Spoil.get {B : Nat} {w0 w : World} {a : Value} {hs : List Value} {rs : List (List V)} (h : Spoil B w0 w a hs rs) {i : Nat} (hi : i < rs.length) :
    ∃ ao n c, hs[i]? = some (.slice ao n c) ∧ n = rs[i].length ∧ n ≤ c ∧ c ≤ maxLen ∧ ∀ j, j < n → ∃ g, ao = some ⟨g, 0, none⟩ ∧ (∃ u, w.cell? ⟨g, j * 3 + 1, none⟩ = some u) ∧ w.frozen? ⟨g, j * 3 + 1, none⟩ = false := by
  have hl := h.len
  have h0 := h.rows i (by omega) hi
  have e0 : hs[i]? = some (hs[i]'(by omega)) := List.getElem?_eq_getElem (by omega)
  generalize hs[i]'(by omega) = v at h0 e0
  rcases h0 with ⟨ys, h1⟩ | ⟨h3, ao, c, rfl, hc⟩
  · have h2 := h1.2
    rcases h2 with ⟨rfl, h3⟩ | ⟨g, c, cur, rfl, h4, h5, h6, h7, h8, h9⟩
    · exact ⟨none, 0, 0, e0, h3.symm, Nat.le_refl _, by simp [maxLen], fun j hj => absurd hj (Nat.not_lt_zero _)⟩
    · refine ⟨_, _, c, e0, rfl, h6, h7, fun j hj => ⟨g, rfl, ?_, h1.frozenAt _⟩⟩
      have hjl : j * 3 + 1 < rs[i].length * 3 := by omega
      exact ⟨_, (h1.cellAt _ hjl).trans (List.getElem?_eq_getElem (by rw [h1.1]; exact hjl))⟩
  · exact ⟨ao, 0, c, e0, h3.symm, Nat.zero_le _, hc, fun j hj => absurd hj (Nat.not_lt_zero _)⟩
theorem Spoil.set {B : Nat} {w0 w : World} {a : Value} {hs : List Value} {rs : List (List V)} (h : Spoil B w0 w a hs rs) {i g n c : Nat} (hi : hs[i]? = some (.slice (some ⟨g, 0, none⟩) n c)) (hn0 : 0 < n) (j : Nat) (u : Value) : Spoil B w0 (w.setCell ⟨g, j, none⟩ u) a hs rs := by
  have hil := (List.getElem?_eq_some_iff.1 hi).1
  have hir : i < rs.length := by have := h.len; omega
  have he : hs[i] = .slice (some ⟨g, 0, none⟩) n c := by
    rw [List.getElem?_eq_getElem hil] at hi
    exact Option.some.inj hi
  have hown : w.ownsRow B 33 1 a hs.length hs := by
    rcases h.own with h1 | ⟨h1, -⟩
    · exact h1
    · rw [h1] at hil; simp at hil
  obtain ⟨ys, h1⟩ : ∃ ys, w.ownsRow B 35 3 hs[i] rs[i].length ys := by
    rcases h.rows i hil hir with h1 | ⟨h1, ao, c', e, -⟩
    · exact h1
    · rw [he] at e
      simp only [Value.slice.injEq] at e
      omega
  rw [he] at h1
  have hap := rows_apart h1 hown
  refine ⟨.inl (ownsRow_setCell_other hown (a := ⟨g, j, none⟩) (fun e => hap g rfl e) u), h.len, fun k h2 h3 => ?_, Below.setCell h.below (h1.lt g rfl).1 _⟩
  rcases h.rows k h2 h3 with ⟨zs, h4⟩ | h4
  · left
    by_cases hb : hs[k].ownBlock = some g
    · obtain ⟨g', n', c', e⟩ : ∃ g' n' c', hs[k] = .slice (some ⟨g', 0, none⟩) n' c' := by
        rcases h4.2 with ⟨e, -⟩ | ⟨g', c', cur, e, -⟩
        · rw [e] at hb; cases hb
        · exact ⟨g', _, c', e⟩
      rw [e] at hb h4 ⊢
      have hg : g' = g := by simpa [Value.ownBlock] using hb
      subst hg
      have hn : n' = rs[k].length := by
        rcases h4.2 with ⟨e2, -⟩ | ⟨g2, c2, cur, e2, -⟩
        · cases e2
        · simp only [Value.slice.injEq] at e2
          exact e2.2.1
      subst hn
      exact ⟨_, (h4.stored j u).1⟩
    · exact ⟨zs, ownsRow_setCell_other h4 (a := ⟨g, j, none⟩) hb u⟩
  · exact .inr h4

set_option maxRecDepth 100000 in
set_option maxHeartbeats 4000000 in
theorem orderSorts_walk (u : Value) (xs : List (List V)) (x : Value) (ks : List Ky) (cols : Int) (w : World) (hu : RdRows w u xs) (hfx : ∀ r ∈ xs, ∀ x ∈ r, x.fits ∧ x.s.length ≤ maxLen) (hzu : ∀ n c, u = .slice none n c → n = 0 ∧ c = 0) (hx : RdKs w x ks) (hk : ∀ k ∈ ks, k.fits) (_hc : -9223372036854775808 ≤ cols ∧ cols ≤ 9223372036854775807) :
    Calls Try.prog 3 #[u, x, .int .i64 cols] w fun e w' => e = .returned (.bool true) ∧ Below w.heap.size w w' := by
  have HU := Lib.hid (RdRV.of_rows hu hzu)
  have HX := Lib.hid hx
  have HFX := Lib.hid hfx
  have HKF := Lib.hid hk
  clear hu hx hfx hzu hk
  go_enter Try.func3, Try.ntmps3
  go_wp2_with fail
  refine (shown15_any w).mono ?_
  rintro e w0 ⟨rfl, x0⟩
  have HX0 := Lib.hid x0
  clear x0
  go_wp2_with fail
  refine (few15_any u xs w0 (HU.out.mono HX0.out) HFX.out).mono ?_
  rintro e w1 ⟨⟨fu, M, rfl, hfu, hwu⟩, x1⟩
  have HX1 := Lib.hid (Ext.trans HX0.out x1)
  have HFU := Lib.hid (hfu.mono x1)
  have HWU := Lib.hid hwu
  clear hfu hwu x1
  go_wp2_with fail
  refine (some15_any x ks w1 (HX.out.mono HX1.out)).mono ?_
  rintro e w2 ⟨⟨kv, rfl, hkv⟩, rfl⟩
  have HKV := Lib.hid hkv
  generalize xs.take M = X at HFU HWU
  generalize ks.take 10 = K at HKV
  clear hkv HFX HU
  go_wp2_with fail
  refine (deep15_any fu X w2 HFU.out HWU.out).mono ?_
  rintro e w3 ⟨⟨dv, rfl, hdv⟩, x3⟩
  have HDV := Lib.hid hdv.ans.rd
  have HX3 := Lib.hid x3
  clear hdv x3
  go_wp2_with fail
  refine (pSort15_any fu kv X K w3 (HFU.out.mono HX3.out) (HKV.out.mono HX3.out) HWU.out.fitL (by have := HWU.out.1; omega)).mono ?_
  rintro e w4 ⟨⟨av, rfl, hav⟩, x4⟩
  have HAV := Lib.hid hav
  have HX4 := Lib.hid x4
  clear hav x4
  go_wp2_with fail
  refine (refSort15_any fu kv X K 200 w4 (HFU.out.rd.mono (Ext.trans HX3.out HX4.out)) (HKV.out.mono (Ext.trans HX3.out HX4.out)) HWU.out.fit (by have := HWU.out.1; omega)).mono ?_
  rintro e w5 ⟨⟨bv, rfl, hbv⟩, x5⟩
  have HBV := Lib.hid hbv.rd
  have HAV5 := Lib.hid (HAV.out.ext x5)
  have HX5 := Lib.hid (Ext.trans HX4.out x5)
  clear hbv x5 HAV HX4
  go_wp2_with fail
  refine (refSameRows_any av bv _ _ w5 HAV5.out.rd HBV.out).mono ?_
  rw [decide_eq_true rfl]
  rintro e w6 ⟨rfl, x6⟩
  have HAV6 := Lib.hid (HAV5.out.ext x6)
  have HX6 := Lib.hid (Ext.trans HX5.out x6)
  clear x6 HAV5 HX5 HBV
  go_wp2_with fail
  have HSD1 := Lib.hid (fun W (h : Ext w3 W) => pSorted15_any fu kv X K W (HFU.out.mono (Ext.trans HX3.out h)) (HKV.out.mono (Ext.trans HX3.out h)) HWU.out.fitL (by have := HWU.out.1; omega))
  have HSD2 := Lib.hid (fun W (h : Ext w3 W) => refSorted15_any fu kv X K 200 W (HFU.out.rd.mono (Ext.trans HX3.out h)) (HKV.out.mono (Ext.trans HX3.out h)) HWU.out.fit)
  generalize sortedR K X = Q at HSD1 HSD2
  refine (HSD1.out w6 HX6.out).mono ?_
  rintro e w7 ⟨rfl, x7⟩
  have HAV7 := Lib.hid (HAV6.out.ext x7)
  have HX7 := Lib.hid (Ext.trans HX6.out x7)
  clear x7 HAV6 HX6
  go_wp2_with fail
  refine (HSD2.out w7 HX7.out).mono ?_
  rintro e w8 ⟨rfl, x8⟩
  have HAV8 := Lib.hid (HAV7.out.ext x8)
  have HX8 := Lib.hid (Ext.trans HX7.out x8)
  have hQ : (Q == Q) = true := beq_self_eq_true Q
  clear x8 HAV7 HX7
  go_wp2_with fail
  have HRK1 := Lib.hid (fun W (h : Ext w3 W) => pRight15_any cols x ks W (HX.out.mono (Ext.trans HX1.out (Ext.trans HX3.out h))) HKF.out)
  have HRK2 := Lib.hid (fun W (h : Ext w3 W) => refRight15_any cols x ks W (HX.out.mono (Ext.trans HX1.out (Ext.trans HX3.out h))))
  generalize rightK cols ks = R at HRK1 HRK2
  refine (HRK1.out w8 HX8.out).mono ?_
  rintro e w9 ⟨rfl, x9⟩
  have HAV9 := Lib.hid (HAV8.out.ext x9)
  have HX9 := Lib.hid (Ext.trans HX8.out x9)
  clear x9 HAV8 HX8
  go_wp2_with fail
  refine (HRK2.out w9 HX9.out).mono ?_
  rintro e w10 ⟨rfl, x10⟩
  have HAV10 := Lib.hid (HAV9.out.ext x10)
  have HX10 := Lib.hid (Ext.trans HX9.out x10)
  have hR : (R == R) = true := beq_self_eq_true R
  clear x10 HAV9 HX9 HSD1 HSD2 HRK1 HRK2 HX HKF HKV
  obtain ⟨hs, hs1, hs2⟩ := HAV10.out
  have HSP := Lib.hid (show Spoil w3.heap.size w3 w10 av hs (sortS K X) from ⟨hs1, hs2.1, fun i h h' => by
    rcases hs2.2 i h h' with h3 | ⟨h3, h4⟩
    · exact .inl ⟨_, h3⟩
    · exact .inr ⟨by rw [h3]; rfl, h4⟩, HX10.out⟩)
  have hsl : hs.length = hs.length := rfl
  obtain ⟨ao, ac, rfl, hac1, hac2, -⟩ := RdV.cellsAt hs1.rd
  have HNL := Lib.hid hs2.1
  generalize sortS K X = Z at HSP HNL
  obtain ⟨N, hN⟩ : ∃ N, hs.length = N := ⟨_, rfl⟩
  have HN := Lib.hid hN
  rw [hN] at hac1 HSP ⊢
  unfold maxLen at hac2
  clear hs1 hs2 HAV10 HX10 hsl hN
  go_wp2_with fail
  go_loopw [14, 15, 52, 60] (fun _ _ i _ wr => ∃ j : Nat, j ≤ N ∧ i = .int .i64 j ∧ Spoil w3.heap.size w3 wr (.slice ao N ac) hs Z) (fun _ _ i _ _ => N - (intOf i).toNat)
  case atStart => exact ⟨0, Nat.zero_le _, rfl, HSP.out⟩
  case round =>
    obtain ⟨j, hj, rfl, hsp⟩ := hrel
    have HSP2 := Lib.hid hsp
    clear hsp
    by_cases hlt : j < N
    · have hjz : j < Z.length := by have := HN.out; have := HNL.out; omega
      obtain ⟨a1, a2, a3, ha, ha2, ha3, ha4, hat⟩ := HSP2.out.get hjz
      obtain ⟨g, off, e0, c0⟩ := (RdV.plainV HSP2.out.own.rd).2.2.2 j _ ha
      have HHJ := Lib.hid ha
      have HA2 := Lib.hid ha2
      unfold maxLen at ha4
      clear ha hat ha2
      subst e0
      go_wp2_with fail
      generalize wr = wo at HSP2 ⊢
      clear c0
      go_loopw [15, 60] (fun _ i wr => ∃ c : Nat, c ≤ a2 ∧ i = .int .i64 c ∧ Spoil w3.heap.size w3 wr (.slice (some ⟨g, off, none⟩) N ac) hs Z) (fun _ i _ => a2 - (intOf i).toNat)
      case atStart => exact ⟨0, Nat.zero_le _, rfl, HSP2.out⟩
      case round =>
        obtain ⟨c, hc, rfl, hsp⟩ := hrel
        have HSP3 := Lib.hid hsp
        clear hsp
        by_cases hlt2 : c < a2
        · obtain ⟨b1, b2, b3, hb, hb2, hb3, hb4, hbt⟩ := HSP3.out.get hjz
          have heq := hb.symm.trans HHJ.out
          simp only [Option.some.injEq, Value.slice.injEq] at heq
          obtain ⟨rfl, rfl, rfl⟩ := heq
          obtain ⟨g', e1, ⟨y, k1⟩, f1⟩ := hbt c hlt2
          obtain ⟨g2, off2, e0, c0⟩ := (RdV.plainV HSP3.out.own.rd).2.2.2 j _ hb
          simp only [Option.some.injEq, Addr.mk.injEq, and_true] at e0
          obtain ⟨rfl, rfl⟩ := e0
          subst e1
          have HST := Lib.hid (HSP3.out.set hb (by omega) (c * 3 + 1) (.int .i64 (-77)))
          clear hb hbt hb2
          go_wp2_with fail
          go_roundw
          case rel => exact ⟨c + 1, by omega, by go_num, HST.out⟩
          case measure => simp [intOf]; omega
        · go_wp2_with fail
          go_roundw
          case rel => exact ⟨j + 1, by omega, by go_num, HSP3.out⟩
          case measure => simp [intOf]; omega
    · have HBX := Lib.hid (show Below w3.heap.size w3 wr from HSP2.out.below)
      go_wp2_with fail
      refine (refSameRows_any fu dv X X wr (HFU.out.rd.mono (Ext.trans HX3.out HBX.out)) (HDV.out.mono HBX.out)).mono ?_
      rw [decide_eq_true rfl]
      rintro e w12 ⟨rfl, x12⟩
      have HX12 := Lib.hid (Ext.trans HX1.out (Ext.trans HX3.out (Ext.trans HBX.out x12)))
      clear x12
      go_wp2_with fail
      go_ret
      exact ⟨rfl, HX12.out⟩

end Go.Proofs.Ytjpdpgjalbjmgaa

/-
  What an argument that came in as a value of the document (a struct of a kind, a number, a text) is to a walk.
-/
namespace Go.Proofs.Ytjpdpgjalbjmgaa
open Go.ChangeShapes Go.WideShapes Go.ChangeAt Go.RowKit Go.Joins Go.Deep

section
variable {H : Type} {enc : TypeId × Value → H} {P : Program} {w : World} {base : Nat} {held : Bool}

theorem read_val {r : Reach} {b0 : Nat} {t : TypeId} {f0 f1 f2 : Field} {v : Value} {d : DataW H} {p : List MemPlace} (hs : P.underlying t = some (.struct #[f0, f1, f2])) (h0 : P.underlying f0.type = some (.int .u8)) (h1 : P.underlying f1.type = some (.int .i64)) (h2 : P.underlying f2.type = some .string)
    (hone : oneCellFields P #[f0, f1, f2] = true) (hC : P.cellsOf t = 3)
    (hv : Value.okWide P w r b0 t v) (h : DataW.Trod enc P w base (fun _ => true) held t v d p) :
    ∃ a : V, v = a.val ∧ a.fits ∧ a.s.length ≤ maxLen := by
  obtain ⟨v0, v1, v2, y0, y1, y2, n, rfl, _, _, t0, t1, t2⟩ := open_agg3 hs hone hC hv h
  obtain ⟨z0, e0, _, w0⟩ := DataW.trod_int h0 t0
  obtain ⟨z1, e1, _, w1⟩ := DataW.trod_int h1 t1
  obtain ⟨s, e2, _, w2⟩ := DataW.trod_string h2 t2
  simp only [List.cons.injEq, and_true] at e0 e1 e2
  subst e0 e1 e2
  have b0 := bounds_u8 w0
  have b1 := bounds_i64 w1
  refine ⟨⟨z0, z1, s.data.toList⟩, ?_, ⟨b0.1, b0.2, b1.1, b1.2⟩, ?_⟩
  · unfold V.val
    cases s
    simp
  · show s.data.toList.length ≤ maxLen
    cases s
    simpa [ByteArray.size] using w2

end
end Go.Proofs.Ytjpdpgjalbjmgaa

/-
  What an argument that came in as a row of values of the document is to a walk.
-/
namespace Go.Proofs.Ytjpdpgjalbjmgaa
open Go.ChangeShapes Go.WideShapes Go.ChangeAt Go.RowKit Go.Joins Go.Deep

section
variable {H : Type} {enc : TypeId × Value → H} {P : Program} {w : World} {base : Nat} {held : Bool}

theorem read_vals {t e : TypeId} {f0 f1 f2 : Field} {v : Value} {d : DataW H} {ps : List MemPlace} (ht : P.underlying t = some (.slice e)) (hs : P.underlying e = some (.struct #[f0, f1, f2])) (h0 : P.underlying f0.type = some (.int .u8)) (h1 : P.underlying f1.type = some (.int .i64)) (h2 : P.underlying f2.type = some .string)
    (hone : oneCellFields P #[f0, f1, f2] = true) (hC : P.cellsOf e = 3) (hv : v.cells.toList = [v]) (h : DataW.Trod enc P w base (fun _ => true) held t v d ps) :
    ∃ vs : List V, RdVals w v vs ∧ ∀ x ∈ vs, x.fits ∧ x.s.length ≤ maxLen := by
  obtain ⟨fuel, hf⟩ := h
  rw [hv] at hf
  rcases open_slice ht hf with ⟨hcs, _⟩ | ⟨a, len, cap, m, n, D, Pl, hcs, _, hl, hm, hmm, _, hi⟩
  · obtain rfl : v = .slice none 0 0 := by simpa using hcs
    exact ⟨[], ⟨none, 0, rfl, Nat.le_refl _, by simp [maxLen], fun j hj => by simp at hj⟩, by simp⟩
  · obtain rfl : v = .slice (some a) len cap := by simpa using hcs
    have hmc : m = cap := by simpa using hmm
    have key : ∀ i, i < len → ∃ x : V, (x.fits ∧ x.s.length ≤ maxLen) ∧ ∀ j y, x.cells[j]? = some y → w.cell? ((a.add (i * 3)).add j) = some y := fun i hi' => by
      obtain ⟨cs, hc, ht'⟩ := hi i (by omega)
      rw [hC] at hc
      obtain ⟨_, hcl, hat⟩ := World.cells?_some hc
      match cs, hcl with
      | [c0, c1, c2], _ =>
        obtain ⟨y0, y1, y2, n', _, _, k0, k1, k2⟩ := trod_struct3 hs ht'
        obtain ⟨o0, q0⟩ := hone_of hone 0 f0 rfl
        obtain ⟨o1, q1⟩ := hone_of hone 1 f1 rfl
        obtain ⟨o2, q2⟩ := hone_of hone 2 f2 rfl
        rw [o0, q0] at k0
        rw [o1, q1] at k1
        rw [o2, q2] at k2
        obtain ⟨z0, e0, _, w0⟩ := DataW.trod_int h0 k0
        obtain ⟨z1, e1, _, w1⟩ := DataW.trod_int h1 k1
        obtain ⟨s, e2, _, w2⟩ := DataW.trod_string h2 k2
        have e0' : c0 = .int .u8 z0 := by simpa using e0
        have e1' : c1 = .int .i64 z1 := by simpa using e1
        have e2' : c2 = .string s := by simpa using e2
        subst e0' e1' e2'
        have b0 := bounds_u8 w0
        have b1 := bounds_i64 w1
        have hsl : s.data.toList.length = s.size := Array.length_toList
        have hss : (⟨s.data.toList.toArray⟩ : ByteArray) = s := by cases s; simp
        refine ⟨⟨z0, z1, s.data.toList⟩, ⟨⟨b0.1, b0.2, b1.1, b1.2⟩, by show s.data.toList.length ≤ _; rw [hsl]; exact w2⟩, fun j y hj => ?_⟩
        unfold V.cells at hj
        simp only [hss] at hj
        have hj3 : j < 3 := by
          have := (List.getElem?_eq_some_iff.1 hj).1
          simpa using this
        rw [hat j hj3]
        exact hj
    have hall : ∃ vs : List V, vs.length = len ∧ ∀ i, (hi : i < vs.length) → (vs[i].fits ∧ vs[i].s.length ≤ maxLen) ∧ ∀ j y, (vs[i].cells)[j]? = some y → w.cell? ((a.add (i * 3)).add j) = some y := by
      refine ⟨(List.range len).map fun i => if h : i < len then (key i h).choose else V.zero, by simp, fun i hi' => ?_⟩
      have hil : i < len := by simpa using hi'
      rw [List.getElem_map, List.getElem_range, dif_pos hil]
      exact (key i hil).choose_spec
    obtain ⟨vs, hlen, hvs⟩ := hall
    refine ⟨vs, ⟨some a, cap, by rw [hlen], by omega, hm, fun j hj => ?_⟩, fun x hx => ?_⟩
    · obtain ⟨b, off, spot⟩ := a
      have h00 := (hvs 0 (by omega)).2 0 _ rfl
      have hsp : spot = none := by
        have h := World.cell?_spot h00
        cases spot with
        | none => rfl
        | some x =>
          exfalso
          simp [Addr.add] at h
      subst hsp
      exact ⟨b, off, rfl, fun i y hy => by
        have := (hvs j hj).2 i y hy
        rw [add_at, add_at] at this
        exact this⟩
    · obtain ⟨i, hi', rfl⟩ := List.mem_iff_getElem.1 hx
      exact (hvs i hi').1


theorem read_nil {t e : TypeId} {v : Value} {d : DataW H} {ps : List MemPlace} (ht : P.underlying t = some (.slice e)) (hv : v.cells.toList = [v]) (h : DataW.Trod enc P w base (fun _ => true) held t v d ps) :
    ∀ n c, v = .slice none n c → n = 0 ∧ c = 0 := by
  intro n c hn
  obtain ⟨fuel, hf⟩ := h
  rw [hv] at hf
  rcases open_slice ht hf with ⟨hcs, _⟩ | ⟨a, len, cap, m, n, D, Pl, hcs, _⟩
  · obtain rfl : v = .slice none 0 0 := by simpa using hcs
    simp only [Value.slice.injEq] at hn
    exact ⟨hn.2.1.symm, hn.2.2.symm⟩
  · obtain rfl : v = .slice (some a) len cap := by simpa using hcs
    simp at hn

end
end Go.Proofs.Ytjpdpgjalbjmgaa
