/-
  Texts of this proof, merged: AskP6, Ints, AskRightW.
-/
import Derived.RegionTactic
import Derived.ChangeAlike
import Derived.Test.YtfnmcdjfdhdlmaaDoorZ4
import Derived.Test.YtfnmcdjfdhdlmaaDoorZ12
import Derived.Test.YtfnmcdjfdhdlmaaDoorZ10
import Derived.Test.YtfnmcdjfdhdlmaaDoorZ3
import Derived.Test.YtfnmcdjfdhdlmaaDoorZ8
import Derived.Test.YtfnmcdjfdhdlmaaDoorZ9
/-
  The program's contracts of conditions: Cols.
-/
namespace Go.Proofs.YtfnmcdjfdhdlmaaDoor
open Go.RowKit Go.BigFrame

set_option maxRecDepth 100000 in
set_option maxHeartbeats 4000000 in
theorem pCols14_any (u : Value) (l : List Nd) (w : World) (hu : RdNds w u l) (hl : l.length ≤ 100000) :
    Calls Tryd.prog 10 #[u] w fun e w' => ∃ v, e = .returned v ∧ w'.ownsRow w.heap.size 3 1 v (colsS l).length ((colsS l).map (Value.int .i64)) ∧ Ext w w' := by
  obtain ⟨i0, hi, hz0, hz1, hz2⟩ := info_parts Tryd.info_int8
  obtain ⟨ao, cap, rfl, -, -⟩ := hu.shape
  obtain ⟨-, h1, h2, hc⟩ := hu.plain
  have HC := Lib.hid hc
  have HSO := Lib.hid (cols_sorted l)
  unfold maxLen at h2
  obtain ⟨N, hN⟩ : ∃ N, l.length = N := ⟨_, rfl⟩
  have HN := Lib.hid hN
  rw [hN] at h1 hl ⊢
  clear hu hc hN
  go_enter Tryd.func10, Tryd.ntmps10
  go_wp2_with fail
  go_loopw [3, 8] (fun s i wr => ∃ (j : Nat) (sv : Value), j ≤ N ∧ i = .int .i64 j ∧ sv = s ∧ wr.ownsRow w.heap.size 3 1 sv (colL (l.take j)).length ((colL (l.take j)).map (Value.int .i64)) ∧ (colL (l.take j)).length ≤ j ∧ Ext w wr) (fun _ i _ => N - (intOf i).toNat)
  case atStart => exact ⟨0, .slice none 0 0, Nat.zero_le _, rfl, rfl, owns_nil _ _ _ _, Nat.le_refl _, Ext.keeps.refl _⟩
  case round =>
    obtain ⟨j, sv, hj, rfl, rfl, ho, hln, hx⟩ := hrel
    have HO := Lib.hid ho
    have HX := Lib.hid hx
    clear ho hx
    obtain ⟨sa, sc, rfl, hs1, hs2⟩ := own_shapeP HO.out
    by_cases hlt : j < N
    · have hjl : j < l.length := by have := HN.out; omega
      obtain ⟨g, off, rfl, c0, c1, c2, c3, c4, c5⟩ := HC.out j hjl
      have x0 := (HX.out.cell (lt_of_cell c0)).trans c0
      have x1 := (HX.out.cell (lt_of_cell c1)).trans c1
      have x2 := (HX.out.cell (lt_of_cell c2)).trans c2
      have x3 := (HX.out.cell (lt_of_cell c3)).trans c3
      have x4 := (HX.out.cell (lt_of_cell c4)).trans c4
      have x5 := (HX.out.cell (lt_of_cell c5)).trans c5
      have HS := Lib.hid (show colL (l.take (j + 1)) = colL (l.take j) ++ (if colN l[j] = true then [l[j].col] else []) by
        unfold colL
        rw [List.take_succ_eq_append_getElem hjl, List.filter_append, List.map_append]
        congr 1
        by_cases h : colN l[j] = true
        · rw [if_pos h, List.filter_cons_of_pos h]; rfl
        · rw [if_neg h, List.filter_cons_of_neg h]; rfl)
      have HCN := Lib.hid (pOfColumn_any l[j])
      generalize l[j] = nd at x0 x1 x2 x3 x4 x5 HS HCN
      generalize colL (l.take j) = cs at HO HS hln ⊢
      obtain ⟨L, hL⟩ : ∃ L, cs.length = L := ⟨_, rfl⟩
      have HL := Lib.hid hL
      rw [hL] at HO hln ⊢
      generalize colN nd = b at HS HCN
      obtain ⟨o, c, kd, ⟨vk, vn, vs⟩⟩ := nd
      unfold Nd.val at HCN
      simp only at x0 x1 x2 x3 x4 x5 HCN HS
      have HB := Lib.hid (Blk.new wr [.int .u8 o, .int .i64 c, .int .i64 kd, .int .u8 vk, .int .i64 vn, .string ⟨vs.toArray⟩] 41)
      clear c0 c1 c2 c3 c4 c5 hjl hL
      go_wp2_with fail
      refine (HCN.out _).mono ?_
      rintro e w1 ⟨rfl, hx⟩
      have HX0 := Lib.hid (Ext.trans (ext_new _ _) hx)
      have HX1 := Lib.hid (Ext.trans HX.out HX0.out)
      have HO1 := Lib.hid (owns_ext HO.out HX0.out)
      have e1 : w1.cell? ⟨wr.heap.size, 1, none⟩ = some (.int .i64 c) := (HB.out.ext hx).cell 1 _ rfl
      clear hx
      cases b with
      | false =>
        go_wp2_with fail
        go_roundw
        case rel => exact ⟨j + 1, _, by omega, by go_num, rfl, by rw [HS.out, if_neg (by decide), List.append_nil, HL.out]; exact HO1.out, by rw [HS.out, if_neg (by decide), List.append_nil, HL.out]; omega, HX1.out⟩
        case measure => simp [intOf]; omega
      | true =>
        have HST := Lib.hid (show colL (l.take (j + 1)) = cs ++ [c] by have h := HS.out; simpa using h)
        have hsz := HX1.out.size
        go_wp2_with (at_builtin; go_loud (refine wpList_append_one rfl (.tmp 14) (.tmp 17) 29 rfl w.heap.size 3 i0 (.int .i64 0) 1 8 Tryd.underlying29 hi hz0 hz1 hz2 rfl (by decide) (by decide) _ L _ [.int .i64 c] rfl HO1.out rfl rfl (fun u hu => by rw [List.mem_singleton.1 hu]; rfl) (by omega) hsz ?_); intro v4 w4 hown4 hbel4 hos4 hgr4)
        obtain ⟨va, vc, rfl, hv1, hv2⟩ := own_shapeP hown4
        have HOW := Lib.hid hown4
        have HBL := Lib.hid hbel4
        clear hown4 hbel4 hos4 hgr4
        go_wp2_with fail
        go_roundw
        case rel => exact ⟨j + 1, _, by omega, by go_num, rfl, by rw [HST.out, List.map_append, List.length_append, HL.out]; exact HOW.out, by rw [HST.out, List.length_append, HL.out]; simp; omega, Below.trans HX1.out HBL.out⟩
        case measure => simp [intOf]; omega
    · have e : j = N := by omega
      subst e
      rw [List.take_of_length_le (by have := HN.out; omega)] at HO
      rw [List.take_of_length_le (by have := HN.out; omega)] at hln ⊢
      have HLN := Lib.hid hln
      have HSI := Lib.hid (fun W (h : W.ownsRow w.heap.size 3 1 (.slice sa (colL l).length sc) (colL l).length ((colL l).map (Value.int .i64))) (hb : w.heap.size ≤ W.heap.size) => sortI_any w.heap.size (.slice sa (colL l).length sc) (colL l) W h hb (by have := HLN.out; omega))
      have hml : ((colL l).mergeSort fun x y => decide (x ≤ y)).length = (colL l).length := List.length_mergeSort _
      generalize ((colL l).mergeSort fun x y => decide (x ≤ y)) = s at HSI HSO hml
      have HSL := Lib.hid (show s.length ≤ 100000 by omega)
      clear hln hml
      go_wp2_with fail
      refine (HSI.out _ HO.out HX.out.size).mono ?_
      rintro e w2 ⟨rfl, ho2, hb2⟩
      have HO2 := Lib.hid ho2
      have HX2 := Lib.hid (Below.trans HX.out hb2)
      clear ho2 hb2
      go_wp2_with fail
      refine (compactI_any w.heap.size _ s w2 HO2.out HX2.out.size HSL.out).mono ?_
      rintro e w3 ⟨v3, rfl, ho3, hb3⟩
      rw [HSO.out] at ho3
      have HO3 := Lib.hid ho3
      have HX3 := Lib.hid (Below.trans HX2.out hb3)
      clear ho3 hb3
      go_wp2_with fail
      go_ret
      exact ⟨v3, rfl, HO3.out, HX3.out⟩

end Go.Proofs.YtfnmcdjfdhdlmaaDoor

/-
  The contract of the reference's Ints (warpref05): are both lists?
-/
namespace Go.Proofs.YtfnmcdjfdhdlmaaDoor
open Go.RowKit Go.BigFrame

set_option maxRecDepth 100000 in
theorem refInts_any (u v : Value) (xs ys : List Int) (w : World) (hu : RdV w u (xs.map (Value.int .i64))) (hv : RdV w v (ys.map (Value.int .i64))) (hxl : xs.length ≤ 1000000) (_hyl : ys.length ≤ 1000000) :
    Calls Tryd.prog 9 #[u, v] w fun e w' => e = .returned (.bool (decide (xs = ys))) ∧ Ext w w' := by
  obtain ⟨ao, ca, rfl, h1, h2, hca⟩ := RdV.cellsAt hu
  obtain ⟨bo, cb, rfl, h3, h4, hcb⟩ := RdV.cellsAt hv
  simp only [List.length_map] at *
  have HA := Lib.hid hca
  have HB := Lib.hid hcb
  unfold maxLen at h2 h4
  clear hu hv hca hcb
  by_cases hL : xs.length = ys.length
  · have HL := Lib.hid hL
    generalize hN : ys.length = N at h3 _hyl
    rw [hL, hN] at h1 hxl ⊢
    replace hN := Lib.hid hN
    clear hL
    go_enter Tryd.func9, Tryd.ntmps9
    go_wp2_with fail
    go_loopw [5] (fun i wr => ∃ j : Nat, j ≤ N ∧ i = .int .i64 j ∧ xs.take j = ys.take j ∧ Ext w wr) (fun i _ => N - (intOf i).toNat)
    case atStart => exact ⟨0, Nat.zero_le _, rfl, rfl, Ext.keeps.refl _⟩
    case round =>
      obtain ⟨j, hj, rfl, htk, hext⟩ := hrel
      have HT := Lib.hid htk
      have HE := Lib.hid hext
      clear htk hext
      by_cases hlt : j < N
      · have hjx : j < xs.length := by have := HL.out; have := hN.out; omega
        have hjy : j < ys.length := by have := hN.out; omega
        obtain ⟨x, rfl, hcx⟩ := HA.out j (.int .i64 xs[j]) (by rw [List.getElem?_map, List.getElem?_eq_getElem hjx]; rfl)
        obtain ⟨y, rfl, hcy⟩ := HB.out j (.int .i64 ys[j]) (by rw [List.getElem?_map, List.getElem?_eq_getElem hjy]; rfl)
        have hzx : ∀ z : Later Ext wr.drew, z.val.cell? (x.add j) = some (.int .i64 xs[j]) := fun z => ((Ext.trans HE.out (Ext.trans (Ext.drew wr) z.ext)).cell (lt_of_cell hcx)).trans hcx
        have hzy : ∀ z : Later Ext wr.drew, z.val.cell? (y.add j) = some (.int .i64 ys[j]) := fun z => ((Ext.trans HE.out (Ext.trans (Ext.drew wr) z.ext)).cell (lt_of_cell hcy)).trans hcy
        clear hcx hcy
        have HS := Lib.hid (show xs.take (j + 1) = xs.take j ++ [xs[j]] ∧ ys.take (j + 1) = ys.take j ++ [ys[j]] from ⟨List.take_succ_eq_append_getElem hjx, List.take_succ_eq_append_getElem hjy⟩)
        have HG := Lib.hid (show xs[j]? = some xs[j] ∧ ys[j]? = some ys[j] from ⟨List.getElem?_eq_getElem hjx, List.getElem?_eq_getElem hjy⟩)
        generalize xs[j] = c at hzx HS HG
        generalize ys[j] = d at hzy HS HG
        clear hjx hjy
        by_cases hcd : c = d
        · subst hcd
          go_wp2_with fail
          refine wp_region_segs Ext Ext.keeps [([0, 1, 2, 3, 4, 5, 6, 7, 8], none)] (by kernel_rfl) (by kernel_rfl) (fun c a a' w e h => (by exact ⟨e ▸ h.1, h.2⟩)) ?_
          simp only [pickSegs, pickOps, List.map_cons, List.map_nil, Option.map_none, Option.getD_some, List.getElem?_toArray, List.getElem?_cons_zero, List.getElem?_cons_succ]
          refine wpSegs_none ?_
          repeat go_big_quiet_step (fail)
          refine wpQuiet_nil (wpSegs_nil ?_)
          clear hzx hzy
          go_wp2_with fail
          go_roundw
          case rel => exact ⟨j + 1, by omega, by go_num, by rw [HS.out.1, HS.out.2, HT.out], Ext.trans HE.out (Ext.drew wr)⟩
          case measure => simp [intOf]; omega
        · have hq : (c == d) = false := beq_eq_false_iff_ne.2 hcd
          have HNE := Lib.hid (show decide (xs = ys) = false from decide_eq_false (fun h => by subst h; have h1 := HG.out.1; rw [HG.out.2] at h1; exact hcd (Option.some.inj h1).symm))
          clear hcd
          go_wp2_with fail
          refine wp_region_segs Ext Ext.keeps [([0, 1, 2, 3, 4, 5, 6, 7, 8], none)] (by kernel_rfl) (by kernel_rfl) (fun c a a' w e h => (by exact ⟨e ▸ h.1, h.2⟩)) ?_
          simp only [pickSegs, pickOps, List.map_cons, List.map_nil, Option.map_none, Option.getD_some, List.getElem?_toArray, List.getElem?_cons_zero, List.getElem?_cons_succ]
          refine wpSegs_none ?_
          repeat go_big_quiet_step (fail)
          refine wpQuiet_nil (wpSegs_nil ?_)
          clear hzx hzy
          go_wp2_with fail
          go_ret
          exact ⟨by rw [HNE.out]; rfl, Ext.trans HE.out (Ext.drew wr)⟩
      · have HEQ := Lib.hid (show decide (xs = ys) = true from decide_eq_true (by have h := HT.out; rw [List.take_of_length_le (by have := HL.out; have := hN.out; omega), List.take_of_length_le (by have := hN.out; omega)] at h; exact h))
        go_wp2_with fail
        go_ret
        exact ⟨by rw [HEQ.out]; rfl, HE.out⟩
  · have HNE := Lib.hid (show decide (xs = ys) = false from decide_eq_false (fun h => hL (by rw [h])))
    have hq : ((xs.length : Int) == (ys.length : Int)) = false := by rw [beq_eq_false_iff_ne]; omega
    clear hL
    generalize xs.length = M at hq h1 hxl ⊢
    generalize ys.length = N at hq h3 _hyl ⊢
    go_enter Tryd.func9, Tryd.ntmps9
    go_wp2_with fail
    go_ret
    exact ⟨by rw [HNE.out]; rfl, Ext.keeps.refl _⟩

end Go.Proofs.YtfnmcdjfdhdlmaaDoor

/-
  AskRight: its walk.
-/
namespace Go.Proofs.YtfnmcdjfdhdlmaaDoor
open Go.RowKit Go.BigFrame

theorem cols_le (l : List Nd) : (colsS l).length ≤ l.length := by
  have h : ∀ j, j ≤ l.length → (colsS (l.take j)).length ≤ j := by
    intro j
    induction j with
    | zero => intro _; exact Nat.le_refl _
    | succ j ih =>
      intro hj
      have hjl : j < l.length := by omega
      rw [cols_succ hjl]
      have h1 := ih (by omega)
      split
      · have := insI_len l[j].col (colsS (l.take j)); omega
      · omega
  have e := h l.length (Nat.le_refl _)
  rwa [List.take_of_length_le (Nat.le_refl _)] at e

set_option maxRecDepth 100000 in
set_option maxHeartbeats 8000000 in
theorem askRight_walk (u0 : Value) (K0 : List UInt8) (u1 : Value) (l : List Nd) (w : World) (h0 : Rd w u0 K0) (h1 : RdNds w u1 l) (hf1 : ∀ x ∈ l, x.fits ∧ x.v.s.length ≤ maxLen) (hT : Tabs w) :
    Calls Tryd.prog 3 #[u0, u1] w fun e w' => e = .returned (.bool true) ∧ Below w.heap.size w w' := by
  obtain ⟨K, hk⟩ : ∃ K : List Int, RdV w u0 (K.map (Value.int .u8)) := ⟨K0.map fun c => (c.toNat : Int), by
    unfold Rd at h0
    have e : K0.map bv = (K0.map fun c => (c.toNat : Int)).map (Value.int .u8) := by rw [List.map_map]; rfl
    rwa [e] at h0⟩
  obtain ⟨ko, kc, rfl, k1, k2, -⟩ := RdV.cellsAt hk
  rw [List.length_map] at *
  obtain ⟨no, nc, rfl, n1, n2⟩ := h1.shape
  have HK := Lib.hid hk
  have HN := Lib.hid h1
  have HT := Lib.hid hT
  have HS := Lib.hid (fun W (h : Ext w W) => small14_any _ l W (h1.mono h) (fun x hx => by have := hf1 x hx; unfold maxLen at this; exact ⟨this.1, by omega⟩))
  have HF1 := Lib.hid (show (∀ x ∈ l, x.v.s.length ≤ 200) → FitN 5000 l from fun h x hx => ⟨(hf1 x hx).1, by have := h x hx; omega⟩)
  obtain ⟨N, hN⟩ : ∃ N, K.length = N := ⟨_, rfl⟩
  obtain ⟨M, hM⟩ : ∃ M, l.length = M := ⟨_, rfl⟩
  have HNE := Lib.hid hN
  have HME := Lib.hid hM
  rw [hN] at k1 HK ⊢
  rw [hM] at n1 HN HS ⊢
  unfold maxLen at k2 n2
  clear h0 hk h1 hf1 hT hN hM
  go_enter Tryd.func3, Tryd.ntmps3
  go_wp2_with fail
  refine (shown14_any _ HT.out).mono ?_
  rintro e w1 ⟨rfl, hx⟩
  have HX1 := Lib.hid hx
  clear hx
  by_cases h20 : 20 < N
  · have d : decide (20 < N) = true := decide_eq_true h20
    have d' : decide ((20 : Int) < (N : Int)) = true := decide_eq_true (by omega)
    clear h20
    go_wp2_with fail
    go_ret
    exact ⟨rfl, HX1.out⟩
  · have d : decide (20 < N) = false := decide_eq_false h20
    have d' : decide ((20 : Int) < (N : Int)) = false := decide_eq_false (by omega)
    have HKS := Lib.hid (show K.length ≤ 1000000 by have := HNE.out; omega)
    clear h20
    go_wp2_with fail
    refine (HS.out _ HX1.out).mono ?_
    rintro e w2 ⟨⟨b, rfl, hb⟩, hx⟩
    have HX2 := Lib.hid (Ext.trans HX1.out hx)
    have HB := Lib.hid hb
    clear hx hb
    cases b with
    | false =>
      go_wp2_with fail
      go_ret
      exact ⟨rfl, HX2.out⟩
    | true =>
      have HSM := Lib.hid (HB.out (by first | rfl | trivial))
      have HFN := Lib.hid (HF1.out HSM.out.2)
      have HCL := Lib.hid (show (colsS l).length ≤ 60 from Nat.le_trans (cols_le l) (by have := HSM.out.1; have := HME.out; omega))
      have HLS := Lib.hid (show l.length ≤ 100000 by have := HSM.out.1; have := HME.out; omega)
      go_wp2_with fail
      refine (pRight14_any _ _ K l _ (HK.out.mono HX2.out) HKS.out (HN.out.mono HX2.out) HFN.out (HT.out.mono HX2.out)).mono ?_
      rintro e w3 ⟨rfl, hx⟩
      have HX3 := Lib.hid (Ext.trans HX2.out hx)
      clear hx
      go_wp2_with fail
      refine (refRight14_any _ _ K l _ (HK.out.mono HX3.out) HKS.out (HN.out.mono HX3.out) HFN.out (HT.out.mono HX3.out)).mono ?_
      rintro e w4 ⟨rfl, hx⟩
      have HX4 := Lib.hid (Ext.trans HX3.out hx)
      clear hx
      generalize errA okP K l = E
      have hE : (E == E) = true := by simp
      go_wp2_with fail
      refine (pCols14_any _ l _ (HN.out.mono HX4.out) HLS.out).mono ?_
      rintro e w5 ⟨v5, rfl, ho5, hx⟩
      have HX5 := Lib.hid (Ext.trans HX4.out hx)
      have HR5 := Lib.hid (RdV.of_owns ho5)
      obtain ⟨a5, c5, rfl, -, -⟩ := own_shapeP ho5
      clear hx ho5
      go_wp2_with fail
      refine (refCols14_any _ l _ (HN.out.mono HX5.out) HLS.out).mono ?_
      rintro e w6 ⟨v6, rfl, ho6, hx⟩
      have HX6 := Lib.hid (Ext.trans HX5.out hx)
      have HR56 := Lib.hid (HR5.out.mono hx)
      have HR6 := Lib.hid (RdV.of_owns ho6)
      obtain ⟨a6, c6, rfl, -, -⟩ := own_shapeP ho6
      clear hx ho6
      go_wp2_with fail
      refine (refInts_any _ _ (colsS l) (colsS l) _ HR56.out HR6.out (by have := HCL.out; omega) (by have := HCL.out; omega)).mono ?_
      rintro e w7 ⟨rfl, hx⟩
      have HX7 := Lib.hid (Ext.trans HX6.out hx)
      clear hx
      rw [decide_eq_true (rfl : colsS l = colsS l)]
      go_wp2_with fail
      go_ret
      exact ⟨rfl, HX7.out⟩

end Go.Proofs.YtfnmcdjfdhdlmaaDoor
