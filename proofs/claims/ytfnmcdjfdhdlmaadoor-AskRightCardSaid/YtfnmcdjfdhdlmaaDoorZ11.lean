/-
  Texts of this proof, merged: AskRef4, AskEvalW, OpenVal, OpenVals, OpenRows, OpenZone.
-/
import Derived.Lib.SmallJoins
import Derived.Deep.Slices
import Derived.Deep.Fields
import Derived.Test.YtfnmcdjfdhdlmaaDoorZ10
import Derived.Test.YtfnmcdjfdhdlmaaDoorZ8
import Derived.Test.YtfnmcdjfdhdlmaaDoorZ3
import Derived.Test.YtfnmcdjfdhdlmaaDoorZ1
import Derived.Test.YtfnmcdjfdhdlmaaDoorZ2
/-
  The contract of the document's own Eval: a stack of truths.
-/
namespace Go.Proofs.YtfnmcdjfdhdlmaaDoor
section
open Go.ChangeAt Go.RowKit Go.BigFrame

theorem Tryd.info_u8s : (Tryd.prog.info? 5).map (fun i => (i.zero, i.size, i.bytes)) = some (some (.int .u8 0), 1, 1) := by kernel_rfl
theorem owns_some {base : Nat} {e : TypeId} {w : World} {v : Value} {n : Nat} {xs : List Value} (h : w.ownsRow base e 1 v n xs) (hn : 0 < n) : ∃ g cap, v = .slice (some ⟨g, 0, none⟩) n cap ∧ base ≤ g ∧ n ≤ cap ∧ cap ≤ maxLen := by
  rcases h.2 with ⟨_, h0⟩ | ⟨g, cap, cur, h1, h2, h3, h4, h5, _⟩
  · omega
  · exact ⟨g, cap, h1, h2, h4, h5⟩
theorem rev_drop {α : Type} (st : List α) (q : Nat) (h : q < st.length) : (st.drop q).reverse = (st.drop (q + 1)).reverse ++ [st[q]] := by
  rw [List.drop_eq_getElem_cons h, List.reverse_cons]

set_option maxRecDepth 100000 in
set_option maxHeartbeats 8000000 in
theorem refEval14_any (u v : Value) (K : List Int) (l : List Nd) (r : List V) (w : World) (hu : RdNds w u l) (hf : FitN 5000 l) (hv : RdVals w v r) (hr : FitV 5000 r) (hT : Tabs w) (hR : rightA okP K l) (hk : r.length = K.length) :
    Calls Tryd.prog 14 #[u, v] w fun e w' => e = .returned (.int .u8 (evalS isB l r)) ∧ Ext w w' := by
  obtain ⟨i0, hi, hz0, hz1, hz2⟩ := info_parts Tryd.info_u8s
  have HLF := Lib.hid (fun (n : Nd) (hn : n ∈ l) (x : V) (hx : x ∈ r) W (h : Ext w W) => refLeaf_any n x W (hT.mono h) ⟨(hf n hn).1.v, (hf n hn).2⟩ (hr x hx))
  have HTRI := Lib.hid (stk_tri isB r hR)
  have HEN := Lib.hid (fun i hi => stk_enough (combT isB r) hR.2.2 i hi)
  have HONE := Lib.hid (fun n (hn : n ∈ l) => hR.2.1 n hn)
  have HV := Lib.hid (show ∃ y, stk (combT isB r) l = [y] ∧ evalS isB l r = y by obtain ⟨y, hy, _⟩ := stk_whole (combT isB r) hR.2.2; exact ⟨y, hy, by unfold evalS; rw [hy]; rfl⟩)
  have hl40 := hR.1.2
  obtain ⟨ao, cap, rfl, -, -⟩ := hu.shape
  obtain ⟨-, h1, h2, hc⟩ := hu.plain
  have HC := Lib.hid hc
  obtain ⟨bo, bcap, rfl, -, -⟩ := hv.shape
  obtain ⟨-, k1, k2, kc⟩ := hv.plain
  have KC := Lib.hid kc
  unfold maxLen at h2 k2
  obtain ⟨N, hN⟩ : ∃ N, l.length = N := ⟨_, rfl⟩
  have HN := Lib.hid hN
  obtain ⟨R, hRl⟩ : ∃ R, r.length = R := ⟨_, rfl⟩
  have HRL := Lib.hid hRl
  have HKK := Lib.hid hk
  rw [hN] at h1 hl40 ⊢
  rw [hRl] at k1 ⊢
  generalize hST : stk (combT isB r) = st at HTRI HEN HV
  have HST := Lib.hid (show ∀ n t, st (n :: t) = combT isB r n ((st t).take (kidsN n)) :: (st t).drop (kidsN n) from fun n t => by rw [← hST]; rfl)
  have HST0 := Lib.hid (show st [] = [] by rw [← hST]; rfl)
  have HSL := Lib.hid (show ∀ t, (st t).length ≤ t.length from fun t => by rw [← hST]; exact stk_len _ t)
  clear hu hf hv hr hT hR hk hc kc hN hRl hST
  go_enter Tryd.func14, Tryd.ntmps14
  go_wp2_with fail
  go_loopw [5, 6, 8, 9, 10] (fun s i _ _ _ wr => ∃ (j : Nat) (I : Int) (sv : Value), j ≤ N ∧ I = (j : Int) - 1 ∧ i = .int .i64 I ∧ sv = s ∧ wr.ownsRow w.heap.size 5 1 sv (st (l.drop j)).length (((st (l.drop j)).reverse).map (Value.int .u8)) ∧ Ext w wr) (fun _ i _ _ _ _ => (intOf i + 1).toNat)
  case atStart => exact ⟨N, (N : Int) - 1, .slice none 0 0, Nat.le_refl _, rfl, rfl, rfl, by rw [List.drop_eq_nil_of_le (by have := HN.out; omega), HST0.out]; exact owns_nil _ _ _ _, Ext.keeps.refl _⟩
  case round =>
    obtain ⟨j, I, sv, hj, hI, rfl, rfl, ho, hx⟩ := hrel
    have HO := Lib.hid ho
    have HX := Lib.hid hx
    clear ho hx
    by_cases hj0 : j = 0
    · subst hj0
      obtain rfl : I = -1 := by omega
      obtain ⟨y, hy, hev⟩ := HV.out
      have HO2 := Lib.hid (show wr.ownsRow w.heap.size 5 1 sv 1 [.int .u8 y] from by have h := HO.out; rw [List.drop_zero, hy] at h; exact h)
      have HEV := Lib.hid hev
      clear hy hev hI
      obtain ⟨g, c, rfl, hg1, hg2, hg3⟩ := owns_some HO2.out (by decide)
      have z0 : wr.cell? ⟨g, 0, none⟩ = some (.int .u8 y) := by have h := HO2.out.cells rfl 0 _ rfl; rw [add_at, Nat.zero_add] at h; exact h
      go_wp2_with fail
      go_ret
      exact ⟨by rw [HEV.out]; rfl, HX.out⟩
    · obtain ⟨m, rfl⟩ : ∃ m, j = m + 1 := ⟨j - 1, by omega⟩
      obtain rfl : I = (m : Int) := by omega
      have hml : m < l.length := by have := HN.out; omega
      obtain ⟨g, off, rfl, c0, c1, c2, c3, c4, c5⟩ := HC.out m hml
      have x0 := (HX.out.cell (lt_of_cell c0)).trans c0
      have x1 := (HX.out.cell (lt_of_cell c1)).trans c1
      have x2 := (HX.out.cell (lt_of_cell c2)).trans c2
      have x3 := (HX.out.cell (lt_of_cell c3)).trans c3
      have x4 := (HX.out.cell (lt_of_cell c4)).trans c4
      have x5 := (HX.out.cell (lt_of_cell c5)).trans c5
      have HD := Lib.hid (List.drop_eq_getElem_cons hml)
      have HM := Lib.hid (List.getElem_mem hml)
      have HE1 := Lib.hid (HEN.out m hml)
      have HTR := Lib.hid (HTRI.out (m + 1))
      have HSM := Lib.hid (show st (l.drop m) = combT isB r l[m] ((st (l.drop (m + 1))).take (kidsN l[m])) :: (st (l.drop (m + 1))).drop (kidsN l[m]) by rw [HD.out]; exact HST.out _ _)
      have HSLT := Lib.hid (HSL.out (l.drop (m + 1)))
      have HLEN := Lib.hid (show (l.drop (m + 1)).length ≤ 40 by rw [List.length_drop]; have := HN.out; omega)
      clear c0 c1 c2 c3 c4 c5 hj0 hI
      generalize st (l.drop (m + 1)) = T at HO HE1 HTR HSM HSLT
      generalize l[m] = nd at x0 x1 x2 x3 x4 x5 HD HM HE1 HSM
      have HK1 := Lib.hid (HONE.out nd HM.out)
      have HKD := Lib.hid (fun W => refKids_any nd W)
      rw [kidsD_is HK1.out] at HKD
      have HKS := Lib.hid (oneN_kids HK1.out)
      have HCMB := Lib.hid (comb_step isB r HK1.out (T.take (kidsN nd)) (by rw [List.length_take]; have := HE1.out; omega))
      rw [HCMB.out] at HSM
      have HLN := Lib.hid (fun x hx W h => HLF.out nd HM.out x hx W h)
      have HIN := Lib.hid (show initT isB r nd = if colN nd = true then leafD isB nd (valD r nd) else if nd.op = 3 then 0 else 2 from rfl)
      have HINT := Lib.hid (tri_init isB r nd)
      have HCOL := Lib.hid (show colN nd = true → 0 ≤ nd.col ∧ nd.col < (K.length : Int) from fun h => by have h' := HK1.out.2.2.1; rw [if_pos h] at h'; exact h')
      have HCN := Lib.hid (show colN nd = decide (5 ≤ nd.op ∧ nd.op ≤ 8) from rfl)
      have HSTP := Lib.hid (show ∀ a x, stepT nd a x = if nd.op = 2 then andT a x else if nd.op = 3 then orT a x else notT x from fun _ _ => rfl)
      have HTRF := Lib.hid (fun xs a ha hx => tri_fold (n := nd) xs a ha hx)
      have HVD := Lib.hid (show valD r nd = (r[nd.col.toNat]?).getD V.zero from rfl)
      generalize initT isB r nd = ini at HSM HIN HINT HCMB
      generalize stepT nd = stp at HSM HSTP HTRF HCMB
      generalize colN nd = cn at HIN HCOL HCN
      generalize valD r nd = vd at HIN HVD
      obtain ⟨kn, hkn⟩ : ∃ kn, kidsN nd = kn := ⟨_, rfl⟩
      rw [hkn] at HE1 HSM HKD HKS
      obtain ⟨o, c, kd, ⟨vk, vn, vs⟩⟩ := nd
      unfold Nd.val at HKD HLN
      simp only at x0 x1 x2 x3 x4 x5 HKD HLN HIN HCOL HCN HSTP HKS HVD
      have hkn40 := HKS.out.1
      have HB := Lib.hid (Blk.new wr [.int .u8 o, .int .i64 c, .int .i64 kd, .int .u8 vk, .int .i64 vn, .string ⟨vs.toArray⟩] 41)
      have HX1 := Lib.hid (Ext.trans HX.out (ext_new wr (.cells #[.int .u8 o, .int .i64 c, .int .i64 kd, .int .u8 vk, .int .i64 vn, .string ⟨vs.toArray⟩] 41)))
      have HO1 := Lib.hid (owns_ext HO.out (ext_new wr (.cells #[.int .u8 o, .int .i64 c, .int .i64 kd, .int .u8 vk, .int .i64 vn, .string ⟨vs.toArray⟩] 41)))
      obtain ⟨nb, hnb⟩ : ∃ nb, wr.heap.size = nb := ⟨_, rfl⟩
      obtain ⟨sa, sc, rfl, hs1, hs2⟩ := own_shapeP HO.out
      clear hkn hml HCMB
      by_cases hcol : 5 ≤ o ∧ o ≤ 8
      · have HCO := Lib.hid hcol
        have HCT := Lib.hid (show cn = true by rw [HCN.out]; exact decide_eq_true hcol)
        have HCC := Lib.hid (fun W => refColumn_any o W)
        rw [decide_eq_true hcol] at HCC
        obtain ⟨hc1, hc2⟩ := HCOL.out HCT.out
        obtain ⟨cj, rfl⟩ := Int.eq_ofNat_of_zero_le hc1
        have hcjr : cj < r.length := by have := HKK.out; omega
        have hcjR : cj < R := by have := HRL.out; omega
        obtain ⟨g', off', rfl, y0, y1, y2⟩ := KC.out cj hcjr
        have HVX := Lib.hid (show vd = r[cj] by rw [HVD.out, Int.toNat_natCast, List.getElem?_eq_getElem hcjr]; rfl)
        have HLX := Lib.hid (HLN.out r[cj] (List.getElem_mem hcjr))
        have HY0 := Lib.hid ((HX1.out.cell (lt_of_cell y0)).trans y0)
        have HY1 := Lib.hid ((HX1.out.cell (lt_of_cell y1)).trans y1)
        have HY2 := Lib.hid ((HX1.out.cell (lt_of_cell y2)).trans y2)
        rw [HCT.out, if_pos rfl, HVX.out] at HIN
        clear HVX
        generalize r[cj] = rv at HY0 HY1 HY2 HLX HIN
        obtain ⟨rk, rn, rs⟩ := rv
        unfold V.val at HLX
        simp only at HY0 HY1 HY2 HLX
        have HINI := Lib.hid HIN.out.symm
        generalize leafD isB ⟨o, (cj : Int), kd, ⟨vk, vn, vs⟩⟩ ⟨rk, rn, rs⟩ = lv at HLX HINI HIN
        clear hcol hc1 hc2 hcjr y0 y1 y2
        rw [hnb] at HB
        go_wp2_with fail
        try rw [hnb]
        refine (HCC.out _).mono ?_
        rintro e W' ⟨rfl, rfl⟩
        go_wp2_with fail
        generalize hWA : wr.alloc (.cells #[.int .u8 o, .int .i64 (cj : Int), .int .i64 kd, .int .u8 vk, .int .i64 vn, .string ⟨vs.toArray⟩] 41) = WA at HB HX1 HO1 HY0 HY1 HY2 ⊢
        clear hWA x0 x1 x2 x3 x4 x5
        refine wp_region_segs Ext Ext.keeps [([0, 1, 2, 3, 4, 5], some 6), ([7], none)] (by kernel_rfl) (by kernel_rfl) (fun c a a' w e h => (by exact ⟨e ▸ h.1, h.2⟩)) ?_
        simp only [pickSegs, pickOps, List.map_cons, List.map_nil, Option.map_some, Option.map_none, Option.getD_some, List.getElem?_toArray, List.getElem?_cons_zero, List.getElem?_cons_succ]
        have a0 := later_cell (w := WA) (b := nb) (fun j u hj => HB.out.cell j u hj) 0 (.int .u8 o) rfl
        have a1 := later_cell (w := WA) (b := nb) (fun j u hj => HB.out.cell j u hj) 1 (.int .i64 (cj : Int)) rfl
        have a2 := later_cell (w := WA) (b := nb) (fun j u hj => HB.out.cell j u hj) 2 (.int .i64 kd) rfl
        have a3 := later_cell (w := WA) (b := nb) (fun j u hj => HB.out.cell j u hj) 3 (.int .u8 vk) rfl
        have a4 := later_cell (w := WA) (b := nb) (fun j u hj => HB.out.cell j u hj) 4 (.int .i64 vn) rfl
        have a5 := later_cell (w := WA) (b := nb) (fun j u hj => HB.out.cell j u hj) 5 (.string ⟨vs.toArray⟩) rfl
        have r0 : ∀ z : Later Ext WA.drew, z.val.cell? ⟨g', off' + cj * 3, none⟩ = some (.int .u8 rk) := fun z => ((Ext.trans (Ext.drew WA) z.ext).cell (lt_of_cell HY0.out)).trans HY0.out
        have r1 : ∀ z : Later Ext WA.drew, z.val.cell? ⟨g', off' + cj * 3 + 1, none⟩ = some (.int .i64 rn) := fun z => ((Ext.trans (Ext.drew WA) z.ext).cell (lt_of_cell HY1.out)).trans HY1.out
        have r2 : ∀ z : Later Ext WA.drew, z.val.cell? ⟨g', off' + cj * 3 + 2, none⟩ = some (.string ⟨rs.toArray⟩) := fun z => ((Ext.trans (Ext.drew WA) z.ext).cell (lt_of_cell HY2.out)).trans HY2.out
        refine wpSegs_some fun K hK => ?_
        repeat go_big_quiet_step (fail)
        refine wpQuiet_nil ?_
        clear a0 a1 a2 a3 a4 a5
        clear r0 r1 r2
        go_wp2_with fail
        refine (HLX.out _ (Ext.trans HX1.out (Ext.drew _))).mono ?_
        rintro e W1 ⟨rfl, hx⟩
        have HH1 := Lib.hid hx
        clear hx
        go_wp2_with fail
        refine ⟨HH1.out, hK _ _ ?_⟩
        clear hK K
        refine wpSegs_none ?_
        repeat go_big_quiet_step (fail)
        refine wpQuiet_nil (wpSegs_nil ?_)
        have HWX := Lib.hid (Ext.trans (Ext.drew WA) HH1.out)
        have HBW := Lib.hid (HB.out.ext HWX.out)
        have q3 : (o == (3 : Int)) = false := beq_eq_false_iff_ne.2 (by have := HCO.out; omega)
        have a0 : W1.cell? ⟨nb, 0, none⟩ = some (.int .u8 o) := HBW.out.cell 0 _ rfl
        have a1 : W1.cell? ⟨nb, 1, none⟩ = some (.int .i64 (cj : Int)) := HBW.out.cell 1 _ rfl
        have a2 : W1.cell? ⟨nb, 2, none⟩ = some (.int .i64 kd) := HBW.out.cell 2 _ rfl
        have a3 : W1.cell? ⟨nb, 3, none⟩ = some (.int .u8 vk) := HBW.out.cell 3 _ rfl
        have a4 : W1.cell? ⟨nb, 4, none⟩ = some (.int .i64 vn) := HBW.out.cell 4 _ rfl
        have a5 : W1.cell? ⟨nb, 5, none⟩ = some (.string ⟨vs.toArray⟩) := HBW.out.cell 5 _ rfl
        go_wp2_with fail
        clear a0 a1 a2 a3 a4 a5
        go_loopw [5, 8, 9, 10] (fun s out k _ wr => ∃ (q : Nat) (sv : Value), q ≤ kn ∧ k = .int .i64 q ∧ sv = s ∧ wr.ownsRow w.heap.size 5 1 sv (T.drop q).length (((T.drop q).reverse).map (Value.int .u8)) ∧ out = .int .u8 ((T.take q).foldl stp ini) ∧ Blk wr nb [.int .u8 o, .int .i64 (cj : Int), .int .i64 kd, .int .u8 vk, .int .i64 vn, .string ⟨vs.toArray⟩] 41 ∧ Ext w wr) (fun _ _ k _ _ => kn - (intOf k).toNat)
        case atStart => exact ⟨0, _, Nat.zero_le _, rfl, rfl, owns_ext HO1.out HWX.out, by rw [List.take_zero, List.foldl_nil, HINI.out], HB.out.ext HWX.out, Ext.trans HX1.out HWX.out⟩
        case round =>
          obtain ⟨q, sv, hq, rfl, rfl, ho, rfl, hb, hx⟩ := hrel
          have HO2 := Lib.hid ho
          have HB2 := Lib.hid hb
          have HX2 := Lib.hid hx
          have b0 : wr.cell? ⟨nb, 0, none⟩ = some (.int .u8 o) := HB2.out.cell 0 _ rfl
          have b1 : wr.cell? ⟨nb, 1, none⟩ = some (.int .i64 (cj : Int)) := HB2.out.cell 1 _ rfl
          have b2 : wr.cell? ⟨nb, 2, none⟩ = some (.int .i64 kd) := HB2.out.cell 2 _ rfl
          have b3 : wr.cell? ⟨nb, 3, none⟩ = some (.int .u8 vk) := HB2.out.cell 3 _ rfl
          have b4 : wr.cell? ⟨nb, 4, none⟩ = some (.int .i64 vn) := HB2.out.cell 4 _ rfl
          have b5 : wr.cell? ⟨nb, 5, none⟩ = some (.string ⟨vs.toArray⟩) := HB2.out.cell 5 _ rfl
          have HACC := Lib.hid (HTRF.out (T.take q) ini HINT.out (fun x hx => HTR.out x (List.mem_of_mem_take hx)))
          have HFS := Lib.hid (show ∀ h : q < T.length, (T.take (q + 1)).foldl stp ini = stp ((T.take q).foldl stp ini) T[q] from fun h => by rw [List.take_succ_eq_append_getElem h, List.foldl_append]; rfl)
          obtain ⟨acc, hacc⟩ : ∃ acc, (T.take q).foldl stp ini = acc := ⟨_, rfl⟩
          have HACCE := Lib.hid hacc
          rw [hacc] at HACC HFS ⊢
          clear hacc
          clear ho hb hx
          by_cases hlt : q < kn
          · have hqT : q < T.length := by have := HE1.out; omega
            have HRV := Lib.hid (rev_drop T q hqT)
            have HTQ := Lib.hid (HTR.out _ (List.getElem_mem hqT))
            have HFS2 := Lib.hid (HFS.out hqT)
            obtain ⟨L, hL⟩ : ∃ L, (T.drop (q + 1)).length = L := ⟨_, rfl⟩
            have hL1 : (T.drop q).length = L + 1 := by rw [← hL, List.length_drop, List.length_drop]; omega
            have hL40 : L ≤ 40 := by rw [← hL, List.length_drop]; have := HSLT.out; have := HLEN.out; omega
            rw [HRV.out, hL1] at HO2
            have HLL := Lib.hid hL
            generalize T[q] = xq at HO2 HTQ HFS2
            clear hL hL1 HRV hqT
            obtain ⟨g2, cc, rfl, hg1, hg2, hg3⟩ := owns_some HO2.out (Nat.succ_pos L)
            have hz : ∀ W, Ext wr W → W.cell? ⟨g2, L, none⟩ = some (.int .u8 xq) := fun W h => by
              have h' := (owns_ext HO2.out h).cells rfl L (.int .u8 xq) (by rw [List.map_append, List.getElem?_append_right (by rw [List.length_map, List.length_reverse, HLL.out]; exact Nat.le_refl _), List.length_map, List.length_reverse, HLL.out, Nat.sub_self]; rfl)
              rw [add_at, Nat.zero_add] at h'
              exact h'
            have HZ := Lib.hid hz
            clear hz
            unfold maxLen at hg3
            go_wp2_with fail
            refine (HKD.out _).mono ?_
            rintro e w3 ⟨rfl, hx⟩
            have z0 := HZ.out _ hx
            have HB3 := Lib.hid (HB2.out.ext hx)
            have HX3 := Lib.hid (Ext.trans HX2.out hx)
            have HO3 := Lib.hid (owns_ext HO2.out hx)
            clear hx b0 b1 b2 b3 b4 b5
            have b0 : w3.cell? ⟨nb, 0, none⟩ = some (.int .u8 o) := HB3.out.cell 0 _ rfl
            exact absurd hlt (by have := HKS.out.2.2.2 (by have := HCO.out; omega) (by have := HCO.out; omega) (by have := HCO.out; omega); omega)
          · obtain rfl : q = kn := by omega
            obtain ⟨L, hL⟩ : ∃ L, (T.drop q).length = L := ⟨_, rfl⟩
            have hL40 : L ≤ 40 := by rw [← hL, List.length_drop]; have := HSLT.out; have := HLEN.out; omega
            rw [hL] at HO2
            have HLL := Lib.hid hL
            clear hL hlt
            obtain ⟨ea, ec, rfl, he1, he2⟩ := own_shapeP HO2.out
            go_wp2_with fail
            refine (HKD.out _).mono ?_
            rintro e w3 ⟨rfl, hx⟩
            have HX3 := Lib.hid (Ext.trans HX2.out hx)
            have HO3 := Lib.hid (owns_ext HO2.out hx)
            clear hx b0 b1 b2 b3 b4 b5
            have hsz := HX3.out.size
            go_wp2_with (at_builtin; go_loud (refine wpList_append_one rfl (.tmp 66) (.tmp 68) 22 rfl w.heap.size 5 i0 (.int .u8 0) 1 1 Tryd.underlying22 hi hz0 hz1 hz2 rfl (by decide) (by decide) _ L _ [.int .u8 acc] rfl HO3.out rfl rfl (fun u hu => by rw [List.mem_singleton.1 hu]; rfl) (by omega) hsz ?_); intro v4 w4 hown4 hbel4 hos4 hgr4)
            obtain ⟨va, vc, rfl, hv1, hv2⟩ := own_shapeP hown4
            have HOW := Lib.hid hown4
            have HBL := Lib.hid hbel4
            clear hown4 hbel4 hos4 hgr4
            go_wp2_with fail
            go_roundw
            case rel => exact ⟨m, (m : Int) - 1, _, by omega, rfl, by go_num, rfl, by
              rw [HSM.out, List.length_cons, HLL.out, List.reverse_cons, List.map_append, HACCE.out]
              exact HOW.out, Below.trans HX3.out HBL.out⟩
            case measure => first | (simp [intOf]; omega) | simp [intOf]
      · have HCT := Lib.hid (show cn = false by rw [HCN.out]; exact decide_eq_false hcol)
        have HCC := Lib.hid (fun W => refColumn_any o W)
        rw [decide_eq_false hcol] at HCC
        rw [HCT.out, if_neg (by decide)] at HIN
        clear hcol
        rw [hnb] at HB
        by_cases h3 : o = 3
        · subst h3
          have HINI := Lib.hid (show (0 : Int) = ini by rw [HIN.out, if_pos rfl])
          go_wp2_with fail
          try rw [hnb]
          refine (HCC.out _).mono ?_
          rintro e W' ⟨rfl, rfl⟩
          generalize hWA : wr.alloc (.cells #[.int .u8 3, .int .i64 c, .int .i64 kd, .int .u8 vk, .int .i64 vn, .string ⟨vs.toArray⟩] 41) = WA at HB HX1 HO1 ⊢
          clear hWA x0 x1 x2 x3 x4 x5
          have a0 : WA.cell? ⟨nb, 0, none⟩ = some (.int .u8 3) := HB.out.cell 0 _ rfl
          have a1 : WA.cell? ⟨nb, 1, none⟩ = some (.int .i64 c) := HB.out.cell 1 _ rfl
          have a2 : WA.cell? ⟨nb, 2, none⟩ = some (.int .i64 kd) := HB.out.cell 2 _ rfl
          have a3 : WA.cell? ⟨nb, 3, none⟩ = some (.int .u8 vk) := HB.out.cell 3 _ rfl
          have a4 : WA.cell? ⟨nb, 4, none⟩ = some (.int .i64 vn) := HB.out.cell 4 _ rfl
          have a5 : WA.cell? ⟨nb, 5, none⟩ = some (.string ⟨vs.toArray⟩) := HB.out.cell 5 _ rfl
          go_wp2_with fail
          clear a0 a1 a2 a3 a4 a5
          go_loopw [5, 8, 9, 10] (fun s out k _ wr => ∃ (q : Nat) (sv : Value), q ≤ kn ∧ k = .int .i64 q ∧ sv = s ∧ wr.ownsRow w.heap.size 5 1 sv (T.drop q).length (((T.drop q).reverse).map (Value.int .u8)) ∧ out = .int .u8 ((T.take q).foldl stp ini) ∧ Blk wr nb [.int .u8 3, .int .i64 c, .int .i64 kd, .int .u8 vk, .int .i64 vn, .string ⟨vs.toArray⟩] 41 ∧ Ext w wr) (fun _ _ k _ _ => kn - (intOf k).toNat)
          case atStart => exact ⟨0, _, Nat.zero_le _, rfl, rfl, HO1.out, by rw [List.take_zero, List.foldl_nil, HINI.out], HB.out, HX1.out⟩
          case round =>
            obtain ⟨q, sv, hq, rfl, rfl, ho, rfl, hb, hx⟩ := hrel
            have HO2 := Lib.hid ho
            have HB2 := Lib.hid hb
            have HX2 := Lib.hid hx
            have b0 : wr.cell? ⟨nb, 0, none⟩ = some (.int .u8 3) := HB2.out.cell 0 _ rfl
            have b1 : wr.cell? ⟨nb, 1, none⟩ = some (.int .i64 c) := HB2.out.cell 1 _ rfl
            have b2 : wr.cell? ⟨nb, 2, none⟩ = some (.int .i64 kd) := HB2.out.cell 2 _ rfl
            have b3 : wr.cell? ⟨nb, 3, none⟩ = some (.int .u8 vk) := HB2.out.cell 3 _ rfl
            have b4 : wr.cell? ⟨nb, 4, none⟩ = some (.int .i64 vn) := HB2.out.cell 4 _ rfl
            have b5 : wr.cell? ⟨nb, 5, none⟩ = some (.string ⟨vs.toArray⟩) := HB2.out.cell 5 _ rfl
            have HACC := Lib.hid (HTRF.out (T.take q) ini HINT.out (fun x hx => HTR.out x (List.mem_of_mem_take hx)))
            have HFS := Lib.hid (show ∀ h : q < T.length, (T.take (q + 1)).foldl stp ini = stp ((T.take q).foldl stp ini) T[q] from fun h => by rw [List.take_succ_eq_append_getElem h, List.foldl_append]; rfl)
            obtain ⟨acc, hacc⟩ : ∃ acc, (T.take q).foldl stp ini = acc := ⟨_, rfl⟩
            have HACCE := Lib.hid hacc
            rw [hacc] at HACC HFS ⊢
            clear hacc
            clear ho hb hx
            by_cases hlt : q < kn
            · have hqT : q < T.length := by have := HE1.out; omega
              have HRV := Lib.hid (rev_drop T q hqT)
              have HTQ := Lib.hid (HTR.out _ (List.getElem_mem hqT))
              have HFS2 := Lib.hid (HFS.out hqT)
              obtain ⟨L, hL⟩ : ∃ L, (T.drop (q + 1)).length = L := ⟨_, rfl⟩
              have hL1 : (T.drop q).length = L + 1 := by rw [← hL, List.length_drop, List.length_drop]; omega
              have hL40 : L ≤ 40 := by rw [← hL, List.length_drop]; have := HSLT.out; have := HLEN.out; omega
              rw [HRV.out, hL1] at HO2
              have HLL := Lib.hid hL
              generalize T[q] = xq at HO2 HTQ HFS2
              clear hL hL1 HRV hqT
              obtain ⟨g2, cc, rfl, hg1, hg2, hg3⟩ := owns_some HO2.out (Nat.succ_pos L)
              have hz : ∀ W, Ext wr W → W.cell? ⟨g2, L, none⟩ = some (.int .u8 xq) := fun W h => by
                have h' := (owns_ext HO2.out h).cells rfl L (.int .u8 xq) (by rw [List.map_append, List.getElem?_append_right (by rw [List.length_map, List.length_reverse, HLL.out]; exact Nat.le_refl _), List.length_map, List.length_reverse, HLL.out, Nat.sub_self]; rfl)
                rw [add_at, Nat.zero_add] at h'
                exact h'
              have HZ := Lib.hid hz
              clear hz
              unfold maxLen at hg3
              go_wp2_with fail
              refine (HKD.out _).mono ?_
              rintro e w3 ⟨rfl, hx⟩
              have z0 := HZ.out _ hx
              have HB3 := Lib.hid (HB2.out.ext hx)
              have HX3 := Lib.hid (Ext.trans HX2.out hx)
              have HO3 := Lib.hid (owns_ext HO2.out hx)
              clear hx b0 b1 b2 b3 b4 b5
              have b0 : w3.cell? ⟨nb, 0, none⟩ = some (.int .u8 3) := HB3.out.cell 0 _ rfl
              go_wp2_with fail
              refine (refOr_any acc xq (tri_bounds HACC.out) (tri_bounds HTQ.out) _).mono ?_
              rintro e w4 ⟨rfl, hx⟩
              have HXX := Lib.hid hx
              clear hx
              go_wp2_with fail
              go_roundw
              case rel => exact ⟨q + 1, _, by omega, by go_num, rfl, by rw [HLL.out]; have h := owns_take (owns_ext HO3.out HXX.out) L (Nat.le_succ L); rwa [List.map_append, List.take_left' (by rw [List.length_map, List.length_reverse, HLL.out])] at h, by rw [HFS2.out, HSTP.out]; simp, HB3.out.ext HXX.out, Ext.trans HX3.out HXX.out⟩
              case measure => simp [intOf]; omega
            · obtain rfl : q = kn := by omega
              obtain ⟨L, hL⟩ : ∃ L, (T.drop q).length = L := ⟨_, rfl⟩
              have hL40 : L ≤ 40 := by rw [← hL, List.length_drop]; have := HSLT.out; have := HLEN.out; omega
              rw [hL] at HO2
              have HLL := Lib.hid hL
              clear hL hlt
              obtain ⟨ea, ec, rfl, he1, he2⟩ := own_shapeP HO2.out
              go_wp2_with fail
              refine (HKD.out _).mono ?_
              rintro e w3 ⟨rfl, hx⟩
              have HX3 := Lib.hid (Ext.trans HX2.out hx)
              have HO3 := Lib.hid (owns_ext HO2.out hx)
              clear hx b0 b1 b2 b3 b4 b5
              have hsz := HX3.out.size
              go_wp2_with (at_builtin; go_loud (refine wpList_append_one rfl (.tmp 66) (.tmp 68) 22 rfl w.heap.size 5 i0 (.int .u8 0) 1 1 Tryd.underlying22 hi hz0 hz1 hz2 rfl (by decide) (by decide) _ L _ [.int .u8 acc] rfl HO3.out rfl rfl (fun u hu => by rw [List.mem_singleton.1 hu]; rfl) (by omega) hsz ?_); intro v4 w4 hown4 hbel4 hos4 hgr4)
              obtain ⟨va, vc, rfl, hv1, hv2⟩ := own_shapeP hown4
              have HOW := Lib.hid hown4
              have HBL := Lib.hid hbel4
              clear hown4 hbel4 hos4 hgr4
              go_wp2_with fail
              go_roundw
              case rel => exact ⟨m, (m : Int) - 1, _, by omega, rfl, by go_num, rfl, by
                rw [HSM.out, List.length_cons, HLL.out, List.reverse_cons, List.map_append, HACCE.out]
                exact HOW.out, Below.trans HX3.out HBL.out⟩
              case measure => first | (simp [intOf]; omega) | simp [intOf]
        · have q3 : (o == (3 : Int)) = false := beq_eq_false_iff_ne.2 h3
          have HO3N := Lib.hid h3
          have HINI := Lib.hid (show (2 : Int) = ini by rw [HIN.out, if_neg h3])
          clear h3
          go_wp2_with fail
          try rw [hnb]
          refine (HCC.out _).mono ?_
          rintro e W' ⟨rfl, rfl⟩
          generalize hWA : wr.alloc (.cells #[.int .u8 o, .int .i64 c, .int .i64 kd, .int .u8 vk, .int .i64 vn, .string ⟨vs.toArray⟩] 41) = WA at HB HX1 HO1 ⊢
          clear hWA x0 x1 x2 x3 x4 x5
          have a0 : WA.cell? ⟨nb, 0, none⟩ = some (.int .u8 o) := HB.out.cell 0 _ rfl
          have a1 : WA.cell? ⟨nb, 1, none⟩ = some (.int .i64 c) := HB.out.cell 1 _ rfl
          have a2 : WA.cell? ⟨nb, 2, none⟩ = some (.int .i64 kd) := HB.out.cell 2 _ rfl
          have a3 : WA.cell? ⟨nb, 3, none⟩ = some (.int .u8 vk) := HB.out.cell 3 _ rfl
          have a4 : WA.cell? ⟨nb, 4, none⟩ = some (.int .i64 vn) := HB.out.cell 4 _ rfl
          have a5 : WA.cell? ⟨nb, 5, none⟩ = some (.string ⟨vs.toArray⟩) := HB.out.cell 5 _ rfl
          go_wp2_with fail
          clear a0 a1 a2 a3 a4 a5
          go_loopw [5, 8, 9, 10] (fun s out k _ wr => ∃ (q : Nat) (sv : Value), q ≤ kn ∧ k = .int .i64 q ∧ sv = s ∧ wr.ownsRow w.heap.size 5 1 sv (T.drop q).length (((T.drop q).reverse).map (Value.int .u8)) ∧ out = .int .u8 ((T.take q).foldl stp ini) ∧ Blk wr nb [.int .u8 o, .int .i64 c, .int .i64 kd, .int .u8 vk, .int .i64 vn, .string ⟨vs.toArray⟩] 41 ∧ Ext w wr) (fun _ _ k _ _ => kn - (intOf k).toNat)
          case atStart => exact ⟨0, _, Nat.zero_le _, rfl, rfl, HO1.out, by rw [List.take_zero, List.foldl_nil, HINI.out], HB.out, HX1.out⟩
          case round =>
            obtain ⟨q, sv, hq, rfl, rfl, ho, rfl, hb, hx⟩ := hrel
            have HO2 := Lib.hid ho
            have HB2 := Lib.hid hb
            have HX2 := Lib.hid hx
            have b0 : wr.cell? ⟨nb, 0, none⟩ = some (.int .u8 o) := HB2.out.cell 0 _ rfl
            have b1 : wr.cell? ⟨nb, 1, none⟩ = some (.int .i64 c) := HB2.out.cell 1 _ rfl
            have b2 : wr.cell? ⟨nb, 2, none⟩ = some (.int .i64 kd) := HB2.out.cell 2 _ rfl
            have b3 : wr.cell? ⟨nb, 3, none⟩ = some (.int .u8 vk) := HB2.out.cell 3 _ rfl
            have b4 : wr.cell? ⟨nb, 4, none⟩ = some (.int .i64 vn) := HB2.out.cell 4 _ rfl
            have b5 : wr.cell? ⟨nb, 5, none⟩ = some (.string ⟨vs.toArray⟩) := HB2.out.cell 5 _ rfl
            have HACC := Lib.hid (HTRF.out (T.take q) ini HINT.out (fun x hx => HTR.out x (List.mem_of_mem_take hx)))
            have HFS := Lib.hid (show ∀ h : q < T.length, (T.take (q + 1)).foldl stp ini = stp ((T.take q).foldl stp ini) T[q] from fun h => by rw [List.take_succ_eq_append_getElem h, List.foldl_append]; rfl)
            obtain ⟨acc, hacc⟩ : ∃ acc, (T.take q).foldl stp ini = acc := ⟨_, rfl⟩
            have HACCE := Lib.hid hacc
            rw [hacc] at HACC HFS ⊢
            clear hacc
            clear ho hb hx
            by_cases hlt : q < kn
            · have hqT : q < T.length := by have := HE1.out; omega
              have HRV := Lib.hid (rev_drop T q hqT)
              have HTQ := Lib.hid (HTR.out _ (List.getElem_mem hqT))
              have HFS2 := Lib.hid (HFS.out hqT)
              obtain ⟨L, hL⟩ : ∃ L, (T.drop (q + 1)).length = L := ⟨_, rfl⟩
              have hL1 : (T.drop q).length = L + 1 := by rw [← hL, List.length_drop, List.length_drop]; omega
              have hL40 : L ≤ 40 := by rw [← hL, List.length_drop]; have := HSLT.out; have := HLEN.out; omega
              rw [HRV.out, hL1] at HO2
              have HLL := Lib.hid hL
              generalize T[q] = xq at HO2 HTQ HFS2
              clear hL hL1 HRV hqT
              obtain ⟨g2, cc, rfl, hg1, hg2, hg3⟩ := owns_some HO2.out (Nat.succ_pos L)
              have hz : ∀ W, Ext wr W → W.cell? ⟨g2, L, none⟩ = some (.int .u8 xq) := fun W h => by
                have h' := (owns_ext HO2.out h).cells rfl L (.int .u8 xq) (by rw [List.map_append, List.getElem?_append_right (by rw [List.length_map, List.length_reverse, HLL.out]; exact Nat.le_refl _), List.length_map, List.length_reverse, HLL.out, Nat.sub_self]; rfl)
                rw [add_at, Nat.zero_add] at h'
                exact h'
              have HZ := Lib.hid hz
              clear hz
              unfold maxLen at hg3
              go_wp2_with fail
              refine (HKD.out _).mono ?_
              rintro e w3 ⟨rfl, hx⟩
              have z0 := HZ.out _ hx
              have HB3 := Lib.hid (HB2.out.ext hx)
              have HX3 := Lib.hid (Ext.trans HX2.out hx)
              have HO3 := Lib.hid (owns_ext HO2.out hx)
              clear hx b0 b1 b2 b3 b4 b5
              have b0 : w3.cell? ⟨nb, 0, none⟩ = some (.int .u8 o) := HB3.out.cell 0 _ rfl
              by_cases h2 : o = 2
              · subst h2
                go_wp2_with fail
                refine (refAnd_any acc xq (tri_bounds HACC.out) (tri_bounds HTQ.out) _).mono ?_
                rintro e w4 ⟨rfl, hx⟩
                have HXX := Lib.hid hx
                clear hx
                go_wp2_with fail
                go_roundw
                case rel => exact ⟨q + 1, _, by omega, by go_num, rfl, by rw [HLL.out]; have h := owns_take (owns_ext HO3.out HXX.out) L (Nat.le_succ L); rwa [List.map_append, List.take_left' (by rw [List.length_map, List.length_reverse, HLL.out])] at h, by rw [HFS2.out, HSTP.out]; simp, HB3.out.ext HXX.out, Ext.trans HX3.out HXX.out⟩
                case measure => simp [intOf]; omega
              · have q2 : (o == (2 : Int)) = false := beq_eq_false_iff_ne.2 h2
                have H2 := Lib.hid h2
                clear h2
                go_wp2_with fail
                refine (refNot_any xq (tri_bounds HTQ.out) _).mono ?_
                rintro e w4 ⟨rfl, hx⟩
                have HXX := Lib.hid hx
                clear hx
                go_wp2_with fail
                go_roundw
                case rel => exact ⟨q + 1, _, by omega, by go_num, rfl, by rw [HLL.out]; have h := owns_take (owns_ext HO3.out HXX.out) L (Nat.le_succ L); rwa [List.map_append, List.take_left' (by rw [List.length_map, List.length_reverse, HLL.out])] at h, by rw [HFS2.out, HSTP.out, if_neg H2.out, if_neg HO3N.out], HB3.out.ext HXX.out, Ext.trans HX3.out HXX.out⟩
                case measure => simp [intOf]; omega
            · obtain rfl : q = kn := by omega
              obtain ⟨L, hL⟩ : ∃ L, (T.drop q).length = L := ⟨_, rfl⟩
              have hL40 : L ≤ 40 := by rw [← hL, List.length_drop]; have := HSLT.out; have := HLEN.out; omega
              rw [hL] at HO2
              have HLL := Lib.hid hL
              clear hL hlt
              obtain ⟨ea, ec, rfl, he1, he2⟩ := own_shapeP HO2.out
              go_wp2_with fail
              refine (HKD.out _).mono ?_
              rintro e w3 ⟨rfl, hx⟩
              have HX3 := Lib.hid (Ext.trans HX2.out hx)
              have HO3 := Lib.hid (owns_ext HO2.out hx)
              clear hx b0 b1 b2 b3 b4 b5
              have hsz := HX3.out.size
              go_wp2_with (at_builtin; go_loud (refine wpList_append_one rfl (.tmp 66) (.tmp 68) 22 rfl w.heap.size 5 i0 (.int .u8 0) 1 1 Tryd.underlying22 hi hz0 hz1 hz2 rfl (by decide) (by decide) _ L _ [.int .u8 acc] rfl HO3.out rfl rfl (fun u hu => by rw [List.mem_singleton.1 hu]; rfl) (by omega) hsz ?_); intro v4 w4 hown4 hbel4 hos4 hgr4)
              obtain ⟨va, vc, rfl, hv1, hv2⟩ := own_shapeP hown4
              have HOW := Lib.hid hown4
              have HBL := Lib.hid hbel4
              clear hown4 hbel4 hos4 hgr4
              go_wp2_with fail
              go_roundw
              case rel => exact ⟨m, (m : Int) - 1, _, by omega, rfl, by go_num, rfl, by
                rw [HSM.out, List.length_cons, HLL.out, List.reverse_cons, List.map_append, HACCE.out]
                exact HOW.out, Below.trans HX3.out HBL.out⟩
              case measure => first | (simp [intOf]; omega) | simp [intOf]

end
end Go.Proofs.YtfnmcdjfdhdlmaaDoor

/-
  AskEval: its walk.
-/
namespace Go.Proofs.YtfnmcdjfdhdlmaaDoor
open Go.RowKit Go.BigFrame

def kI (K : List UInt8) : List Int := K.map fun c => (c.toNat : Int)
theorem rd_kI {w : World} {u : Value} {K : List UInt8} (h : Rd w u K) : RdV w u ((kI K).map (Value.int .u8)) := by
  unfold Rd at h
  have e : K.map bv = (kI K).map (Value.int .u8) := by unfold kI; rw [List.map_map]; rfl
  rwa [e] at h

set_option maxRecDepth 100000 in
set_option maxHeartbeats 8000000 in
theorem askEval_walk (u0 : Value) (K0 : List UInt8) (u1 : Value) (l : List Nd) (u2 : Value) (rs : List (List V)) (w : World) (h0 : Rd w u0 K0) (h1 : RdNds w u1 l) (hf1 : ∀ x ∈ l, x.fits ∧ x.v.s.length ≤ maxLen) (h2 : RdRows w u2 rs) (hf2 : ∀ vs ∈ rs, ∀ x ∈ vs, x.fits ∧ x.s.length ≤ maxLen) (hT : Tabs w) :
    Calls Tryd.prog 4 #[u0, u1, u2] w fun e w' => e = .returned (.bool true) ∧ Below w.heap.size w w' := by
  have hk := rd_kI h0
  have hKl : (kI K0).length = K0.length := List.length_map _
  generalize kI K0 = K at hk hKl
  obtain ⟨ko, kc, rfl, k1, k2, -⟩ := RdV.cellsAt hk
  rw [List.length_map] at *
  obtain ⟨no, nc, rfl, n1, n2⟩ := h1.shape
  obtain ⟨ao, ac, rfl, a1, a2, hat⟩ := h2
  have HK := Lib.hid hk
  have HN := Lib.hid h1
  have HT := Lib.hid hT
  have HAT := Lib.hid hat
  have HF2 := Lib.hid hf2
  have hKm : K.length ≤ 9223372036854775807 := by unfold maxLen at k2; omega
  have HS := Lib.hid (fun W (h : Ext w W) => small14_any _ l W (h1.mono h) (fun x hx => by have := hf1 x hx; unfold maxLen at this; exact ⟨this.1, by omega⟩))
  have HF1 := Lib.hid (show (∀ x ∈ l, x.v.s.length ≤ 200) → FitN 5000 l from fun h x hx => ⟨(hf1 x hx).1, by have := h x hx; omega⟩)
  obtain ⟨N, hN⟩ : ∃ N, K.length = N := ⟨_, rfl⟩
  obtain ⟨M, hM⟩ : ∃ M, l.length = M := ⟨_, rfl⟩
  obtain ⟨R, hR⟩ : ∃ R, rs.length = R := ⟨_, rfl⟩
  have HNE := Lib.hid hN
  have HME := Lib.hid hM
  have HRE := Lib.hid hR
  rw [hN] at k1 hKm HK ⊢
  rw [hM] at n1 HN HS ⊢
  rw [hR] at a1 ⊢
  unfold maxLen at k2 n2 a2
  clear h0 hk hKl h1 hf1 hf2 hT hat hN hM hR
  go_enter Tryd.func4, Tryd.ntmps4
  go_wp2_with fail
  refine (shown14_any _ HT.out).mono ?_
  rintro e w1 ⟨rfl, hx⟩
  have HX1 := Lib.hid hx
  clear hx
  go_wp2_with fail
  refine (HS.out _ HX1.out).mono ?_
  rintro e w2 ⟨⟨b, rfl, hb⟩, hx⟩
  have HX2 := Lib.hid (Ext.trans HX1.out hx)
  have HB := Lib.hid hb
  clear hx hb
  cases b with
  | false =>
    go_wp2_with fail
    go_ret
    exact ⟨rfl, HX2.out⟩
  | true =>
    have HSM := Lib.hid (HB.out (by first | rfl | trivial))
    have HFN := Lib.hid (HF1.out HSM.out.2)
    by_cases h20 : 20 < N
    · have d : decide (20 < N) = true := decide_eq_true h20
      have d' : decide ((20 : Int) < (N : Int)) = true := decide_eq_true (by omega)
      clear h20
      go_wp2_with fail
      go_ret
      exact ⟨rfl, HX2.out⟩
    · have d : decide (20 < N) = false := decide_eq_false h20
      have d' : decide ((20 : Int) < (N : Int)) = false := decide_eq_false (by omega)
      have HKS := Lib.hid (show K.length ≤ 1000000 by have := HNE.out; omega)
      clear h20
      go_wp2_with fail
      refine (pRight14_any _ _ K l _ (HK.out.mono HX2.out) HKS.out (HN.out.mono HX2.out) HFN.out (HT.out.mono HX2.out)).mono ?_
      rintro e w3 ⟨rfl, hx⟩
      have HX3 := Lib.hid (Ext.trans HX2.out hx)
      clear hx
      by_cases hRA : rightA okP K l
      · have HRA := Lib.hid hRA
        have HERR := Lib.hid (show errA okP K l = 0 from if_pos hRA)
        rw [HERR.out]
        clear hRA
        go_wp2_with fail
        refine (refRight14_any _ _ K l _ (HK.out.mono HX3.out) HKS.out (HN.out.mono HX3.out) HFN.out (HT.out.mono HX3.out)).mono ?_
        rintro e w4 ⟨rfl, hx⟩
        have HX4 := Lib.hid (Ext.trans HX3.out hx)
        clear hx
        rw [HERR.out]
        go_wp2_with fail
        go_loopw [8, 9, 32] (fun _ _ i wr => ∃ j : Nat, j ≤ R ∧ i = .int .i64 j ∧ Ext w wr) (fun _ _ i _ => R - (intOf i).toNat)
        case atStart => exact ⟨0, Nat.zero_le _, rfl, HX4.out⟩
        case round =>
          obtain ⟨j, hj, rfl, hx⟩ := hrel
          have HX := Lib.hid hx
          clear hx
          by_cases hlt : j < R
          · have hjr : j < rs.length := by have := HRE.out; omega
            obtain ⟨x, v, rfl, hrd, hc⟩ := HAT.out j hjr
            have x0 := (HX.out.cell (lt_of_cell hc)).trans hc
            have HV := Lib.hid (hrd.mono HX.out)
            have HFV := Lib.hid (HF2.out rs[j] (List.getElem_mem hjr))
            generalize rs[j] = r at HV HFV
            obtain ⟨va, vc, rfl, -, -⟩ := HV.out.shape
            obtain ⟨L, hL⟩ : ∃ L, r.length = L := ⟨_, rfl⟩
            have HL := Lib.hid hL
            rw [hL] at HV x0
            clear hjr hrd hc hL
            by_cases h20 : 20 ≤ j
            · have e1 : decide (20 ≤ j) = true := decide_eq_true h20
              have e1' : decide ((20 : Int) ≤ (j : Int)) = true := decide_eq_true (by omega)
              clear h20
              go_wp2_with fail
              go_ret
              exact ⟨rfl, HX.out⟩
            · have e1 : decide (20 ≤ j) = false := decide_eq_false h20
              have e1' : decide ((20 : Int) ≤ (j : Int)) = false := decide_eq_false (by omega)
              clear h20
              go_wp2_with fail
              refine (fits14_any _ _ K r _ (HK.out.mono HX.out) (by rw [HNE.out]; exact hKm) HV.out (fun y hy => by have h := HFV.out y hy; unfold maxLen at h; exact ⟨h.1, by omega⟩)).mono ?_
              rintro e w5 ⟨⟨b2, rfl, hb2⟩, hx⟩
              have HX5 := Lib.hid (Ext.trans HX.out hx)
              have HV5 := Lib.hid (HV.out.mono hx)
              have HB2 := Lib.hid hb2
              clear hx hb2
              cases b2 with
              | false =>
                go_wp2_with fail
                go_roundw
                case rel => exact ⟨j + 1, by omega, by go_num, HX5.out⟩
                case measure => simp [intOf]; omega
              | true =>
                have HFT := Lib.hid (HB2.out (by first | rfl | trivial))
                have HFR := Lib.hid (show FitV 5000 r from fun y hy => ⟨(HFV.out y hy).1, by have := (HFT.out.2.2 y hy).1; omega⟩)
                go_wp2_with fail
                refine (pEval14_any _ _ K l r _ (HN.out.mono HX5.out) HFN.out HV5.out HFR.out (HT.out.mono HX5.out) HRA.out HFT.out.2.1).mono ?_
                rintro e w6 ⟨rfl, hx⟩
                have HX6 := Lib.hid (Ext.trans HX5.out hx)
                have HV6 := Lib.hid (HV5.out.mono hx)
                clear hx
                go_wp2_with fail
                refine (refEval14_any _ _ K l r _ (HN.out.mono HX6.out) HFN.out HV6.out HFR.out (HT.out.mono HX6.out) HRA.out HFT.out.2.1).mono ?_
                rintro e w7 ⟨rfl, hx⟩
                have HX7 := Lib.hid (Ext.trans HX6.out hx)
                clear hx
                generalize evalS isB l r = z
                have hz : (z != z) = false := by simp
                go_wp2_with fail
                go_roundw
                case rel => exact ⟨j + 1, by omega, by go_num, HX7.out⟩
                case measure => simp [intOf]; omega
          · go_wp2_with fail
            go_ret
            exact ⟨rfl, HX.out⟩
      · have HERR := Lib.hid (show errA okP K l = 140 from if_neg hRA)
        rw [HERR.out]
        clear hRA
        go_wp2_with fail
        go_ret
        exact ⟨rfl, HX3.out⟩

end Go.Proofs.YtfnmcdjfdhdlmaaDoor

/-
  What an argument that came in as a value of the document (a struct of a kind, a number, a text) is to a walk.
-/
namespace Go.Proofs.YtfnmcdjfdhdlmaaDoor
open Go.ChangeShapes Go.WideShapes Go.ChangeAt Go.RowKit Go.Joins Go.Deep

section
variable {H : Type} {enc : TypeId × Value → H} {P : Program} {w : World} {base : Nat} {held : Bool}

theorem read_val {r : Reach} {b0 : Nat} {t : TypeId} {f0 f1 f2 : Field} {v : Value} {d : DataW H} {p : List MemPlace} (hs : P.underlying t = some (.struct #[f0, f1, f2])) (h0 : P.underlying f0.type = some (.int .u8)) (h1 : P.underlying f1.type = some (.int .i64)) (h2 : P.underlying f2.type = some .string)
    (hone : oneCellFields P #[f0, f1, f2] = true) (hC : P.cellsOf t = 3)
    (hv : Value.okWide P w r b0 t v) (h : DataW.Trod enc P w base (fun _ => true) held t v d p) :
    ∃ a : V, v = a.val ∧ a.fits ∧ a.s.length ≤ maxLen := by
  obtain ⟨v0, v1, v2, y0, y1, y2, n, rfl, _, _, t0, t1, t2⟩ := open_agg3 hs hone hC hv h
  obtain ⟨z0, e0, _, w0⟩ := DataW.trod_int h0 t0
  obtain ⟨z1, e1, _, w1⟩ := DataW.trod_int h1 t1
  obtain ⟨s, e2, _, w2⟩ := DataW.trod_string h2 t2
  simp only [List.cons.injEq, and_true] at e0 e1 e2
  subst e0 e1 e2
  have b0 := bounds_u8 w0
  have b1 := bounds_i64 w1
  refine ⟨⟨z0, z1, s.data.toList⟩, ?_, ⟨b0.1, b0.2, b1.1, b1.2⟩, ?_⟩
  · unfold V.val
    cases s
    simp
  · show s.data.toList.length ≤ maxLen
    cases s
    simpa [ByteArray.size] using w2

end
end Go.Proofs.YtfnmcdjfdhdlmaaDoor

/-
  What an argument that came in as a row of values of the document is to a walk.
-/
namespace Go.Proofs.YtfnmcdjfdhdlmaaDoor
open Go.ChangeShapes Go.WideShapes Go.ChangeAt Go.RowKit Go.Joins Go.Deep

section
variable {H : Type} {enc : TypeId × Value → H} {P : Program} {w : World} {base : Nat} {held : Bool}

theorem read_vals {t e : TypeId} {f0 f1 f2 : Field} {v : Value} {d : DataW H} {ps : List MemPlace} (ht : P.underlying t = some (.slice e)) (hs : P.underlying e = some (.struct #[f0, f1, f2])) (h0 : P.underlying f0.type = some (.int .u8)) (h1 : P.underlying f1.type = some (.int .i64)) (h2 : P.underlying f2.type = some .string)
    (hone : oneCellFields P #[f0, f1, f2] = true) (hC : P.cellsOf e = 3) (hv : v.cells.toList = [v]) (h : DataW.Trod enc P w base (fun _ => true) held t v d ps) :
    ∃ vs : List V, RdVals w v vs ∧ ∀ x ∈ vs, x.fits ∧ x.s.length ≤ maxLen := by
  obtain ⟨fuel, hf⟩ := h
  rw [hv] at hf
  rcases open_slice ht hf with ⟨hcs, _⟩ | ⟨a, len, cap, m, n, D, Pl, hcs, _, hl, hm, hmm, _, hi⟩
  · obtain rfl : v = .slice none 0 0 := by simpa using hcs
    exact ⟨[], ⟨none, 0, rfl, Nat.le_refl _, by simp [maxLen], fun j hj => by simp at hj⟩, by simp⟩
  · obtain rfl : v = .slice (some a) len cap := by simpa using hcs
    have hmc : m = cap := by simpa using hmm
    have key : ∀ i, i < len → ∃ x : V, (x.fits ∧ x.s.length ≤ maxLen) ∧ ∀ j y, x.cells[j]? = some y → w.cell? ((a.add (i * 3)).add j) = some y := fun i hi' => by
      obtain ⟨cs, hc, ht'⟩ := hi i (by omega)
      rw [hC] at hc
      obtain ⟨_, hcl, hat⟩ := World.cells?_some hc
      match cs, hcl with
      | [c0, c1, c2], _ =>
        obtain ⟨y0, y1, y2, n', _, _, k0, k1, k2⟩ := trod_struct3 hs ht'
        obtain ⟨o0, q0⟩ := hone_of hone 0 f0 rfl
        obtain ⟨o1, q1⟩ := hone_of hone 1 f1 rfl
        obtain ⟨o2, q2⟩ := hone_of hone 2 f2 rfl
        rw [o0, q0] at k0
        rw [o1, q1] at k1
        rw [o2, q2] at k2
        obtain ⟨z0, e0, _, w0⟩ := DataW.trod_int h0 k0
        obtain ⟨z1, e1, _, w1⟩ := DataW.trod_int h1 k1
        obtain ⟨s, e2, _, w2⟩ := DataW.trod_string h2 k2
        have e0' : c0 = .int .u8 z0 := by simpa using e0
        have e1' : c1 = .int .i64 z1 := by simpa using e1
        have e2' : c2 = .string s := by simpa using e2
        subst e0' e1' e2'
        have b0 := bounds_u8 w0
        have b1 := bounds_i64 w1
        have hsl : s.data.toList.length = s.size := Array.length_toList
        have hss : (⟨s.data.toList.toArray⟩ : ByteArray) = s := by cases s; simp
        refine ⟨⟨z0, z1, s.data.toList⟩, ⟨⟨b0.1, b0.2, b1.1, b1.2⟩, by show s.data.toList.length ≤ _; rw [hsl]; exact w2⟩, fun j y hj => ?_⟩
        unfold V.cells at hj
        simp only [hss] at hj
        have hj3 : j < 3 := by
          have := (List.getElem?_eq_some_iff.1 hj).1
          simpa using this
        rw [hat j hj3]
        exact hj
    have hall : ∃ vs : List V, vs.length = len ∧ ∀ i, (hi : i < vs.length) → (vs[i].fits ∧ vs[i].s.length ≤ maxLen) ∧ ∀ j y, (vs[i].cells)[j]? = some y → w.cell? ((a.add (i * 3)).add j) = some y := by
      refine ⟨(List.range len).map fun i => if h : i < len then (key i h).choose else V.zero, by simp, fun i hi' => ?_⟩
      have hil : i < len := by simpa using hi'
      rw [List.getElem_map, List.getElem_range, dif_pos hil]
      exact (key i hil).choose_spec
    obtain ⟨vs, hlen, hvs⟩ := hall
    refine ⟨vs, ⟨some a, cap, by rw [hlen], by omega, hm, fun j hj => ?_⟩, fun x hx => ?_⟩
    · obtain ⟨b, off, spot⟩ := a
      have h00 := (hvs 0 (by omega)).2 0 _ rfl
      have hsp : spot = none := by
        have h := World.cell?_spot h00
        cases spot with
        | none => rfl
        | some x =>
          exfalso
          simp [Addr.add] at h
      subst hsp
      exact ⟨b, off, rfl, fun i y hy => by
        have := (hvs j hj).2 i y hy
        rw [add_at, add_at] at this
        exact this⟩
    · obtain ⟨i, hi', rfl⟩ := List.mem_iff_getElem.1 hx
      exact (hvs i hi').1

end
end Go.Proofs.YtfnmcdjfdhdlmaaDoor

/-
  What an argument that came in as a row of rows of values of the document is to a walk.
-/
namespace Go.Proofs.YtfnmcdjfdhdlmaaDoor
open Go.ChangeShapes Go.WideShapes Go.ChangeAt Go.RowKit Go.Joins Go.Deep

section
variable {H : Type} {enc : TypeId × Value → H} {P : Program} {w : World} {base : Nat} {held : Bool}

theorem read_rows {t r e : TypeId} {f0 f1 f2 : Field} {v : Value} {d : DataW H} {ps : List MemPlace} (ht : P.underlying t = some (.slice r)) (hr : P.underlying r = some (.slice e)) (hs : P.underlying e = some (.struct #[f0, f1, f2])) (h0 : P.underlying f0.type = some (.int .u8)) (h1 : P.underlying f1.type = some (.int .i64)) (h2 : P.underlying f2.type = some .string)
    (hone : oneCellFields P #[f0, f1, f2] = true) (hC : P.cellsOf e = 3) (hR : P.cellsOf r = 1) (hv : v.cells.toList = [v]) (h : DataW.Trod enc P w base (fun _ => true) held t v d ps) :
    ∃ rs : List (List V), RdRows w v rs ∧ ∀ vs ∈ rs, ∀ x ∈ vs, x.fits ∧ x.s.length ≤ maxLen := by
  obtain ⟨fuel, hf⟩ := h
  rw [hv] at hf
  rcases open_slice1 ht hR hf with ⟨hcs, _⟩ | ⟨a, len, cap, m, n, W, D, Pl, hcs, _, hl, hm, hmm, _, hi⟩
  · obtain rfl : v = .slice none 0 0 := by simpa using hcs
    exact ⟨[], RdRows.nil w, by simp⟩
  · obtain rfl : v = .slice (some a) len cap := by simpa using hcs
    have hmc : m = cap := by simpa using hmm
    have key : ∀ i, i < len → ∃ vs : List V, (∀ x ∈ vs, x.fits ∧ x.s.length ≤ maxLen) ∧ RdVals w (W i) vs ∧ w.cell? (a.add i) = some (W i) := fun i hi' => by
      obtain ⟨hc, ht'⟩ := hi i (by omega)
      obtain ⟨a', l', c', e'⟩ := slice_form hr ht'
      have e'' : W i = .slice a' l' c' := by simpa using e'
      obtain ⟨vs, hvs, hfit⟩ := read_vals (v := W i) (d := D i) (ps := Pl i) hr hs h0 h1 h2 hone hC (by rw [e'']; rfl) ⟨n, by rw [e'']; rw [e''] at ht'; exact ht'⟩
      exact ⟨vs, hfit, hvs, hc⟩
    have hall : ∃ rs : List (List V), rs.length = len ∧ ∀ i, (hi : i < rs.length) → (∀ x ∈ rs[i], x.fits ∧ x.s.length ≤ maxLen) ∧ RdVals w (W i) rs[i] ∧ w.cell? (a.add i) = some (W i) := by
      refine ⟨(List.range len).map fun i => if h : i < len then (key i h).choose else [], by simp, fun i hi' => ?_⟩
      have hil : i < len := by simpa using hi'
      rw [List.getElem_map, List.getElem_range, dif_pos hil]
      exact (key i hil).choose_spec
    obtain ⟨rs, hlen, hrs⟩ := hall
    refine ⟨rs, ⟨some a, cap, by rw [hlen], by omega, hm, fun j hj => ⟨a, W j, rfl, (hrs j hj).2.1, (hrs j hj).2.2⟩⟩, fun x hx => ?_⟩
    obtain ⟨i, hi', rfl⟩ := List.mem_iff_getElem.1 hx
    exact (hrs i hi').1

end
end Go.Proofs.YtfnmcdjfdhdlmaaDoor

/-
  What an argument that came in as a zone of the document (a struct of two values and two numbers) is to a walk; rows without an address.
-/
namespace Go.Proofs.YtfnmcdjfdhdlmaaDoor
open Go.ChangeShapes Go.WideShapes Go.ChangeAt Go.RowKit Go.Joins Go.Deep

section
variable {H : Type} {enc : TypeId × Value → H} {P : Program} {w : World} {base : Nat} {held : Bool}

theorem val_of {e : TypeId} {f0 f1 f2 : Field} {cs : List Value} {fuel : Nat} {x : DataW H × List MemPlace} (hs : P.underlying e = some (.struct #[f0, f1, f2])) (h0 : P.underlying f0.type = some (.int .u8)) (h1 : P.underlying f1.type = some (.int .i64)) (h2 : P.underlying f2.type = some .string)
    (hone : oneCellFields P #[f0, f1, f2] = true) (hcl : cs.length = 3) (ht' : DataW.trod enc P w base (fun _ => true) held fuel e cs = some x) :
    ∃ a : V, cs = a.cells ∧ a.fits ∧ a.s.length ≤ maxLen := by
  match cs, hcl with
  | [c0, c1, c2], _ =>
    obtain ⟨y0, y1, y2, n', _, _, k0, k1, k2⟩ := trod_struct3 hs ht'
    obtain ⟨o0, q0⟩ := hone_of hone 0 f0 rfl
    obtain ⟨o1, q1⟩ := hone_of hone 1 f1 rfl
    obtain ⟨o2, q2⟩ := hone_of hone 2 f2 rfl
    rw [o0, q0] at k0
    rw [o1, q1] at k1
    rw [o2, q2] at k2
    obtain ⟨z0, e0, _, w0⟩ := DataW.trod_int h0 k0
    obtain ⟨z1, e1, _, w1⟩ := DataW.trod_int h1 k1
    obtain ⟨s, e2, _, w2⟩ := DataW.trod_string h2 k2
    have e0' : c0 = .int .u8 z0 := by simpa using e0
    have e1' : c1 = .int .i64 z1 := by simpa using e1
    have e2' : c2 = .string s := by simpa using e2
    subst e0' e1' e2'
    have b0 := bounds_u8 w0
    have b1 := bounds_i64 w1
    have hsl : s.data.toList.length = s.size := Array.length_toList
    have hss : (⟨s.data.toList.toArray⟩ : ByteArray) = s := by cases s; simp
    refine ⟨⟨z0, z1, s.data.toList⟩, ?_, ⟨b0.1, b0.2, b1.1, b1.2⟩, by show s.data.toList.length ≤ _; rw [hsl]; exact w2⟩
    unfold V.cells
    simp only [hss]

theorem read_zone {r : Reach} {b0 : Nat} {t e : TypeId} {f0 f1 f2 f3 g0 g1 g2 : Field} {v : Value} {d : DataW H} {p : List MemPlace} (hs : P.underlying t = some (.struct #[f0, f1, f2, f3])) (he : P.underlying e = some (.struct #[g0, g1, g2]))
    (h0 : P.underlying g0.type = some (.int .u8)) (h1 : P.underlying g1.type = some (.int .i64)) (h2 : P.underlying g2.type = some .string) (hone : oneCellFields P #[g0, g1, g2] = true)
    (t0 : f0.type = e) (t1 : f1.type = e) (t2 : P.underlying f2.type = some (.int .i64)) (t3 : P.underlying f3.type = some (.int .i64)) (o0 : f0.offset = 0) (o1 : f1.offset = 3) (o2 : f2.offset = 6) (o3 : f3.offset = 7)
    (c0 : P.cellsOf e = 3) (c2 : P.cellsOf f2.type = 1) (c3 : P.cellsOf f3.type = 1) (hC : P.cellsOf t = 8)
    (hv : Value.okWide P w r b0 t v) (h : DataW.Trod enc P w base (fun _ => true) held t v d p) :
    ∃ z : Zo, v = z.val ∧ z.fits ∧ z.small maxLen := by
  obtain ⟨cs, rfl, hsz⟩ := okWide_struct hs hv
  obtain ⟨fuel, hf⟩ := h
  obtain ⟨xs, n, _, _, hl, hlen, hfld⟩ := DataW.trod_struct hs hf
  rw [hC] at hl
  have k0 := hfld 0 f0 rfl
  have k1 := hfld 1 f1 rfl
  have k2 := hfld 2 f2 rfl
  have k3 := hfld 3 f3 rfl
  rw [o0, t0, c0] at k0
  rw [o1, t1, c0] at k1
  rw [o2, c2] at k2
  rw [o3, c3] at k3
  match xs, hlen with
  | [y0, y1, y2, y3], _ =>
    simp only [List.getElem?_cons_zero, List.getElem?_cons_succ] at k0 k1 k2 k3
    have hcs : (Value.agg cs).cells.toList = cs.toList := rfl
    rw [hcs] at hl k0 k1 k2 k3
    have hca : cs = cs.toList.toArray := rfl
    generalize cs.toList = l at hl k0 k1 k2 k3 hca
    subst hca
    match l, hl with
    | [x0, x1, x2, x3, x4, x5, x6, x7], _ =>
      simp only [List.drop_zero, List.drop_succ_cons, List.take_succ_cons, List.take_zero] at k0 k1 k2 k3
      obtain ⟨a, ea, fa, la⟩ := val_of he h0 h1 h2 hone rfl k0
      obtain ⟨b, eb, fb, lb⟩ := val_of he h0 h1 h2 hone rfl k1
      obtain ⟨m, e2, _, w2⟩ := DataW.trod_int t2 k2
      obtain ⟨q, e3, _, w3⟩ := DataW.trod_int t3 k3
      unfold V.cells at ea eb
      simp only [List.cons.injEq, and_true] at ea eb e2 e3
      obtain ⟨rfl, rfl, rfl⟩ := ea
      obtain ⟨rfl, rfl, rfl⟩ := eb
      subst e2 e3
      have b2 := bounds_i64 w2
      have b3 := bounds_i64 w3
      exact ⟨⟨a, b, m, q⟩, rfl, ⟨fa, fb, b2.1, b2.2, b3.1, b3.2⟩, la, lb⟩

theorem read_nil {t e : TypeId} {v : Value} {d : DataW H} {ps : List MemPlace} (ht : P.underlying t = some (.slice e)) (hv : v.cells.toList = [v]) (h : DataW.Trod enc P w base (fun _ => true) held t v d ps) :
    ∀ n c, v = .slice none n c → n = 0 ∧ c = 0 := by
  intro n c hn
  obtain ⟨fuel, hf⟩ := h
  rw [hv] at hf
  rcases open_slice ht hf with ⟨hcs, _⟩ | ⟨a, len, cap, m, n, D, Pl, hcs, _⟩
  · obtain rfl : v = .slice none 0 0 := by simpa using hcs
    simp only [Value.slice.injEq] at hn
    exact ⟨hn.2.1.symm, hn.2.2.symm⟩
  · obtain rfl : v = .slice (some a) len cap := by simpa using hcs
    simp at hn

end
end Go.Proofs.YtfnmcdjfdhdlmaaDoor
