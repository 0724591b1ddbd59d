/-
  Texts of this proof, merged: MayR4, MayEx, LaySort, BelowK.
-/
import Derived.Shelf.Sort.Plain
import Derived.Shelf.Slices.CompactI
import Derived.Shelf.Slices.In.SortNone
import Derived.BigQuiet
import Derived.Test.YtfnmcdjfdhdlmaaGreatDoorZ15
import Derived.Test.YtfnmcdjfdhdlmaaGreatDoorZ16
import Derived.Test.YtfnmcdjfdhdlmaaGreatDoorZ9
import Derived.Test.YtfnmcdjfdhdlmaaGreatDoorZ13
import Derived.Test.YtfnmcdjfdhdlmaaGreatDoorZ10
import Derived.Test.YtfnmcdjfdhdlmaaGreatDoorProg
import Derived.Test.YtfnmcdjfdhdlmaaGreatDoorZ3
/-
  The contract of the document's own May: a stack of what may come.
-/
namespace Go.Proofs.YtfnmcdjfdhdlmaaGreatDoor
section
open Go.ChangeAt Go.RowKit Go.BigFrame

theorem Tryz.info_trip : (Tryz.prog.info? 32).map (fun i => (i.zero, i.size, i.bytes)) = some (some (.agg #[.bool false, .bool false, .bool false]), 3, 3) := by kernel_rfl
theorem tCells_length (A : List T3) : (A.flatMap tL).length = A.length * 3 := by
  induction A with
  | nil => rfl
  | cons a t ih => rw [List.flatMap_cons, List.length_append, ih, List.length_cons]; show 3 + _ = _; omega
theorem owns_some3 {base : Nat} {e : TypeId} {size : Nat} {w : World} {v : Value} {n : Nat} {xs : List Value} (h : w.ownsRow base e size v n xs) (hn : 0 < n) : ∃ g cap, v = .slice (some ⟨g, 0, none⟩) n cap ∧ base ≤ g ∧ n ≤ cap ∧ cap ≤ maxLen := by
  rcases h.2 with ⟨_, h0⟩ | ⟨g, cap, cur, h1, h2, h3, h4, h5, _⟩
  · omega
  · exact ⟨g, cap, h1, h2, h4, h5⟩
theorem own_shape3 {base : Nat} {e : TypeId} {size : Nat} {w : World} {v : Value} {n : Nat} {xs : List Value} (h : w.ownsRow base e size v n xs) : ∃ a cap, v = .slice a n cap ∧ n ≤ cap ∧ cap ≤ maxLen := by
  rcases h.2 with ⟨rfl, rfl⟩ | ⟨g, cap, cur, rfl, h2, h3, h4, h5, _⟩
  · exact ⟨none, 0, rfl, Nat.le_refl _, by simp [maxLen]⟩
  · exact ⟨_, cap, rfl, h4, h5⟩
theorem owns_take3 {base : Nat} {e : TypeId} {size : Nat} {w : World} {a : Option Addr} {n cap : Nat} {xs : List Value} (h : w.ownsRow base e size (.slice a n cap) n xs) (k : Nat) (hk : k ≤ n) : w.ownsRow base e size (.slice a k cap) k (xs.take (k * size)) := by
  obtain ⟨h1, h2⟩ := h
  have hm := Nat.mul_le_mul_right size hk
  refine ⟨by rw [List.length_take, h1]; omega, ?_⟩
  rcases h2 with ⟨h3, h4⟩ | ⟨g, c, cur, h3, h4, h5, h6, h7, h8, h9⟩
  · simp only [Value.slice.injEq] at h3
    obtain ⟨rfl, h10, rfl⟩ := h3
    have : k = 0 := by omega
    subst this
    exact .inl ⟨rfl, rfl⟩
  · simp only [Value.slice.injEq] at h3
    obtain ⟨rfl, -, rfl⟩ := h3
    refine .inr ⟨g, cap, cur, rfl, h4, h5, by omega, h7, h8, ?_⟩
    rw [← h9, List.take_take]
    congr 1
    omega
theorem owns_top {base g n cap : Nat} {e : TypeId} {W : World} {A : List T3} {x : T3} (h : W.ownsRow base e 3 (.slice (some ⟨g, 0, none⟩) n cap) n ((A ++ [x]).flatMap tL)) (L : Nat) (hL : A.length = L) (i : Nat) (v : Value) (hv : (tL x)[i]? = some v) : W.cell? ⟨g, L * 3 + i, none⟩ = some v := by
  have hc := h.cells (g := g) rfl (L * 3 + i) v (by
    rw [List.flatMap_append, List.getElem?_append_right (by rw [tCells_length, hL]; omega), tCells_length, hL, Nat.add_sub_cancel_left, List.flatMap_cons, List.flatMap_nil, List.append_nil]
    exact hv)
  rw [add_at, Nat.zero_add] at hc
  exact hc
theorem owns_pop {base L cap : Nat} {e : TypeId} {W : World} {a : Option Addr} {A : List T3} {x : T3} (h : W.ownsRow base e 3 (.slice a (L + 1) cap) (L + 1) ((A ++ [x]).flatMap tL)) (hL : A.length = L) : W.ownsRow base e 3 (.slice a L cap) L (A.flatMap tL) := by
  have h' := owns_take3 h L (Nat.le_succ L)
  rw [List.flatMap_append, List.take_left' (by rw [tCells_length, hL])] at h'
  exact h'
theorem own_set3 {base : Nat} {e : TypeId} {size : Nat} {w : World} {v : Value} {n g : Nat} {xs : List Value} (h : w.ownsRow base e size v n xs) (hne : v.ownBlock ≠ some g) (a b c : Value) : (((w.setCell ⟨g, 0, none⟩ a).setCell ⟨g, 1, none⟩ b).setCell ⟨g, 2, none⟩ c).ownsRow base e size v n xs :=
  ownsRow_setCell_other (ownsRow_setCell_other (ownsRow_setCell_other h hne a) hne b) hne c
theorem rev_drop3 {α : Type} (st : List α) (q : Nat) (h : q < st.length) : (st.drop q).reverse = (st.drop (q + 1)).reverse ++ [st[q]] := by
  rw [List.drop_eq_getElem_cons h, List.reverse_cons]
theorem comb_nil (zs : List Zo) (n : Nd) : combZ zs n [] = leafZ zs n := by
  unfold combZ combG foldC
  split <;> rfl
theorem leaf_none {zs : List Zo} {n : Nd} (h : ¬ (5 ≤ n.op ∧ n.op ≤ 8)) : leafZ zs n = (false, false, true) := by
  unfold leafZ
  rw [if_neg (by omega), if_neg (by omega), if_neg (by omega), if_neg (by omega)]

set_option maxRecDepth 100000 in
set_option maxHeartbeats 16000000 in
theorem refMay14_any (u v : Value) (K : List Int) (l : List Nd) (zs : List Zo) (w : World) (hu : RdNds w u l) (hf : FitN 5000 l) (hv : RdZos w v zs) (hz : FitZ zs) (hT : Tabs w) (hR : rightA okP K l) (hk : zs.length = K.length) :
    Calls Tryz.prog 9 #[u, v] w fun e w' => e = .returned (tripV (mayS l zs)) ∧ Ext w w' := by
  obtain ⟨i0, hi, hz0, hz1, hz2⟩ := info_parts Tryz.info_trip
  have HXA := Lib.hid (ext_new w (.cells #[.bool false, .bool false, .bool false] 32))
  have HBR := Lib.hid (Blk.new w [.bool false, .bool false, .bool false] 32)
  have HLF := Lib.hid (fun (n : Nd) (hn : n ∈ l) (z : Zo) (hz' : z ∈ zs) W (h : Ext (w.alloc (.cells #[.bool false, .bool false, .bool false] 32)) W) => refKnown_any n z W (hT.mono (Ext.trans HXA.out h)) ⟨(hf n hn).1.v, (hf n hn).2⟩ (hz z hz').1)
  have HEN := Lib.hid (fun i hi => stk_enough (combZ zs) hR.2.2 i hi)
  have HONE := Lib.hid (fun n (hn : n ∈ l) => hR.2.1 n hn)
  have HV := Lib.hid (may_one zs hR.2.2)
  have hl40 := hR.1.2
  have hu := hu.mono HXA.out
  have hv := hv.mono HXA.out
  obtain ⟨ao, cap, rfl, -, -⟩ := hu.shape
  obtain ⟨-, h1, h2, hc⟩ := hu.plain
  have HC := Lib.hid hc
  obtain ⟨bo, bcap, rfl, -, -⟩ := hv.shape
  obtain ⟨-, k1, k2, kc⟩ := hv.plain
  have KC := Lib.hid kc
  unfold maxLen at h2 k2
  obtain ⟨N, hN⟩ : ∃ N, l.length = N := ⟨_, rfl⟩
  have HN := Lib.hid hN
  obtain ⟨R, hRl⟩ : ∃ R, zs.length = R := ⟨_, rfl⟩
  have HRL := Lib.hid hRl
  have HKK := Lib.hid hk
  rw [hN] at h1 hl40 ⊢
  rw [hRl] at k1 ⊢
  generalize hST : stk (combZ zs) = st at HEN HV
  generalize mayS l zs = ym at HV ⊢
  have HST := Lib.hid (show ∀ n t, st (n :: t) = combZ zs n ((st t).take (kidsN n)) :: (st t).drop (kidsN n) from fun n t => by rw [← hST]; rfl)
  have HST0 := Lib.hid (show st [] = [] by rw [← hST]; rfl)
  have HSL := Lib.hid (show ∀ t, (st t).length ≤ t.length from fun t => by rw [← hST]; exact stk_len _ t)
  clear hu hf hv hz hT hR hk hc kc hN hRl hST
  go_enter Tryz.func9, Tryz.ntmps9
  go_upto_region 1 with fail
  generalize hWA : w.alloc (.cells #[.bool false, .bool false, .bool false] 32) = WA at HXA HBR HLF HC KC ⊢
  obtain ⟨rb, hrb⟩ : ∃ rb, w.heap.size = rb := ⟨_, rfl⟩
  rw [hrb] at HBR ⊢
  have HSB := Lib.hid (show WA.heap.size = rb + 1 by rw [← hWA, ← hrb]; simp only [World.alloc, Array.size_push])
  have HRB := Lib.hid hrb
  clear hWA hrb
  go_wp2_with fail
  go_loopw [5, 6, 7, 8, 9, 10] (fun s i _ _ _ _ wr => ∃ (j : Nat) (I : Int) (sv : Value), j ≤ N ∧ I = (j : Int) - 1 ∧ i = .int .i64 I ∧ sv = s ∧ wr.ownsRow WA.heap.size 32 3 sv (st (l.drop j)).length (((st (l.drop j)).reverse).flatMap tL) ∧ Ext WA wr) (fun _ i _ _ _ _ _ => (intOf i + 1).toNat)
  case atStart => exact ⟨N, (N : Int) - 1, .slice none 0 0, Nat.le_refl _, rfl, rfl, rfl, by rw [List.drop_eq_nil_of_le (by have := HN.out; omega), HST0.out]; exact owns_nil _ _ _ _, Ext.keeps.refl _⟩
  case round =>
    obtain ⟨j, I, sv, hj, hI, rfl, rfl, ho, hx⟩ := hrel
    have HO := Lib.hid ho
    have HX := Lib.hid hx
    clear ho hx
    by_cases hj0 : j = 0
    · subst hj0
      obtain rfl : I = -1 := by omega
      obtain ⟨y0, y1, y2⟩ := ym
      have HO2 := Lib.hid (show wr.ownsRow WA.heap.size 32 3 sv 1 (([] ++ [(y0, y1, y2)]).flatMap tL) from by have h := HO.out; rw [List.drop_zero, HV.out] at h; exact h)
      clear hI
      obtain ⟨g, c, rfl, hg1, hg2, hg3⟩ := owns_some3 HO2.out (by decide)
      have z0 : wr.cell? ⟨g, 0, none⟩ = some (.bool y0) := owns_top HO2.out 0 rfl 0 _ rfl
      have z1 : wr.cell? ⟨g, 1, none⟩ = some (.bool y1) := owns_top HO2.out 0 rfl 1 _ rfl
      have z2 : wr.cell? ⟨g, 2, none⟩ = some (.bool y2) := owns_top HO2.out 0 rfl 2 _ rfl
      have HBF := Lib.hid (HBR.out.ext HX.out)
      have r0 : wr.cell? ⟨rb, 0, none⟩ = some (.bool false) := HBF.out.cell 0 _ rfl
      have f0 : wr.frozen? ⟨rb, 0, none⟩ = false := HBF.out.free 0
      have r1 : wr.cell? ⟨rb, 1, none⟩ = some (.bool false) := HBF.out.cell 1 _ rfl
      have f1 : wr.frozen? ⟨rb, 1, none⟩ = false := HBF.out.free 1
      have r2 : wr.cell? ⟨rb, 2, none⟩ = some (.bool false) := HBF.out.cell 2 _ rfl
      have f2 : wr.frozen? ⟨rb, 2, none⟩ = false := HBF.out.free 2
      go_wp2_with fail
      refine bodyPost_ret (results_cell_row (P := Tryz.prog) (fn := Tryz.f9) rfl _ _ rb 32 _ (0, 0) _ rfl (blk_set3 HBF.out _ _ _) Tryz.underlying32 rfl (by kernel_rfl)) rfl ?_
      exact ⟨rfl, ext_set3 (Ext.trans HXA.out HX.out) (by rw [HRB.out]; exact Nat.le_refl _) _ _ _⟩
    · obtain ⟨m, rfl⟩ : ∃ m, j = m + 1 := ⟨j - 1, by omega⟩
      obtain rfl : I = (m : Int) := by omega
      have hml : m < l.length := by have := HN.out; omega
      obtain ⟨g, off, rfl, c0, c1, c2, c3, c4, c5⟩ := HC.out m hml
      have x0 := (HX.out.cell (lt_of_cell c0)).trans c0
      have x1 := (HX.out.cell (lt_of_cell c1)).trans c1
      have x2 := (HX.out.cell (lt_of_cell c2)).trans c2
      have x3 := (HX.out.cell (lt_of_cell c3)).trans c3
      have x4 := (HX.out.cell (lt_of_cell c4)).trans c4
      have x5 := (HX.out.cell (lt_of_cell c5)).trans c5
      have HD := Lib.hid (List.drop_eq_getElem_cons hml)
      have HM := Lib.hid (List.getElem_mem hml)
      have HE1 := Lib.hid (HEN.out m hml)
      have HSM := Lib.hid (show st (l.drop m) = combZ zs l[m] ((st (l.drop (m + 1))).take (kidsN l[m])) :: (st (l.drop (m + 1))).drop (kidsN l[m]) by rw [HD.out]; exact HST.out _ _)
      have HSLT := Lib.hid (HSL.out (l.drop (m + 1)))
      have HLEN := Lib.hid (show (l.drop (m + 1)).length ≤ 40 by rw [List.length_drop]; have := HN.out; omega)
      clear c0 c1 c2 c3 c4 c5 hj0 hI
      generalize st (l.drop (m + 1)) = T at HO HE1 HSM HSLT
      generalize l[m] = nd at x0 x1 x2 x3 x4 x5 HD HM HE1 HSM
      have HK1 := Lib.hid (HONE.out nd HM.out)
      have HKD := Lib.hid (fun W => refKids_any nd W)
      rw [kidsD_is HK1.out] at HKD
      have HKS := Lib.hid (oneN_kids HK1.out)
      have HLN := Lib.hid (fun z hz W h => HLF.out nd HM.out z hz W h)
      have HC0 := Lib.hid (comb_nil zs nd)
      have HC4 := Lib.hid (fun h x t => show combZ zs nd (x :: t) = notZ x from combG_not (leafZ zs) notZ joinZ nd h x t)
      have HCF := Lib.hid (fun h xs => show combZ zs nd xs = foldC (leafZ zs) joinZ nd xs from combG_fold (leafZ zs) notZ joinZ nd h xs)
      have HC1 := Lib.hid (show nd.op ≠ 4 → ∀ x, combZ zs nd [x] = x from fun h x => HCF.out h [x])
      have HCS := Lib.hid (show nd.op ≠ 4 → ∀ xs x, xs ≠ [] → combZ zs nd (xs ++ [x]) = accJ (decide (nd.op ≠ 2)) (combZ zs nd xs) x 9 from fun h xs x hx => by rw [HCF.out h, HCF.out h, foldC_snoc _ _ _ _ _ hx]; rfl)
      have HL0 := Lib.hid (fun h => leaf_none (zs := zs) (n := nd) h)
      have HLC := Lib.hid (fun h => known_leaf (zs := zs) (n := nd) h)
      have HZC := Lib.hid (show ∀ j : Nat, nd.col = (j : Int) → ∀ h : j < zs.length, zoneC zs nd = zs[j] from fun j e h => by unfold zoneC; rw [e, Int.toNat_natCast, List.getElem?_eq_getElem h]; rfl)
      have HCOL := Lib.hid (show 5 ≤ nd.op ∧ nd.op ≤ 8 → 0 ≤ nd.col ∧ nd.col < (K.length : Int) from fun h => by have h' := HK1.out.2.2.1; rw [if_pos (show colN nd = true from decide_eq_true h)] at h'; exact h')
      clear HCF
      generalize combZ zs nd = cmb at HSM HC0 HC4 HC1 HCS
      generalize leafZ zs nd = lfz at HC0 HL0 HLC
      generalize zoneC zs nd = zc at HLC HZC
      obtain ⟨kn, hkn⟩ : ∃ kn, kidsN nd = kn := ⟨_, rfl⟩
      rw [hkn] at HE1 HSM HKD HKS
      obtain ⟨o, c, kd, ⟨vk, vn, vs⟩⟩ := nd
      unfold Nd.val at HKD HLN
      simp only at x0 x1 x2 x3 x4 x5 HKD HLN HC4 HC1 HCS HL0 HLC HZC HCOL HKS
      have hkn40 := HKS.out.1
      obtain ⟨nb, hnb⟩ : ∃ nb, wr.heap.size = nb := ⟨_, rfl⟩
      have HB := Lib.hid ((Blk.new wr [.int .u8 o, .int .i64 c, .int .i64 kd, .int .u8 vk, .int .i64 vn, .string ⟨vs.toArray⟩] 38).ext (ext_new _ (.cells #[.bool false, .bool false, .bool true] 32)))
      have HQ := Lib.hid (show Blk ((wr.alloc (.cells #[.int .u8 o, .int .i64 c, .int .i64 kd, .int .u8 vk, .int .i64 vn, .string ⟨vs.toArray⟩] 38)).alloc (.cells #[.bool false, .bool false, .bool true] 32)) (wr.heap.size + 1) (tL (false, false, true)) 32 from by
        have h := Blk.new (wr.alloc (.cells #[.int .u8 o, .int .i64 c, .int .i64 kd, .int .u8 vk, .int .i64 vn, .string ⟨vs.toArray⟩] 38)) [.bool false, .bool false, .bool true] 32
        simp only [World.alloc, Array.size_push] at h
        exact h)
      have HXW := Lib.hid (Ext.trans (ext_new wr (.cells #[.int .u8 o, .int .i64 c, .int .i64 kd, .int .u8 vk, .int .i64 vn, .string ⟨vs.toArray⟩] 38)) (ext_new _ (.cells #[.bool false, .bool false, .bool true] 32)))
      have HX1 := Lib.hid (Ext.trans HX.out HXW.out)
      have HO1 := Lib.hid (owns_extS HO.out HXW.out)
      have HNB := Lib.hid (show WA.heap.size ≤ nb from by rw [← hnb]; exact HX.out.size)
      rw [hnb] at HB HQ
      obtain ⟨sa, sc, rfl, hs1, hs2⟩ := own_shape3 HO.out
      have HOK := Lib.hid (show ∀ k, (Value.slice sa T.length sc).ownBlock = some k → k < nb from fun k hk => by have := (HO.out.lt k hk).2; rw [hnb] at this; exact this)
      clear hkn hml
      go_upto_region 7 with fail
      try rw [hnb]
      generalize hWB : (wr.alloc (.cells #[.int .u8 o, .int .i64 c, .int .i64 kd, .int .u8 vk, .int .i64 vn, .string ⟨vs.toArray⟩] 38)).alloc (.cells #[.bool false, .bool false, .bool true] 32) = WB at HB HQ HX1 HO1 ⊢
      clear hWB x0 x1 x2 x3 x4 x5
      have x0 : WB.cell? ⟨nb, 0, none⟩ = some (.int .u8 o) := HB.out.cell 0 _ rfl
      have HCC := Lib.hid (fun W => refColumn_any o W)
      by_cases hcol : 5 ≤ o ∧ o ≤ 8
      · have HCO := Lib.hid hcol
        rw [decide_eq_true hcol] at HCC
        obtain ⟨hc1, hc2⟩ := HCOL.out hcol
        obtain ⟨cj, rfl⟩ := Int.eq_ofNat_of_zero_le hc1
        have hcjr : cj < zs.length := by have := HKK.out; omega
        have hcjR : cj < R := by have := HRL.out; omega
        obtain ⟨gz, off', rfl, y0, y1, y2, y3, y4, y5, y6, y7⟩ := KC.out cj hcjr
        have HVX := Lib.hid (HZC.out cj rfl hcjr)
        have HLX := Lib.hid (HLN.out zs[cj] (List.getElem_mem hcjr))
        have HLV := Lib.hid (HLC.out hcol)
        rw [HVX.out] at HLV
        clear HVX HZC HLC
        have HY0 := Lib.hid ((HX1.out.cell (lt_of_cell y0)).trans y0)
        have HY1 := Lib.hid ((HX1.out.cell (lt_of_cell y1)).trans y1)
        have HY2 := Lib.hid ((HX1.out.cell (lt_of_cell y2)).trans y2)
        have HY3 := Lib.hid ((HX1.out.cell (lt_of_cell y3)).trans y3)
        have HY4 := Lib.hid ((HX1.out.cell (lt_of_cell y4)).trans y4)
        have HY5 := Lib.hid ((HX1.out.cell (lt_of_cell y5)).trans y5)
        have HY6 := Lib.hid ((HX1.out.cell (lt_of_cell y6)).trans y6)
        have HY7 := Lib.hid ((HX1.out.cell (lt_of_cell y7)).trans y7)
        have HGZ := Lib.hid (show gz ≠ nb + 1 from by have := lt_of_cell y0; simp only at this; have := HNB.out; omega)
        generalize zs[cj] = zv at HY0 HY1 HY2 HY3 HY4 HY5 HY6 HY7 HLX HLV
        generalize knownZ ⟨o, (cj : Int), kd, ⟨vk, vn, vs⟩⟩ zv = kz at HLX HLV
        obtain ⟨⟨zak, zan, zas⟩, ⟨zbk, zbn, zbs⟩, zn, zm⟩ := zv
        obtain ⟨k0, k1, k2⟩ := kz
        unfold Zo.val tripV at HLX
        simp only at HY0 HY1 HY2 HY3 HY4 HY5 HY6 HY7 HLX
        clear hcol hc1 hc2 hcjr y0 y1 y2 y3 y4 y5 y6 y7
        go_wp2_with fail
        refine (HCC.out _).mono ?_
        rintro e W' ⟨rfl, rfl⟩
        go_wp2_with fail
        clear x0
        refine wp_region_segs (OnlyP (nb + 1)) (OnlyP.keeps _) [([0, 1, 2, 3, 4, 5], some 6), ([], some 7)] (by kernel_rfl) (by kernel_rfl) (fun c a a' w e h => (by exact ⟨e ▸ h.1, h.2⟩)) ?_
        simp only [pickSegs, pickOps, List.map_cons, List.map_nil, Option.map_some, Option.getD_some, List.getElem?_toArray, List.getElem?_cons_zero, List.getElem?_cons_succ]
        have a0 : ∀ z : Later (OnlyP (nb + 1)) WB.drew, z.val.cell? ⟨nb, 0, none⟩ = some (.int .u8 o) := fun z => onlyP_cell (OnlyP.trans (OnlyP.of_ext (Ext.drew WB)) z.2) (HB.out.cell 0 _ rfl) (by omega)
        have a1 : ∀ z : Later (OnlyP (nb + 1)) WB.drew, z.val.cell? ⟨nb, 1, none⟩ = some (.int .i64 (cj : Int)) := fun z => onlyP_cell (OnlyP.trans (OnlyP.of_ext (Ext.drew WB)) z.2) (HB.out.cell 1 _ rfl) (by omega)
        have a2 : ∀ z : Later (OnlyP (nb + 1)) WB.drew, z.val.cell? ⟨nb, 2, none⟩ = some (.int .i64 kd) := fun z => onlyP_cell (OnlyP.trans (OnlyP.of_ext (Ext.drew WB)) z.2) (HB.out.cell 2 _ rfl) (by omega)
        have a3 : ∀ z : Later (OnlyP (nb + 1)) WB.drew, z.val.cell? ⟨nb, 3, none⟩ = some (.int .u8 vk) := fun z => onlyP_cell (OnlyP.trans (OnlyP.of_ext (Ext.drew WB)) z.2) (HB.out.cell 3 _ rfl) (by omega)
        have a4 : ∀ z : Later (OnlyP (nb + 1)) WB.drew, z.val.cell? ⟨nb, 4, none⟩ = some (.int .i64 vn) := fun z => onlyP_cell (OnlyP.trans (OnlyP.of_ext (Ext.drew WB)) z.2) (HB.out.cell 4 _ rfl) (by omega)
        have a5 : ∀ z : Later (OnlyP (nb + 1)) WB.drew, z.val.cell? ⟨nb, 5, none⟩ = some (.string ⟨vs.toArray⟩) := fun z => onlyP_cell (OnlyP.trans (OnlyP.of_ext (Ext.drew WB)) z.2) (HB.out.cell 5 _ rfl) (by omega)
        have z0 : ∀ z : Later (OnlyP (nb + 1)) WB.drew, z.val.cell? ⟨gz, off' + cj * 8, none⟩ = some (.int .u8 zak) := fun z => onlyP_cell (OnlyP.trans (OnlyP.of_ext (Ext.drew WB)) z.2) HY0.out HGZ.out
        have z1 : ∀ z : Later (OnlyP (nb + 1)) WB.drew, z.val.cell? ⟨gz, off' + cj * 8 + 1, none⟩ = some (.int .i64 zan) := fun z => onlyP_cell (OnlyP.trans (OnlyP.of_ext (Ext.drew WB)) z.2) HY1.out HGZ.out
        have z2 : ∀ z : Later (OnlyP (nb + 1)) WB.drew, z.val.cell? ⟨gz, off' + cj * 8 + 2, none⟩ = some (.string ⟨zas.toArray⟩) := fun z => onlyP_cell (OnlyP.trans (OnlyP.of_ext (Ext.drew WB)) z.2) HY2.out HGZ.out
        have z3 : ∀ z : Later (OnlyP (nb + 1)) WB.drew, z.val.cell? ⟨gz, off' + cj * 8 + 3, none⟩ = some (.int .u8 zbk) := fun z => onlyP_cell (OnlyP.trans (OnlyP.of_ext (Ext.drew WB)) z.2) HY3.out HGZ.out
        have z4 : ∀ z : Later (OnlyP (nb + 1)) WB.drew, z.val.cell? ⟨gz, off' + cj * 8 + 4, none⟩ = some (.int .i64 zbn) := fun z => onlyP_cell (OnlyP.trans (OnlyP.of_ext (Ext.drew WB)) z.2) HY4.out HGZ.out
        have z5 : ∀ z : Later (OnlyP (nb + 1)) WB.drew, z.val.cell? ⟨gz, off' + cj * 8 + 5, none⟩ = some (.string ⟨zbs.toArray⟩) := fun z => onlyP_cell (OnlyP.trans (OnlyP.of_ext (Ext.drew WB)) z.2) HY5.out HGZ.out
        have z6 : ∀ z : Later (OnlyP (nb + 1)) WB.drew, z.val.cell? ⟨gz, off' + cj * 8 + 6, none⟩ = some (.int .i64 zn) := fun z => onlyP_cell (OnlyP.trans (OnlyP.of_ext (Ext.drew WB)) z.2) HY6.out HGZ.out
        have z7 : ∀ z : Later (OnlyP (nb + 1)) WB.drew, z.val.cell? ⟨gz, off' + cj * 8 + 7, none⟩ = some (.int .i64 zm) := fun z => onlyP_cell (OnlyP.trans (OnlyP.of_ext (Ext.drew WB)) z.2) HY7.out HGZ.out
        refine wpSegs_some fun K hK => ?_
        repeat go_big_quiet_step (fail)
        refine wpQuiet_nil ?_
        clear a0 a1 a2 a3 a4 a5 z0 z1 z2 z3 z4 z5 z6 z7
        go_wp2_with fail
        refine (HLX.out _ (Ext.trans HX1.out (Ext.drew WB))).mono ?_
        rintro e W1 ⟨rfl, hx⟩
        have HX2 := Lib.hid (Ext.trans (Ext.drew WB) hx)
        have HQ1 := Lib.hid (HQ.out.ext HX2.out)
        have HXX := Lib.hid hx
        clear hx
        go_wp2_with fail
        refine ⟨OnlyP.of_ext HXX.out, hK _ _ ?_⟩
        clear hK K
        refine wpSegs_some fun K hK => ?_
        refine wpQuiet_nil ?_
        have s0 : W1.cell? ⟨nb + 1, 0, none⟩ = some (.bool false) := HQ1.out.cell 0 _ rfl
        have s1 : W1.cell? ⟨nb + 1, 1, none⟩ = some (.bool false) := HQ1.out.cell 1 _ rfl
        have s2 : W1.cell? ⟨nb + 1, 2, none⟩ = some (.bool true) := HQ1.out.cell 2 _ rfl
        have f0 : W1.frozen? ⟨nb + 1, 0, none⟩ = false := HQ1.out.free 0
        have f1 : W1.frozen? ⟨nb + 1, 1, none⟩ = false := HQ1.out.free 1
        have f2 : W1.frozen? ⟨nb + 1, 2, none⟩ = false := HQ1.out.free 2
        go_wp2_with fail
        refine ⟨onlyP_3 _ _ _ _ _, hK _ _ ?_⟩
        clear hK K
        refine wpSegs_nil ?_
        have HOKN := Lib.hid (show (Value.slice sa T.length sc).ownBlock ≠ some (nb + 1) from fun h => by have := HOK.out _ h; omega)
        have HO3C := Lib.hid (own_set3 (owns_extS HO1.out HX2.out) HOKN.out (.bool k0) (.bool k1) (.bool k2))
        have HB3C := Lib.hid (blk_apart3 (g := nb + 1) (HB.out.ext HX2.out) (by omega) (.bool k0) (.bool k1) (.bool k2))
        have HQ3C := Lib.hid (blk_set3 HQ1.out (.bool k0) (.bool k1) (.bool k2))
        have HX3C := Lib.hid (ext_set3 (g := nb + 1) (Ext.trans HX1.out HX2.out) (by have := HNB.out; omega) (.bool k0) (.bool k1) (.bool k2))
        generalize ((W1.setCell ⟨nb + 1, 0, none⟩ (.bool k0)).setCell ⟨nb + 1, 1, none⟩ (.bool k1)).setCell ⟨nb + 1, 2, none⟩ (.bool k2) = W3 at HO3C HB3C HQ3C HX3C ⊢
        clear s0 f0 s1 f1 s2 f2
        go_wp2_with fail
        go_loopw [5, 9, 10] (fun s k _ wr => ∃ (q : Nat) (sv : Value), q ≤ kn ∧ k = .int .i64 q ∧ sv = s ∧ wr.ownsRow WA.heap.size 32 3 sv (T.drop q).length (((T.drop q).reverse).flatMap tL) ∧ (∀ k, sv.ownBlock = some k → k < nb) ∧ Blk wr nb [.int .u8 o, .int .i64 (cj : Int), .int .i64 kd, .int .u8 vk, .int .i64 vn, .string ⟨vs.toArray⟩] 38 ∧ Blk wr (nb + 1) (tL (cmb (T.take q))) 32 ∧ Ext WA wr) (fun _ k _ _ => kn - (intOf k).toNat)
        case atStart => exact ⟨0, _, Nat.zero_le _, rfl, rfl, HO3C.out, HOK.out, HB3C.out, by rw [List.take_zero, HC0.out, HLV.out]; exact HQ3C.out, HX3C.out⟩
        case round =>
          obtain ⟨q, sv, hq, rfl, rfl, ho, hok, hb, hob, hx⟩ := hrel
          have HO2 := Lib.hid ho
          have HB2 := Lib.hid hb
          have HQ2 := Lib.hid hob
          have HX2 := Lib.hid hx
          have b0 : wr.cell? ⟨nb, 0, none⟩ = some (.int .u8 o) := HB2.out.cell 0 _ rfl
          have b1 : wr.cell? ⟨nb, 1, none⟩ = some (.int .i64 (cj : Int)) := HB2.out.cell 1 _ rfl
          have b2 : wr.cell? ⟨nb, 2, none⟩ = some (.int .i64 kd) := HB2.out.cell 2 _ rfl
          have b3 : wr.cell? ⟨nb, 3, none⟩ = some (.int .u8 vk) := HB2.out.cell 3 _ rfl
          have b4 : wr.cell? ⟨nb, 4, none⟩ = some (.int .i64 vn) := HB2.out.cell 4 _ rfl
          have b5 : wr.cell? ⟨nb, 5, none⟩ = some (.string ⟨vs.toArray⟩) := HB2.out.cell 5 _ rfl
          clear ho hb hob hx
          by_cases hlt : q < kn
          · exact absurd hlt (by have := HKS.out.2.2.2 (by have := HCO.out; omega) (by have := HCO.out; omega) (by have := HCO.out; omega); omega)
          · obtain rfl : q = kn := by omega
            obtain ⟨L, hL⟩ : ∃ L, (T.drop q).length = L := ⟨_, rfl⟩
            have hL40 : L ≤ 40 := by rw [← hL, List.length_drop]; have := HSLT.out; have := HLEN.out; omega
            rw [hL] at HO2
            have HLL := Lib.hid hL
            clear hL hlt
            obtain ⟨ea, ec, rfl, he1, he2⟩ := own_shape3 HO2.out
            obtain ⟨⟨a0, a1, a2⟩, hacc⟩ : ∃ t, cmb (T.take q) = t := ⟨_, rfl⟩
            rw [hacc] at HQ2
            have HAC := Lib.hid hacc
            clear hacc
            go_wp2_with fail
            refine (HKD.out _).mono ?_
            rintro e w3 ⟨rfl, hx⟩
            have HX3 := Lib.hid (Ext.trans HX2.out hx)
            have HO3 := Lib.hid (owns_extS HO2.out hx)
            have HQ3 := Lib.hid (HQ2.out.ext hx)
            clear hx b0 b1 b2 b3 b4 b5
            have s0 : w3.cell? ⟨nb + 1, 0, none⟩ = some (.bool a0) := HQ3.out.cell 0 _ rfl
            have s1 : w3.cell? ⟨nb + 1, 1, none⟩ = some (.bool a1) := HQ3.out.cell 1 _ rfl
            have s2 : w3.cell? ⟨nb + 1, 2, none⟩ = some (.bool a2) := HQ3.out.cell 2 _ rfl
            have hsz := HX3.out.size
            go_wp2_with (at_builtin; go_loud (refine wpList_append_one rfl (.tmp 69) (.tmp 71) 59 rfl WA.heap.size 32 i0 (.agg #[.bool false, .bool false, .bool false]) 3 3 Tryz.underlying59 hi hz0 hz1 hz2 rfl (by decide) (by decide) _ L _ [.bool a0, .bool a1, .bool a2] rfl HO3.out rfl rfl (fun u hu => by simp only [List.mem_cons, List.not_mem_nil, or_false] at hu; rcases hu with rfl | rfl | rfl <;> rfl) (by omega) hsz ?_); intro v4 w4 hown4 hbel4 hos4 hgr4)
            obtain ⟨va, vc, rfl, hv1, hv2⟩ := own_shape3 hown4
            have HOW := Lib.hid hown4
            have HBL := Lib.hid hbel4
            clear hown4 hbel4 hos4 hgr4
            go_wp2_with fail
            go_roundw
            case rel => exact ⟨m, (m : Int) - 1, _, by omega, rfl, by go_num, rfl, by
              rw [HSM.out, List.length_cons, HLL.out, List.reverse_cons, List.flatMap_append, HAC.out]
              exact HOW.out, Below.trans HX3.out HBL.out⟩
            case measure => first | (simp [intOf]; omega) | simp [intOf]
      · rw [decide_eq_false hcol] at HCC
        have HLV := Lib.hid (HL0.out hcol)
        clear hcol HL0 HLC HZC HCOL
        go_wp2_with fail
        refine (HCC.out _).mono ?_
        rintro e W' ⟨rfl, rfl⟩
        go_wp2_with fail
        clear x0
        go_loopw [5, 9, 10] (fun s k _ wr => ∃ (q : Nat) (sv : Value), q ≤ kn ∧ k = .int .i64 q ∧ sv = s ∧ wr.ownsRow WA.heap.size 32 3 sv (T.drop q).length (((T.drop q).reverse).flatMap tL) ∧ (∀ k, sv.ownBlock = some k → k < nb) ∧ Blk wr nb [.int .u8 o, .int .i64 c, .int .i64 kd, .int .u8 vk, .int .i64 vn, .string ⟨vs.toArray⟩] 38 ∧ Blk wr (nb + 1) (tL (cmb (T.take q))) 32 ∧ Ext WA wr) (fun _ k _ _ => kn - (intOf k).toNat)
        case atStart => exact ⟨0, _, Nat.zero_le _, rfl, rfl, HO1.out, HOK.out, HB.out, by rw [List.take_zero, HC0.out, HLV.out]; exact HQ.out, HX1.out⟩
        case round =>
          obtain ⟨q, sv, hq, rfl, rfl, ho, hok, hb, hob, hx⟩ := hrel
          have HO2 := Lib.hid ho
          have HB2 := Lib.hid hb
          have HQ2 := Lib.hid hob
          have HX2 := Lib.hid hx
          have b0 : wr.cell? ⟨nb, 0, none⟩ = some (.int .u8 o) := HB2.out.cell 0 _ rfl
          have b1 : wr.cell? ⟨nb, 1, none⟩ = some (.int .i64 c) := HB2.out.cell 1 _ rfl
          have b2 : wr.cell? ⟨nb, 2, none⟩ = some (.int .i64 kd) := HB2.out.cell 2 _ rfl
          have b3 : wr.cell? ⟨nb, 3, none⟩ = some (.int .u8 vk) := HB2.out.cell 3 _ rfl
          have b4 : wr.cell? ⟨nb, 4, none⟩ = some (.int .i64 vn) := HB2.out.cell 4 _ rfl
          have b5 : wr.cell? ⟨nb, 5, none⟩ = some (.string ⟨vs.toArray⟩) := HB2.out.cell 5 _ rfl
          clear ho hb hob hx
          by_cases hlt : q < kn
          · have hqT : q < T.length := by have := HE1.out; omega
            have HRV := Lib.hid (rev_drop3 T q hqT)
            have HTS := Lib.hid (List.take_succ_eq_append_getElem hqT)
            obtain ⟨L, hL⟩ : ∃ L, (T.drop (q + 1)).length = L := ⟨_, rfl⟩
            have hL1 : (T.drop q).length = L + 1 := by rw [← hL, List.length_drop, List.length_drop]; omega
            have hL40 : L ≤ 40 := by rw [← hL, List.length_drop]; have := HSLT.out; have := HLEN.out; omega
            rw [HRV.out, hL1] at HO2
            have HLL := Lib.hid hL
            have HLR := Lib.hid (show (T.drop (q + 1)).reverse.length = L by rw [List.length_reverse, hL])
            generalize T[q] = xq at HO2 HTS
            obtain ⟨q0, q1, q2⟩ := xq
            clear hL hL1 HRV hqT
            obtain ⟨g2, cc, rfl, hg1, hg2, hg3⟩ := owns_some3 HO2.out (Nat.succ_pos L)
            unfold maxLen at hg3
            have HG2 := Lib.hid (hok g2 rfl)
            have HOW := Lib.hid (show (Value.slice (some ⟨g2, 0, none⟩) L cc).ownBlock ≠ some (nb + 1) from fun h => by have := HG2.out; have h' : g2 = nb + 1 := Option.some.inj h; omega)
            clear hok
            obtain ⟨⟨a0, a1, a2⟩, hacc⟩ : ∃ t, cmb (T.take q) = t := ⟨_, rfl⟩
            rw [hacc] at HQ2
            have HAC := Lib.hid hacc
            clear hacc
            go_wp2_with fail
            refine (HKD.out _).mono ?_
            rintro e w3 ⟨rfl, hx⟩
            have HO3 := Lib.hid (owns_extS HO2.out hx)
            have HX3 := Lib.hid (Ext.trans HX2.out hx)
            have HB3 := Lib.hid (HB2.out.ext hx)
            have HQ3 := Lib.hid (HQ2.out.ext hx)
            clear hx b0 b1 b2 b3 b4 b5
            have z0 : w3.cell? ⟨g2, L * 3, none⟩ = some (.bool q0) := owns_top HO3.out L HLR.out 0 _ rfl
            have z1 : w3.cell? ⟨g2, L * 3 + 1, none⟩ = some (.bool q1) := owns_top HO3.out L HLR.out 1 _ rfl
            have z2 : w3.cell? ⟨g2, L * 3 + 2, none⟩ = some (.bool q2) := owns_top HO3.out L HLR.out 2 _ rfl
            have HXX := Lib.hid (ext_new w3 (.cells #[.bool q0, .bool q1, .bool q2] 32))
            have HT4 := Lib.hid (Blk.new w3 [.bool q0, .bool q1, .bool q2] 32)
            go_upto_region 13 with fail
            obtain ⟨xb, hxb⟩ : ∃ xb, w3.heap.size = xb := ⟨_, rfl⟩
            have HXB := Lib.hid (show nb + 1 < xb by rw [← hxb]; exact HQ3.out.lt)
            rw [hxb] at HT4
            try rw [hxb]
            generalize w3.alloc (.cells #[.bool q0, .bool q1, .bool q2] 32) = w4 at HXX HT4 ⊢
            have HO4 := Lib.hid (owns_extS (owns_pop HO3.out HLR.out) HXX.out)
            have HX4 := Lib.hid (Ext.trans HX3.out HXX.out)
            have HB4 := Lib.hid (HB3.out.ext HXX.out)
            have HQ4 := Lib.hid (HQ3.out.ext HXX.out)
            clear z0 z1 z2 HO3 HX3 HB3 HQ3 HXX hxb HO2 HB2 HQ2
            have b0 : w4.cell? ⟨nb, 0, none⟩ = some (.int .u8 o) := HB4.out.cell 0 _ rfl
            have t0 : w4.cell? ⟨xb, 0, none⟩ = some (.bool q0) := HT4.out.cell 0 _ rfl
            have t1 : w4.cell? ⟨xb, 1, none⟩ = some (.bool q1) := HT4.out.cell 1 _ rfl
            have t2 : w4.cell? ⟨xb, 2, none⟩ = some (.bool q2) := HT4.out.cell 2 _ rfl
            have s0 : w4.cell? ⟨nb + 1, 0, none⟩ = some (.bool a0) := HQ4.out.cell 0 _ rfl
            have s1 : w4.cell? ⟨nb + 1, 1, none⟩ = some (.bool a1) := HQ4.out.cell 1 _ rfl
            have s2 : w4.cell? ⟨nb + 1, 2, none⟩ = some (.bool a2) := HQ4.out.cell 2 _ rfl
            have f0 : w4.frozen? ⟨nb + 1, 0, none⟩ = false := HQ4.out.free 0
            have f1 : w4.frozen? ⟨nb + 1, 1, none⟩ = false := HQ4.out.free 1
            have f2 : w4.frozen? ⟨nb + 1, 2, none⟩ = false := HQ4.out.free 2
            by_cases h4 : o = 4
            · subst h4
              obtain rfl : q = 0 := by have := HKS.out.2.2.1 rfl; omega
              go_wp2_with fail
              go_roundw
              case rel => exact ⟨0 + 1, _, by omega, by go_num, rfl, by rw [HLL.out]; exact own_set3 HO4.out HOW.out _ _ _, fun k hk => by rw [← Option.some.inj hk]; exact HG2.out, blk_apart3 HB4.out (by omega) _ _ _, by rw [HTS.out, List.take_zero, List.nil_append, HC4.out rfl]; exact blk_set3 HQ4.out _ _ _, ext_set3 HX4.out (by have := HNB.out; show WA.heap.size ≤ nb + 1; omega) _ _ _⟩
              case measure => first | (simp [intOf]; omega) | simp [intOf]
            · have q4 : (o == (4 : Int)) = false := beq_eq_false_iff_ne.2 h4
              have H4 := Lib.hid h4
              clear h4
              by_cases hq0 : q = 0
              · subst hq0
                go_wp2_with fail
                go_roundw
                case rel => exact ⟨0 + 1, _, by omega, by go_num, rfl, by rw [HLL.out]; exact own_set3 HO4.out HOW.out _ _ _, fun k hk => by rw [← Option.some.inj hk]; exact HG2.out, blk_apart3 HB4.out (by omega) _ _ _, by rw [HTS.out, List.take_zero, List.nil_append, HC1.out H4.out]; exact blk_set3 HQ4.out _ _ _, ext_set3 HX4.out (by have := HNB.out; show WA.heap.size ≤ nb + 1; omega) _ _ _⟩
                case measure => first | (simp [intOf]; omega) | simp [intOf]
              · have q5 : (q == 0) = false := beq_eq_false_iff_ne.2 hq0
                have q5' : ((q : Int) == (0 : Int)) = false := beq_eq_false_iff_ne.2 (by omega)
                have HNE := Lib.hid (show T.take q ≠ [] from fun h => by have := congrArg List.length h; rw [List.length_take, List.length_nil] at this; have := HE1.out; omega)
                have HJS := Lib.hid (HCS.out H4.out (T.take q) (q0, q1, q2) HNE.out)
                rw [HAC.out] at HJS
                clear hq0
                have h23 : o = 2 ∨ o = 3 := by by_cases e2 : o = 2; exact .inl e2; by_cases e3 : o = 3; exact .inr e3; have := HKS.out.2.2.2 e2 e3 H4.out; omega
                rcases h23 with rfl | rfl
                · rw [show decide ((2 : Int) ≠ 2) = false from rfl] at HJS
                  have HBO := Lib.hid (fun W => refBoth_any false (a0, a1, a2) (q0, q1, q2) W)
                  generalize accJ false (a0, a1, a2) (q0, q1, q2) 9 = av at HBO HJS
                  obtain ⟨v0, v1, v2⟩ := av
                  unfold tripV at HBO
                  simp only at HBO
                  go_wp2_with fail
                  refine (HBO.out _).mono ?_
                  rintro e w5 ⟨rfl, hx⟩
                  have HO5 := Lib.hid (owns_extS HO4.out hx)
                  have HX5 := Lib.hid (Ext.trans HX4.out hx)
                  have HB5 := Lib.hid (HB4.out.ext hx)
                  have HQ5 := Lib.hid (HQ4.out.ext hx)
                  clear hx b0 t0 t1 t2 s0 s1 s2 f0 f1 f2
                  have s0 : w5.cell? ⟨nb + 1, 0, none⟩ = some (.bool a0) := HQ5.out.cell 0 _ rfl
                  have s1 : w5.cell? ⟨nb + 1, 1, none⟩ = some (.bool a1) := HQ5.out.cell 1 _ rfl
                  have s2 : w5.cell? ⟨nb + 1, 2, none⟩ = some (.bool a2) := HQ5.out.cell 2 _ rfl
                  have f0 : w5.frozen? ⟨nb + 1, 0, none⟩ = false := HQ5.out.free 0
                  have f1 : w5.frozen? ⟨nb + 1, 1, none⟩ = false := HQ5.out.free 1
                  have f2 : w5.frozen? ⟨nb + 1, 2, none⟩ = false := HQ5.out.free 2
                  go_wp2_with fail
                  go_roundw
                  case rel => exact ⟨q + 1, _, by omega, by go_num, rfl, by rw [HLL.out]; exact own_set3 HO5.out HOW.out _ _ _, fun k hk => by rw [← Option.some.inj hk]; exact HG2.out, blk_apart3 HB5.out (by omega) _ _ _, by rw [HTS.out, HJS.out]; exact blk_set3 HQ5.out _ _ _, ext_set3 HX5.out (by have := HNB.out; show WA.heap.size ≤ nb + 1; omega) _ _ _⟩
                  case measure => first | (simp [intOf]; omega) | simp [intOf]
                · rw [show decide ((3 : Int) ≠ 2) = true from rfl] at HJS
                  have HBO := Lib.hid (fun W => refBoth_any true (a0, a1, a2) (q0, q1, q2) W)
                  generalize accJ true (a0, a1, a2) (q0, q1, q2) 9 = av at HBO HJS
                  obtain ⟨v0, v1, v2⟩ := av
                  unfold tripV at HBO
                  simp only at HBO
                  go_wp2_with fail
                  refine (HBO.out _).mono ?_
                  rintro e w5 ⟨rfl, hx⟩
                  have HO5 := Lib.hid (owns_extS HO4.out hx)
                  have HX5 := Lib.hid (Ext.trans HX4.out hx)
                  have HB5 := Lib.hid (HB4.out.ext hx)
                  have HQ5 := Lib.hid (HQ4.out.ext hx)
                  clear hx b0 t0 t1 t2 s0 s1 s2 f0 f1 f2
                  have s0 : w5.cell? ⟨nb + 1, 0, none⟩ = some (.bool a0) := HQ5.out.cell 0 _ rfl
                  have s1 : w5.cell? ⟨nb + 1, 1, none⟩ = some (.bool a1) := HQ5.out.cell 1 _ rfl
                  have s2 : w5.cell? ⟨nb + 1, 2, none⟩ = some (.bool a2) := HQ5.out.cell 2 _ rfl
                  have f0 : w5.frozen? ⟨nb + 1, 0, none⟩ = false := HQ5.out.free 0
                  have f1 : w5.frozen? ⟨nb + 1, 1, none⟩ = false := HQ5.out.free 1
                  have f2 : w5.frozen? ⟨nb + 1, 2, none⟩ = false := HQ5.out.free 2
                  go_wp2_with fail
                  go_roundw
                  case rel => exact ⟨q + 1, _, by omega, by go_num, rfl, by rw [HLL.out]; exact own_set3 HO5.out HOW.out _ _ _, fun k hk => by rw [← Option.some.inj hk]; exact HG2.out, blk_apart3 HB5.out (by omega) _ _ _, by rw [HTS.out, HJS.out]; exact blk_set3 HQ5.out _ _ _, ext_set3 HX5.out (by have := HNB.out; show WA.heap.size ≤ nb + 1; omega) _ _ _⟩
                  case measure => first | (simp [intOf]; omega) | simp [intOf]
          · obtain rfl : q = kn := by omega
            obtain ⟨L, hL⟩ : ∃ L, (T.drop q).length = L := ⟨_, rfl⟩
            have hL40 : L ≤ 40 := by rw [← hL, List.length_drop]; have := HSLT.out; have := HLEN.out; omega
            rw [hL] at HO2
            have HLL := Lib.hid hL
            clear hL hlt
            obtain ⟨ea, ec, rfl, he1, he2⟩ := own_shape3 HO2.out
            obtain ⟨⟨a0, a1, a2⟩, hacc⟩ : ∃ t, cmb (T.take q) = t := ⟨_, rfl⟩
            rw [hacc] at HQ2
            have HAC := Lib.hid hacc
            clear hacc
            go_wp2_with fail
            refine (HKD.out _).mono ?_
            rintro e w3 ⟨rfl, hx⟩
            have HX3 := Lib.hid (Ext.trans HX2.out hx)
            have HO3 := Lib.hid (owns_extS HO2.out hx)
            have HQ3 := Lib.hid (HQ2.out.ext hx)
            clear hx b0 b1 b2 b3 b4 b5
            have s0 : w3.cell? ⟨nb + 1, 0, none⟩ = some (.bool a0) := HQ3.out.cell 0 _ rfl
            have s1 : w3.cell? ⟨nb + 1, 1, none⟩ = some (.bool a1) := HQ3.out.cell 1 _ rfl
            have s2 : w3.cell? ⟨nb + 1, 2, none⟩ = some (.bool a2) := HQ3.out.cell 2 _ rfl
            have hsz := HX3.out.size
            go_wp2_with (at_builtin; go_loud (refine wpList_append_one rfl (.tmp 69) (.tmp 71) 59 rfl WA.heap.size 32 i0 (.agg #[.bool false, .bool false, .bool false]) 3 3 Tryz.underlying59 hi hz0 hz1 hz2 rfl (by decide) (by decide) _ L _ [.bool a0, .bool a1, .bool a2] rfl HO3.out rfl rfl (fun u hu => by simp only [List.mem_cons, List.not_mem_nil, or_false] at hu; rcases hu with rfl | rfl | rfl <;> rfl) (by omega) hsz ?_); intro v4 w4 hown4 hbel4 hos4 hgr4)
            obtain ⟨va, vc, rfl, hv1, hv2⟩ := own_shape3 hown4
            have HOW := Lib.hid hown4
            have HBL := Lib.hid hbel4
            clear hown4 hbel4 hos4 hgr4
            go_wp2_with fail
            go_roundw
            case rel => exact ⟨m, (m : Int) - 1, _, by omega, rfl, by go_num, rfl, by
              rw [HSM.out, List.length_cons, HLL.out, List.reverse_cons, List.flatMap_append, HAC.out]
              exact HOW.out, Below.trans HX3.out HBL.out⟩
            case measure => first | (simp [intOf]; omega) | simp [intOf]

end
end Go.Proofs.YtfnmcdjfdhdlmaaGreatDoor

/-
  AskMay: the zones of the columns of some rows.
-/
namespace Go.Proofs.YtfnmcdjfdhdlmaaGreatDoor
section
open Go.ChangeAt Go.RowKit Go.BigFrame

theorem Tryz.info_zone14 : (Tryz.prog.info? 47).map (fun i => (i.zero, i.size, i.bytes)) = some (some (.agg #[.int .u8 0, .int .i64 0, .string ByteArray.empty, .int .u8 0, .int .i64 0, .string ByteArray.empty, .int .i64 0, .int .i64 0]), 8, 80) := by kernel_rfl
theorem zo_oneCell (z : Zo) : ∀ u ∈ z.cells, u.oneCell' = true := by
  intro u hu
  simp only [Zo.cells, List.mem_cons, List.not_mem_nil, or_false] at hu
  rcases hu with rfl | rfl | rfl | rfl | rfl | rfl | rfl | rfl <;> rfl
theorem zoCells (l : List Zo) (j : Nat) (hj : j < l.length) (i : Nat) (hi : i < 8) : (l.flatMap Zo.cells)[j * 8 + i]? = (l[j].cells)[i]? := by
  induction l generalizing j with
  | nil => simp at hj
  | cons a t ih =>
    have hc : a.cells.length = 8 := rfl
    cases j with
    | zero =>
      rw [List.flatMap_cons, Nat.zero_mul, Nat.zero_add, List.getElem?_append_left (by omega)]
      rfl
    | succ j =>
      have h := ih j (by simpa using hj)
      rw [List.flatMap_cons, List.getElem?_append_right (by omega), hc, show (j + 1) * 8 + i - 8 = j * 8 + i by omega]
      exact h
theorem RdZos.of_owns {E : TypeId} {base : Nat} {w : World} {v : Value} {l : List Zo} (h : w.ownsRow base E 8 v l.length (l.flatMap Zo.cells)) : RdZos w v l := by
  rcases h.2 with ⟨h1, h2⟩ | ⟨g, cap, cur, rfl, h2, h3, h4, h5, _⟩
  · obtain rfl := List.length_eq_zero_iff.1 h2
    rw [h1]
    exact RdZos.nil w
  · have hc := fun i u hu => h.cells (g := g) rfl i u hu
    refine ⟨_, cap, rfl, h4, h5, fun j hj => ⟨g, 0, rfl, fun i y hy => ?_⟩⟩
    have hi : i < 8 := (List.getElem?_eq_some_iff.1 hy).1
    have c := hc _ _ ((zoCells l j hj i hi).trans hy)
    rw [add_at] at c
    rw [Nat.add_assoc]
    exact c
theorem RdRows.takeK {w : World} {ao : Option Addr} {N cap : Nat} {l : List (List V)} (h : RdRows w (.slice ao N cap) l) (K : Nat) (hK : K ≤ N) : RdRows w (.slice ao K cap) (l.take K) := by
  obtain ⟨a', cap', h1, h2, h3, h4⟩ := h
  simp only [Value.slice.injEq] at h1
  obtain ⟨rfl, rfl, rfl⟩ := h1
  have hl : (l.take K).length = K := by rw [List.length_take]; omega
  refine ⟨ao, cap, by rw [hl], by rw [hl]; omega, h3, fun j hj => ?_⟩
  rw [hl] at hj
  obtain ⟨x, v, h5, h6, h7⟩ := h4 j (by omega)
  exact ⟨x, v, h5, by rw [List.getElem_take]; exact h6, h7⟩

set_option maxRecDepth 100000 in
set_option maxHeartbeats 8000000 in
theorem zones14_any (u v : Value) (K : List Int) (rl : List (List V)) (w : World) (hu : RdV w u (K.map (Value.int .u8))) (hK : K.length ≤ 20) (hv : RdRows w v rl) (hf : ∀ vs ∈ rl, ∀ x ∈ vs, x.fits ∧ x.s.length ≤ maxLen) (hr : rl.length ≤ 20) :
    Calls Tryz.prog 7 #[u, v] w fun e w' => (∃ z ok, e = .returned (.tuple #[z, .bool ok]) ∧ (ok = true → ∃ zs, RdZos w' z zs ∧ zs.length = K.length ∧ FitZ zs)) ∧ Ext w w' := by
  obtain ⟨i0, hi, hz0, hz1, hz2⟩ := info_parts Tryz.info_zone14
  have HK := Lib.hid hu
  obtain ⟨ko, kc, rfl, k1, k2, -⟩ := RdV.cellsAt hu
  rw [List.length_map] at *
  obtain ⟨ao, ac, rfl, a1, a2, hat⟩ := hv
  have HAT := Lib.hid hat
  have HF := Lib.hid hf
  unfold maxLen at k2 a2
  obtain ⟨N, hN⟩ : ∃ N, K.length = N := ⟨_, rfl⟩
  obtain ⟨R, hR⟩ : ∃ R, rl.length = R := ⟨_, rfl⟩
  have HNE := Lib.hid hN
  have HRE := Lib.hid hR
  rw [hN] at k1 hK HK ⊢
  rw [hR] at a1 hr ⊢
  clear hu hat hf hN hR
  go_enter Tryz.func7, Tryz.ntmps7
  go_wp2_with fail
  go_loopw [6, 7, 8, 10, 13] (fun s _ _ _ i wr => ∃ (j : Nat) (sv : Value) (zs : List Zo), j ≤ N ∧ i = .int .i64 j ∧ sv = s ∧ zs.length = j ∧ wr.ownsRow w.heap.size 47 8 sv j (zs.flatMap Zo.cells) ∧ FitZ zs ∧ Ext w wr) (fun _ _ _ _ i _ => N - (intOf i).toNat)
  case atStart => exact ⟨0, _, [], Nat.zero_le _, rfl, rfl, rfl, owns_nil _ _ _ _, (show FitZ [] from fun z hz => by cases hz), Ext.keeps.refl _⟩
  case round =>
    obtain ⟨j, sv, zs, hj, rfl, rfl, hzl, ho, hfz, hx⟩ := hrel
    have HO := Lib.hid ho
    have HX := Lib.hid hx
    have HZL := Lib.hid hzl
    have HFZ := Lib.hid hfz
    clear ho hx hfz hzl
    by_cases hlt : j < N
    · have dj : decide ((j : Int) < (N : Int)) = true := decide_eq_true (by omega)
      go_wp2_with fail
      have HSW := Lib.hid (show w.heap.size ≤ wr.heap.size from HX.out.size)
      obtain ⟨B0, hB0⟩ : ∃ B0, wr.heap.size = B0 := ⟨_, rfl⟩
      rw [hB0] at HSW
      have HB0 := Lib.hid hB0
      clear hB0
      generalize wr = wo at HO HX HSW HB0 ⊢
      go_loopw [8, 10, 18] (fun s2 _ i wi => ∃ (k : Nat) (sv2 : Value) (vs : List V), k ≤ R ∧ i = .int .i64 k ∧ sv2 = s2 ∧ vs.length = k ∧ wi.ownsRow B0 36 3 sv2 vs.length (vs.flatMap V.cells) ∧ FitV 5000 vs ∧ Ext wo wi) (fun _ _ i _ => R - (intOf i).toNat)
      case atStart => exact ⟨0, _, [], Nat.zero_le _, rfl, rfl, rfl, owns_nil _ _ _ _, (show FitV 5000 [] from fun z hz => by cases hz), Ext.keeps.refl _⟩
      case round =>
        obtain ⟨k, sv2, vs, hk, rfl, rfl, hvl, ho2, hfv, hx2⟩ := hrel
        have HO2 := Lib.hid ho2
        have HXI := Lib.hid hx2
        have HXW := Lib.hid (Ext.trans HX.out hx2)
        have HVL := Lib.hid hvl
        have HFV := Lib.hid hfv
        clear ho2 hx2 hfv hvl
        by_cases hlk : k < R
        · have dk : decide ((k : Int) < (R : Int)) = true := decide_eq_true (by omega)
          have hkr : k < rl.length := by have := HRE.out; omega
          obtain ⟨x, v, rfl, hrd, hc⟩ := HAT.out k hkr
          have x0 := (HXW.out.cell (lt_of_cell hc)).trans hc
          have HV := Lib.hid (hrd.mono HXW.out)
          have HFR := Lib.hid (HF.out rl[k] (List.getElem_mem hkr))
          generalize rl[k] = r at HV HFR
          obtain ⟨va, vc, rfl, -, -⟩ := HV.out.shape
          obtain ⟨L, hL⟩ : ∃ L, r.length = L := ⟨_, rfl⟩
          have HL := Lib.hid hL
          rw [hL] at HV x0
          clear hkr hrd hc hL
          go_wp2_with fail
          refine (fits14_any _ _ K r _ (HK.out.mono HXW.out) (by rw [HNE.out]; omega) HV.out (fun y hy => by have h := HFR.out y hy; unfold maxLen at h; exact ⟨h.1, by omega⟩)).mono ?_
          rintro e w5 ⟨⟨b2, rfl, hb2⟩, hx⟩
          have HX5 := Lib.hid (Ext.trans HXI.out hx)
          have HO5 := Lib.hid (owns_extS HO2.out hx)
          have HXW5 := Lib.hid (Ext.trans HXW.out hx)
          have HV5 := Lib.hid (HV.out.mono hx)
          have HB2 := Lib.hid hb2
          clear hx hb2
          cases b2 with
          | false =>
            go_wp2_with fail
            go_ret2
            exact ⟨⟨_, _, rfl, fun h => by cases h⟩, HXW5.out⟩
          | true =>
            have HFT := Lib.hid (HB2.out (by first | rfl | trivial))
            obtain ⟨-, p1, p2, pc⟩ := HV5.out.plain
            have hjr : j < r.length := by have := HFT.out.2.1; have := HNE.out; omega
            have hjL : j < L := by have := HL.out; omega
            obtain ⟨g', off', rfl, d0, d1, d2⟩ := pc j hjr
            have HFY := Lib.hid (show r[j].fits ∧ r[j].s.length ≤ 5000 from ⟨(HFR.out _ (List.getElem_mem hjr)).1, by have := (HFT.out.2.2 _ (List.getElem_mem hjr)).1; omega⟩)
            generalize r[j] = y at d0 d1 d2 HFY
            obtain ⟨yk, yn, ys⟩ := y
            simp only at d0 d1 d2
            have HSZ5 := Lib.hid (show B0 ≤ w5.heap.size from by rw [← HB0.out]; exact HX5.out.size)
            have HXB := Lib.hid (show ∀ w3, Below B0 w5 w3 → Ext wo w3 from fun w3 h => by show Below wo.heap.size wo w3; exact Below.trans HX5.out (by rw [HB0.out]; exact h))
            unfold maxLen at p2
            clear pc hjr
            go_wp2_with (at_builtin; go_loud (refine wpList_append_val rfl (.tmp 26) (.tmp 31) rfl B0 _ vs ⟨yk, yn, ys⟩ rfl HO5.out rfl (by have := HVL.out; omega) HSZ5.out ?_); intro v3 w3 hown3 hb3 _; have HO3 := Lib.hid hown3; have HX3 := Lib.hid (HXB.out w3 hb3); clear hown3 hb3)
            go_roundw
            case rel => exact ⟨k + 1, _, vs ++ [⟨yk, yn, ys⟩], by omega, by go_num, rfl, by rw [List.length_append, HVL.out]; rfl, HO3.out, fun z hz => by rcases List.mem_append.1 hz with h | h; exact HFV.out z h; rw [List.mem_singleton.1 h]; exact HFY.out, HX3.out⟩
            case measure => simp [intOf]; omega
        · have dk : decide ((k : Int) < (R : Int)) = false := decide_eq_false (by omega)
          go_wp2_with fail
          refine (pOfZ_any _ vs _ (RdVals.of_owns HO2.out) (fun v hv => HFV.out v hv)).mono ?_
          rintro e w4 ⟨rfl, hx⟩
          have HX4 := Lib.hid (Ext.trans HXW.out hx)
          have HO4 := Lib.hid (owns_extS (owns_extS HO.out HXI.out) hx)
          have HFO := Lib.hid (show (ofZ vs).fits ∧ (ofZ vs).small 5000 from ⟨ofZ_fits fun v hv => (HFV.out v hv).1, ofZ_small fun v hv => (HFV.out v hv).2⟩)
          generalize ofZ vs = z at HFO ⊢
          obtain ⟨⟨ak, an, as'⟩, ⟨bk, bn, bs⟩, zn, zm⟩ := z
          unfold Zo.val
          simp only
          clear hx
          have hsz := HX4.out.size
          go_wp2_with (at_builtin; go_loud (refine wpList_append_one rfl (.tmp 34) (.tmp 37) 29 rfl w.heap.size 47 i0 (.agg #[.int .u8 0, .int .i64 0, .string ByteArray.empty, .int .u8 0, .int .i64 0, .string ByteArray.empty, .int .i64 0, .int .i64 0]) 8 80 Tryz.underlying29 hi hz0 hz1 hz2 rfl (by decide) (by decide) _ j _ [.int .u8 ak, .int .i64 an, .string ⟨as'.toArray⟩, .int .u8 bk, .int .i64 bn, .string ⟨bs.toArray⟩, .int .i64 zn, .int .i64 zm] rfl HO4.out rfl rfl (fun u hu => zo_oneCell ⟨⟨ak, an, as'⟩, ⟨bk, bn, bs⟩, zn, zm⟩ u hu) (by omega) hsz ?_); intro v6 w6 hown6 hbel6 hos6 hgr6)
          have HOW := Lib.hid hown6
          have HBL := Lib.hid hbel6
          clear hown6 hbel6 hos6 hgr6
          go_wp2_with fail
          go_roundw
          case rel => exact ⟨j + 1, _, zs ++ [⟨⟨ak, an, as'⟩, ⟨bk, bn, bs⟩, zn, zm⟩], by omega, by go_num, rfl, by rw [List.length_append, HZL.out]; rfl, by rw [List.flatMap_append]; exact HOW.out, fun z hz => by rcases List.mem_append.1 hz with h | h; exact HFZ.out z h; rw [List.mem_singleton.1 h]; exact HFO.out, Below.trans HX4.out HBL.out⟩
          case measure => first | (simp [intOf]; omega) | simp [intOf]
    · obtain rfl : j = N := by omega
      have dj : decide ((j : Int) < (j : Int)) = false := decide_eq_false (by omega)
      go_wp2_with fail
      go_ret2
      exact ⟨⟨_, _, rfl, fun _ => ⟨zs, RdZos.of_owns (by rw [HZL.out]; exact HO.out), by rw [HZL.out], HFZ.out⟩⟩, HX.out⟩

end
end Go.Proofs.YtfnmcdjfdhdlmaaGreatDoor

/-
  The library's contracts of sorting numbers, and of leaving out what stands twice side by side, laid at this program.
-/
namespace Go.Proofs
open Go.Shelf
def Tryz.laysSortI_ren : Go.Shelf.Ren := ⟨fun | 189 => 47 | 125 => 74 | 257 => 73 | 128 => 100 | 129 => 101 | 294 => 91 | 295 => 92 | 296 => 93 | 297 => 94 | 298 => 95 | 299 => 96 | 216 => 97 | 300 => 98 | 301 => 99 | 328 => 114 | 329 => 115 | 330 => 116 | 331 => 117 | 332 => 118 | 215 => 119 | 343 => 127 | n => n, fun | 28 => 52 | 3 => 3 | 46 => 103 | 0 => 0 | 51 => 125 | 53 => 127 | 4 => 4 | 183 => 119 | 182 => 118 | 131 => 75 | 5 => 5 | 9 => 9 | 218 => 150 | 222 => 154 | 228 => 160 | 229 => 161 | n => n, fun | n => n⟩
theorem Tryz.laysSortI : Go.Proofs.Lays.n189 Tryz.prog Tryz.laysSortI_ren := {
  mixed := by kernel_rfl
  f125 := Tryz.func74.trans (congrArg some (by kernel_rfl))
  f128 := Tryz.func100.trans (congrArg some (by kernel_rfl))
  f129 := Tryz.func101.trans (congrArg some (by kernel_rfl))
  f189 := Tryz.func47.trans (congrArg some (by kernel_rfl))
  f215 := Tryz.func119.trans (congrArg some (by kernel_rfl))
  f216 := Tryz.func97.trans (congrArg some (by kernel_rfl))
  f257 := Tryz.func73.trans (congrArg some (by kernel_rfl))
  f294 := Tryz.func91.trans (congrArg some (by kernel_rfl))
  f295 := Tryz.func92.trans (congrArg some (by kernel_rfl))
  f296 := Tryz.func93.trans (congrArg some (by kernel_rfl))
  f297 := Tryz.func94.trans (congrArg some (by kernel_rfl))
  f298 := Tryz.func95.trans (congrArg some (by kernel_rfl))
  f299 := Tryz.func96.trans (congrArg some (by kernel_rfl))
  f300 := Tryz.func98.trans (congrArg some (by kernel_rfl))
  f301 := Tryz.func99.trans (congrArg some (by kernel_rfl))
  f328 := Tryz.func114.trans (congrArg some (by kernel_rfl))
  f329 := Tryz.func115.trans (congrArg some (by kernel_rfl))
  f330 := Tryz.func116.trans (congrArg some (by kernel_rfl))
  f331 := Tryz.func117.trans (congrArg some (by kernel_rfl))
  f332 := Tryz.func118.trans (congrArg some (by kernel_rfl))
  f343 := Tryz.func127.trans (congrArg some (by kernel_rfl))
  t0 := Tryz.underlying0
  a0 := Tryz.isAgg0
  z0 := Tryz.sizeOf0
  v0 := Tryz.zeroValue0
  t3 := Tryz.underlying3
  a3 := Tryz.isAgg3
  z3 := Tryz.sizeOf3
  v3 := Tryz.zeroValue3
  t4 := Tryz.underlying4
  a4 := Tryz.isAgg4
  z4 := Tryz.sizeOf4
  v4 := Tryz.zeroValue4
  t5 := Tryz.underlying5
  a5 := Tryz.isAgg5
  z5 := Tryz.sizeOf5
  v5 := Tryz.zeroValue5
  t9 := Tryz.underlying9
  a9 := Tryz.isAgg9
  z9 := Tryz.sizeOf9
  v9 := Tryz.zeroValue9
  t28 := Tryz.underlying52
  a28 := Tryz.isAgg52
  z28 := Tryz.sizeOf52
  v28 := Tryz.zeroValue52
  t46 := Tryz.underlying103
  a46 := Tryz.isAgg103
  z46 := Tryz.sizeOf103
  v46 := Tryz.zeroValue103
  t51 := Tryz.underlying125
  a51 := Tryz.isAgg125
  z51 := Tryz.sizeOf125
  v51 := Tryz.zeroValue125
  t53 := Tryz.underlying127
  a53 := Tryz.isAgg127
  z53 := Tryz.sizeOf127
  v53 := Tryz.zeroValue127
  t131 := Tryz.underlying75
  a131 := Tryz.isAgg75
  z131 := Tryz.sizeOf75
  v131 := Tryz.zeroValue75
  t182 := Tryz.underlying118
  a182 := Tryz.isAgg118
  z182 := Tryz.sizeOf118
  v182 := Tryz.zeroValue118
  t183 := Tryz.underlying119
  a183 := Tryz.isAgg119
  z183 := Tryz.sizeOf119
  v183 := Tryz.zeroValue119
  t218 := Tryz.underlying150
  a218 := Tryz.isAgg150
  z218 := Tryz.sizeOf150
  v218 := Tryz.zeroValue150
  t222 := Tryz.underlying154
  a222 := Tryz.isAgg154
  z222 := Tryz.sizeOf154
  v222 := Tryz.zeroValue154
  t228 := Tryz.underlying160
  a228 := Tryz.isAgg160
  z228 := Tryz.sizeOf160
  v228 := Tryz.zeroValue160
  t229 := Tryz.underlying161
  a229 := Tryz.isAgg161
  z229 := Tryz.sizeOf161
  v229 := Tryz.zeroValue161 }
def Tryz.laysCompactI_ren : Go.Shelf.Ren := ⟨fun | 20 => 48 | n => n, fun | 22 => 52 | 3 => 3 | 4 => 4 | 0 => 0 | n => n, fun | n => n⟩
theorem Tryz.laysCompactI : Go.Proofs.Lays2.n20 Tryz.prog Tryz.laysCompactI_ren := {
  mixed := by kernel_rfl
  f20 := Tryz.func48.trans (congrArg some (by kernel_rfl))
  t0 := Tryz.underlying0
  a0 := Tryz.isAgg0
  z0 := Tryz.sizeOf0
  v0 := Tryz.zeroValue0
  t3 := Tryz.underlying3
  a3 := Tryz.isAgg3
  z3 := Tryz.sizeOf3
  v3 := Tryz.zeroValue3
  t4 := Tryz.underlying4
  a4 := Tryz.isAgg4
  z4 := Tryz.sizeOf4
  v4 := Tryz.zeroValue4
  t22 := Tryz.underlying52
  a22 := Tryz.isAgg52
  z22 := Tryz.sizeOf52
  v22 := Tryz.zeroValue52
  i3 := by kernel_rfl }
end Go.Proofs

/-
  Blocks from a number on: as a relation that regions keep; a row cut to its first ones.
-/
namespace Go.Proofs.YtfnmcdjfdhdlmaaGreatDoor
open Go.RowKit Go.BigFrame

theorem Below.keepsD (B : Nat) : Keeps (Below B) := ⟨fun _ => Below.refl _ _, fun _ _ _ h k => Below.trans h k⟩
instance (B : Nat) (w : World) : Inhabited (Later (Below B) w) := ⟨⟨w, Below.refl _ _⟩⟩
theorem owns_take {base : Nat} {e : TypeId} {w : World} {a : Option Addr} {n cap : Nat} {xs : List Value} (h : w.ownsRow base e 1 (.slice a n cap) n xs) (k : Nat) (hk : k ≤ n) : w.ownsRow base e 1 (.slice a k cap) k (xs.take k) := by
  obtain ⟨h1, h2⟩ := h
  refine ⟨by rw [List.length_take, h1]; omega, ?_⟩
  rcases h2 with ⟨h3, h4⟩ | ⟨g, c, cur, h3, h4, h5, h6, h7, h8, h9⟩
  · simp only [Value.slice.injEq] at h3
    obtain ⟨rfl, h10, rfl⟩ := h3
    have : k = 0 := by omega
    subst this
    exact .inl ⟨rfl, rfl⟩
  · simp only [Value.slice.injEq] at h3
    obtain ⟨rfl, -, rfl⟩ := h3
    refine .inr ⟨g, cap, cur, rfl, h4, h5, by omega, h7, h8, ?_⟩
    rw [← h9, List.take_take]
    congr 1
    omega
theorem ownBlock_len (a : Option Addr) (n m c : Nat) : (Value.slice a n c).ownBlock = (Value.slice a m c).ownBlock := by cases a <;> rfl
theorem empty_text (w : World) : (w.alloc (.cells #[] 9)).ownsRow w.heap.size 9 1 (.slice (some ⟨w.heap.size, 0, none⟩) 0 0) 0 [] := World.ownsRow_made w #[] 0 (Nat.le_refl _) (by simp [maxLen]) rfl

end Go.Proofs.YtfnmcdjfdhdlmaaGreatDoor
