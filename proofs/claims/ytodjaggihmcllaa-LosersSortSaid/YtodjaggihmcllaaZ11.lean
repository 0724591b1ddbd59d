/-
  Texts of this proof, merged: LosP8, LosSays, LosHelp, LosTree, OrdShown, LosShown.
-/
import Derived.Test.YtodjaggihmcllaaZ10
import Derived.Test.YtodjaggihmcllaaZ5
import Derived.Test.YtodjaggihmcllaaZ8
/-
  The program's contracts of layer 16: lists as one.
-/
namespace Go.Proofs.Ytodjaggihmcllaa
open Go.RowKit Go.BigFrame LosWin

section
variable {α : Type} {f : α → α → Int}
theorem merge_done {cur : List (List α)} (hn : LosPure.nextS f (cur.map List.head?) = none) : LosPure.mergeL f cur = [] := by
  unfold LosPure.mergeL
  cases cur.flatten.length with
  | zero => rfl
  | succ n => unfold LosPure.mergeN; rw [hn]
theorem flat_step {cur : List (List α)} {i : Nat} {x : α} {t : List α} (hc : cur[i]? = some (x :: t)) : cur.flatten.length = (cur.set i t).flatten.length + 1 := by
  obtain ⟨e1, e2⟩ := LosPure.set_parts hc t
  rw [e2]
  conv => lhs; rw [e1]
  simp only [List.flatten_append, List.flatten_cons, List.length_append, List.length_cons]
  omega
theorem merge_step {cur : List (List α)} {i : Nat} {x : α} {t : List α} (hn : LosPure.nextS f (cur.map List.head?) = some i) (hc : cur[i]? = some (x :: t)) : LosPure.mergeL f cur = x :: LosPure.mergeL f (cur.set i t) := by
  unfold LosPure.mergeL
  rw [flat_step hc]
  conv => lhs; unfold LosPure.mergeN
  rw [hn]
  simp only [hc]
theorem part_step (ls : List (List α)) (j : Nat) (hj : j < ls.length) : ((ls.take j).map List.tail ++ ls.drop j)[j]? = some ls[j] ∧ ((ls.take j).map List.tail ++ ls.drop j).set j ls[j].tail = (ls.take (j + 1)).map List.tail ++ ls.drop (j + 1) := by
  have hl : ((ls.take j).map List.tail).length = j := by rw [List.length_map, List.length_take]; omega
  refine ⟨?_, ?_⟩
  · rw [List.getElem?_append_right (by omega), hl, Nat.sub_self, List.getElem?_drop, Nat.add_zero, List.getElem?_eq_getElem hj]
  · rw [List.set_append_right _ _ (by omega), hl, Nat.sub_self, List.drop_eq_getElem_cons hj, List.set_cons_zero, List.take_succ_eq_append_getElem hj, List.map_append, List.append_assoc]
    rfl
end

theorem head_mem {α : Type} {l : List α} {r : α} (h : l.head? = some r) : r ∈ l := by
  cases l with
  | nil => cases h
  | cons a t =>
    have e : a = r := by simpa using h
    rw [e]
    exact List.mem_cons_self
theorem heads_mem {ls : List (List (List V))} {r : List V} (h : some r ∈ ls.map List.head?) : ∃ l ∈ ls, r ∈ l := by
  obtain ⟨l, hl, e⟩ := List.mem_map.1 h
  exact ⟨l, hl, head_mem e⟩
theorem nextI_at {ks : List Ky} {cur : List (List (List V))} (h : nextB ks (cur.map List.head?) = true) : ∃ (i : Nat) (x : List V) (t : List (List V)), nextI ks (cur.map List.head?) = (i : Int) ∧ cur[i]? = some (x :: t) ∧ LosPure.nextS (cmpR ks) (cur.map List.head?) = some i := by
  unfold nextB at h
  unfold nextI
  cases hn : LosPure.nextS (cmpR ks) (cur.map List.head?) with
  | none => rw [hn] at h; cases h
  | some i =>
    obtain ⟨q, h1, -⟩ := LosPure.next_some (cmpR_pre ks) hn
    rw [List.getElem?_map] at h1
    cases hc : cur[i]? with
    | none => rw [hc] at h1; simp at h1
    | some l =>
      rw [hc] at h1
      cases l with
      | nil => simp at h1
      | cons q' t => exact ⟨i, q', t, rfl, by rw [hc], rfl⟩
theorem FitL.tail {l : List (List V)} (h : FitL l) : FitL l.tail := ⟨fun r hr => h.1 r (List.mem_of_mem_tail hr), fun r hr => h.2 r (List.mem_of_mem_tail hr)⟩

theorem OwnRows.others {Y : Nat → Prop} {base : Nat} {w w' : World} {hs : List Value} {rs : List (List V)} (h : OwnRows base w hs rs) (ho : OnlyS Y w w') (hy : ∀ v n xs, w.ownsRow base 38 3 v n xs → ∀ k, v.ownBlock = some k → ¬ Y k) : OwnRows base w' hs rs :=
  ⟨h.1, fun i a b => own_others (h.2 i a b) ho (hy _ _ _ (h.2 i a b))⟩

def lenS : Value → Nat
  | .slice _ n _ => n
  | _ => 0
theorem lenS_own {base : Nat} {e : TypeId} {w : World} {v : Value} {n : Nat} {xs : List Value} (h : w.ownsRow base e 1 v n xs) : lenS v = n := by
  obtain ⟨a, c, rfl, -, -⟩ := own_shapeP h
  rfl

set_option maxRecDepth 100000 in
set_option maxHeartbeats 4000000 in
theorem pMerge16_any (u x : Value) (ls : List (List (List V))) (ks : List Ky) (w : World) (hu : RdLs w u ls) (hx : RdKs w x ks) (hk : ks.length ≤ 1000000) (hf : ∀ l ∈ ls, FitL l) (hn : ls.length ≤ 16) (hl : ls.flatten.length ≤ 100000) :
    Calls Try.prog 16 #[u, x] w fun e w' => (∃ o, e = .returned (.tuple #[o, .int .i64 0]) ∧ RdRows w' o (LosPure.mergeL (cmpR ks) ls)) ∧ Ext w w' := by
  obtain ⟨i1, hi1, hy0, hy1, hy2⟩ := info_parts Try.info_row
  obtain ⟨xs, hux, hhx⟩ := hu
  obtain ⟨N, hN⟩ : ∃ N, ls.length = N := ⟨_, rfl⟩
  have HN := Lib.hid hN
  have hxl : xs.length = N := by rw [hhx.1, hN]
  have HCL := Lib.hid (cloneLists_any u xs w hux hhx.oneCell (by omega))
  have HHX := Lib.hid hhx
  have HK := Lib.hid hx
  have HF := Lib.hid hf
  obtain ⟨T, hT⟩ : ∃ T, ls.flatten.length = T := ⟨_, rfl⟩
  have HTE := Lib.hid hT
  rw [hT] at hl
  obtain ⟨xa, xc, rfl, -, -⟩ := hx.shape
  obtain ⟨ua, uc, rfl, -, -⟩ := RdV.cellsAt hux
  rw [hxl] at HCL ⊢
  have hnN : N ≤ 16 := by omega
  clear hux hhx hx hf hxl hn hN hT
  go_enter Try.func16, Try.ntmps16
  go_wp2_with fail
  refine HCL.out.mono ?_
  rintro e w1 ⟨⟨L, rfl, hL⟩, x1⟩
  obtain ⟨la, lc, rfl, hlc1, hlc2⟩ := own_shapeP hL
  unfold maxLen at hlc2
  have HL := Lib.hid hL
  have HX1 := Lib.hid x1
  clear hL x1 HCL
  go_wp2_with fail
  go_loopw [7, 8, 18] (fun H _ iv wr => ∃ (j : Nat) (hs xs' : List Value), j ≤ N ∧ iv = .int .i64 j ∧ wr.ownsRow w.heap.size 26 1 H j hs ∧ HdO w.heap.size (fun k => w.heap.size ≤ k ∧ k < wr.heap.size) wr hs ((ls.take j).map List.head?) ∧ wr.ownsRow w.heap.size 22 1 (.slice la N lc) N xs' ∧ HdLists w xs' ((ls.take j).map List.tail ++ ls.drop j) ∧ Ext w wr) (fun _ _ iv _ => N - (intOf iv).toNat)
  case atStart => exact ⟨0, [], xs, Nat.zero_le _, rfl, owns_nil _ _ _ _, HdO.nil _ _ _, HL.out, HHX.out, HX1.out⟩
  case round =>
    obtain ⟨j, hs, xs', hj, rfl, hho, hhd, hlo, hhl, hxr⟩ := hrel
    obtain ⟨ha, hc, rfl, -, -⟩ := own_shapeP hho
    have HHO := Lib.hid hho
    have HHD := Lib.hid hhd
    have HLO := Lib.hid hlo
    have HHL := Lib.hid hhl
    have HXR := Lib.hid hxr
    clear hho hhd hlo hhl hxr HL HX1 HHX
    by_cases hlt : j < N
    · have hjl : j < ls.length := by rw [HN.out]; exact hlt
      obtain ⟨p1, p2⟩ := part_step ls j hjl
      have hjm : j < ((ls.take j).map List.tail ++ ls.drop j).length := (List.getElem?_eq_some_iff.1 p1).1
      have p3 : ((ls.take j).map List.tail ++ ls.drop j)[j] = ls[j] := (List.getElem?_eq_some_iff.1 p1).2
      have HTK := Lib.hid (pTaken16_any w.heap.size w wr (.slice la N lc) N xs' _ j (Nat.le_refl _) HLO.out HHL.out HXR.out hjm (by simp only [List.length_append, List.length_map, List.length_take, List.length_drop]; rw [HN.out]; omega) HXR.out.size (fun l hl r hr => by
        rcases List.mem_append.1 hl with h | h
        · obtain ⟨l', hl', rfl⟩ := List.mem_map.1 h
          exact (HF.out l' (List.mem_of_mem_take hl')).2 r (List.mem_of_mem_tail hr)
        · exact (HF.out l (List.mem_of_mem_drop h)).2 r hr))
      rw [p3, p2] at HTK
      clear p1 p2 p3 hjm
      go_wp2_with fail
      refine HTK.out.mono ?_
      rintro e w2 ⟨⟨u2, xs2, rfl, hu2, hlo2, hhl2⟩, ho2⟩
      obtain ⟨v1, v2, v3, rfl⟩ := hu2.opt.shape
      have HU2 := Lib.hid hu2
      have HLO2 := Lib.hid hlo2
      have HHL2 := Lib.hid hhl2
      have HO2 := Lib.hid ho2
      have HHO2 := Lib.hid (own_others HHO.out ho2 fun k hk => own_apart (by decide) HHO.out HLO.out k hk)
      have HSZ2 := Lib.hid (Nat.le_trans HXR.out.size ho2.size)
      have hj10 : j ≤ 10000000 := by omega
      clear hu2 hlo2 hhl2 ho2
      go_wp2_with (at_builtin; go_loud (refine wpList_append_oneG rfl (.tmp 21) (.tmp 25) 22 rfl w.heap.size 26 i1 (.slice none 0 0) 1 24 Try.underlying22 hi1 hy0 hy1 hy2 rfl (by decide) (by decide) (.slice ha j hc) j hs [.slice v1 v2 v3] rfl HHO2.out rfl rfl (by simp [Value.oneCell']) hj10 HSZ2.out ?_); intro v5 w5 h5a h5b h5c h5d; have HO5 := Lib.hid h5a; have HW5 := Lib.hid h5b; have HY5 := Lib.hid h5c; clear h5a h5b h5c h5d)
      have HB5 := Lib.hid (show Below w.heap.size w2 w5 from (Below.alloc (Below.refl w.heap.size w2) HSZ2.out _).trans HW5.out)
      go_roundw
      case rel =>
        refine ⟨j + 1, hs ++ [.slice v1 v2 v3], xs2, by omega, by go_num, HO5.out, ?_, own_others HLO2.out HY5.out fun k hk => own_apart (by decide) HLO2.out HHO2.out k hk, HHL2.out, (show Below w.heap.size w w5 from ((show Below w.heap.size w wr from HXR.out).trans (HO2.out.below HXR.out.size (fun b hb => (HLO.out.lt b hb).1))).trans HB5.out)⟩
        rw [List.take_succ_eq_append_getElem hjl, List.map_append]
        have q1 := (HHD.out.others HO2.out fun v hv k hk => HHD.out.apart HLO.out (by decide) v hv k hk).mono (O' := fun k => w.heap.size ≤ k ∧ k < w5.heap.size) fun k hk => ⟨hk.1, Nat.lt_of_lt_of_le hk.2 (Nat.le_trans HO2.out.size HB5.out.size)⟩
        have q2 := (HU2.out.base_le HXR.out.size).mono (O' := fun k => w.heap.size ≤ k ∧ k < w5.heap.size) fun k hk => ⟨Nat.le_trans HXR.out.size hk.1, Nat.lt_of_lt_of_le hk.2 HB5.out.size⟩
        have q3 := q1.snoc q2
        exact q3.others HY5.out fun v hv k hk => q3.apart HHO2.out (by decide) v hv k hk
      case measure => simp [intOf]; omega
    · obtain rfl : j = N := by omega
      have HALL := Lib.hid (show ls.take j = ls from List.take_of_length_le (by rw [HN.out]; exact Nat.le_refl _))
      have HDR := Lib.hid (show ls.drop j = [] from List.drop_eq_nil_of_le (by rw [HN.out]; exact Nat.le_refl _))
      rw [HALL.out] at HHD HHL
      rw [HDR.out, List.append_nil] at HHL
      clear HALL HDR
      go_wp2_with fail
      have hhl := HHD.out.1
      have HFO := Lib.hid (show FitO 5000 (ls.map List.head?) from fun r hr => by
        obtain ⟨l, hl, hm⟩ := heads_mem hr
        exact (HF.out l hl).1 r hm)
      have HRO := Lib.hid (show ∀ r, some r ∈ ls.map List.head? → r.length ≤ 1000000 from fun r hr => by
        obtain ⟨l, hl, hm⟩ := heads_mem hr
        exact (HF.out l hl).2 r hm)
      have hol : (ls.map List.head?).length = j := by rw [List.length_map, HN.out]
      have hhj : hs.length = j := by rw [hhl, hol]
      have HRV := Lib.hid (show RdV wr (.slice ha j hc) hs from by
        have h := HHO.out
        rw [← hhj] at h ⊢
        exact RdV.of_owns h)
      refine (pNew16_any _ _ hs (ls.map List.head?) ks w wr HXR.out HRV.out HHD.out.opt HK.out hk HFO.out HRO.out (by omega)).mono ?_
      rintro e wn ⟨⟨h16, -⟩ | ⟨-, p, O, n, rfl, ⟨t, K, HV, LV, hsT, lost, rfl, htf⟩, -, -, hOn⟩, xn⟩
      · omega
      have HTF := Lib.hid htf
      have HLN := Lib.hid (owns_extS HLO.out xn)
      have HON := Lib.hid (show ∀ k, (Value.slice la j lc).ownBlock = some k → ¬ O k from fun k hk ho => by
        have h1 := (HLO.out.lt k hk).2
        have h2 := hOn k ho
        omega)
      have HXN := Lib.hid (show Ext w wn from Ext.trans HXR.out xn)
      clear htf xn hOn hhl hol hhj HRV HFO HRO HHO HHD HLO HXR
      go_wp2_with fail
      refine (pNextT_any w.heap.size O t K HV LV hsT _ lost ks n wn HTF.out).mono ?_
      rintro e w2 ⟨rfl, x2⟩
      have HTF2 := Lib.hid (show TF w.heap.size O w2 t K HV LV hsT (ls.map List.head?) lost ks n from ⟨HTF.out.1.ext x2, HTF.out.2⟩)
      have HLN2 := Lib.hid (owns_extS HLN.out x2)
      have HXN2 := Lib.hid (Ext.trans HXN.out x2)
      clear x2 HTF HLN HXN
      go_wp2_with fail
      go_loopw [11, 12, 13] (fun lv iv ov wr => ∃ (cur : List (List (List V))) (out : List (List V)) (oh xs' hsT : List Value) (lost : List Nat) (n : Int) (O : Nat → Prop), wr.ownsRow w.heap.size 26 1 lv out.length oh ∧ OwnRows w.heap.size wr oh out ∧ iv = .int .i64 (nextI ks (cur.map List.head?)) ∧ ov = .bool (nextB ks (cur.map List.head?)) ∧ wr.ownsRow w.heap.size 22 1 (.slice la j lc) j xs' ∧ HdLists w xs' (cur.map List.tail) ∧ TF w.heap.size O wr t K HV LV hsT (cur.map List.head?) lost ks n ∧ (∀ k, (Value.slice la j lc).ownBlock = some k → ¬ O k) ∧ (∀ k, lv.ownBlock = some k → ¬ O k) ∧ cur.length = j ∧ (∀ l ∈ cur, FitL l) ∧ LosPure.mergeL (cmpR ks) ls = out ++ LosPure.mergeL (cmpR ks) cur ∧ out.length + cur.flatten.length = T ∧ Ext w wr) (fun lv _ _ _ => T - lenS lv)
      case atStart => exact ⟨ls, [], [], xs', hsT, lost, n, O, owns_nil _ _ _ _, OwnRows.nil _ _, rfl, rfl, HLN2.out, HHL.out, HTF2.out, HON.out, fun k hk => by (cases hk), HN.out, HF.out, by simp, by rw [HTE.out]; simp, HXN2.out⟩
      case round =>
        clear HHL HTF2 HON HLN2 HXN2 HF
        obtain ⟨cur, out, oh, xs', hsT, lost, n, O, hlv, hor, rfl, rfl, hlo, hhl, htf, hno, hnl, hcl, hfc, hmg, htot, hxr⟩ := hrel
        obtain ⟨va, vc, rfl, -, -⟩ := own_shapeP hlv
        have HLV := Lib.hid hlv
        have HOR := Lib.hid hor
        have HLO := Lib.hid hlo
        have HHL := Lib.hid hhl
        have HTF := Lib.hid htf
        have HNO := Lib.hid hno
        have HNL := Lib.hid hnl
        have HCU := Lib.hid hcl
        have HFC := Lib.hid hfc
        have HMG := Lib.hid hmg
        have HTT := Lib.hid htot
        have HXR := Lib.hid hxr
        have HB0 := Lib.hid (fun h => nextI_at (ks := ks) (cur := cur) h)
        have HB1 := Lib.hid (show nextB ks (cur.map List.head?) = false → LosPure.nextS (cmpR ks) (cur.map List.head?) = none from fun h => by
          unfold nextB at h
          cases hn : LosPure.nextS (cmpR ks) (cur.map List.head?) with
          | none => rfl
          | some i => rw [hn] at h; cases h)
        clear hlv hor hlo hhl htf hno hnl hcl hfc hmg htot hxr
        generalize nextI ks (cur.map List.head?) = I at HB0 ⊢
        generalize nextB ks (cur.map List.head?) = Q at HB0 HB1 ⊢
        cases Q with
        | false =>
          have HFIN := Lib.hid (show LosPure.mergeL (cmpR ks) ls = out from by rw [HMG.out, merge_done (HB1.out rfl), List.append_nil])
          go_wp2_with fail
          go_ret2
          refine ⟨⟨_, rfl, ?_⟩, HXR.out⟩
          rw [HFIN.out]
          have h1 := HLV.out
          have h2 := HOR.out.1
          rw [← h2] at h1 ⊢
          exact RdRows.of_heads (RdV.of_owns h1) HOR.out.rd
        | true =>
          obtain ⟨i, x, tl, rfl, hci, hns⟩ := HB0.out rfl
          have HCI := Lib.hid hci
          have HNS := Lib.hid hns
          have hil : i < cur.length := (List.getElem?_eq_some_iff.1 hci).1
          have hcg : cur[i] = x :: tl := (List.getElem?_eq_some_iff.1 hci).2
          have hol : (cur.map List.head?).length = cur.length := List.length_map ..
          have hio : i < (cur.map List.head?).length := by rw [hol]; exact hil
          have HL0 := Lib.hid (show lost[0]? = some i from by
            obtain ⟨i', h1, h2, h3⟩ := HTF.out.win (by omega)
            rw [hns] at h3
            cases hj2 : (cur.map List.head?)[i']?.join.isSome with
            | false => rw [hj2] at h3; cases h3
            | true =>
              rw [hj2] at h3
              rw [h1, Option.some.inj h3])
          obtain ⟨hg, hc2, hv, hHV, hc3, hc4, -, -, hvo, cH, -, -, -⟩ := HTF.out.1.head hio
          have hoi : (cur.map List.head?)[i] = some x := by rw [List.getElem_map, hcg]; rfl
          rw [hoi] at hvo
          obtain ⟨v1, v2, v3, rfl⟩ := hvo.opt.shape
          have c1 := HTF.out.1.blk.cell 1 _ rfl
          rw [hol, HCU.out] at hHV
          rw [hol, HCU.out] at hc3
          subst hHV
          have hij : i < j := by rw [← HCU.out]; exact hil
          have HVO := Lib.hid hvo
          have HSZ := Lib.hid HXR.out.size
          have HSTEP := Lib.hid (merge_step hns hci)
          have HFS := Lib.hid (flat_step hci)
          have hT5 : out.length ≤ 10000000 := by have := HTT.out; omega
          unfold maxLen at hc4
          clear hci hns hvo hol hio hcg hoi
          go_wp2_with (at_builtin; go_loud (refine wpList_append_oneG rfl (.tmp 48) (.tmp 56) 22 rfl w.heap.size 26 i1 (.slice none 0 0) 1 24 Try.underlying22 hi1 hy0 hy1 hy2 rfl (by decide) (by decide) (.slice va out.length vc) out.length oh [.slice v1 v2 v3] rfl HLV.out rfl rfl (by simp [Value.oneCell']) hT5 HSZ.out ?_); intro v5 w5 h5a h5b h5c h5d; have HO5 := Lib.hid h5a; have HW5 := Lib.hid h5b; have HY5 := Lib.hid h5c; have HG5 := Lib.hid h5d; clear h5a h5b h5c h5d)
          have HB5 := Lib.hid (show Below w.heap.size wr w5 from (Below.alloc (Below.refl w.heap.size wr) HSZ.out _).trans HW5.out)
          have HLO5 := Lib.hid (own_others HLO.out HY5.out fun k hk => own_apart (by decide) HLO.out HLV.out k hk)
          have HT5 := Lib.hid (show TF w.heap.size O w5 t K (.slice (some ⟨hg, 0, none⟩) j hc2) LV hsT (cur.map List.head?) lost ks n from ⟨HTF.out.1.others HY5.out HNL.out, HTF.out.2⟩)
          have HOR5 := Lib.hid ((HOR.out.beside HLV.out HY5.out).append (OwnRows.one (owns_beside HVO.out.1.1 HY5.out (rows_apart HVO.out.1.1 HLV.out))))
          have HXR5 := Lib.hid (show Ext w w5 from (show Below w.heap.size w wr from HXR.out).trans HB5.out)
          have HNL5 := Lib.hid (show ∀ k, v5.ownBlock = some k → ¬ O k from fun k hk hO => by
            rcases HG5.out with e | ⟨k', e, hle⟩
            · exact HNL.out k (e ▸ hk) hO
            · rw [e] at hk
              cases hk
              have := (HTF.out.1.lt _ hO).2
              omega)
          have hlt5 := fun k hk => (HO5.out.lt k hk).2
          have HL5 := Lib.hid hlt5
          obtain ⟨wa, wcp, rfl, -, -⟩ := own_shapeP HO5.out
          have hit : i < (cur.map List.tail).length := by rw [List.length_map]; exact hil
          have htl : (cur.map List.tail)[i] = tl := by
            rw [List.getElem_map, (List.getElem?_eq_some_iff.1 HCI.out).2]
            rfl
          have HTK := Lib.hid (pTaken16_any w.heap.size w w5 (.slice la j lc) j xs' _ i (Nat.le_refl _) HLO5.out HHL.out HXR5.out hit (by rw [List.length_map]; exact HCU.out.symm) HXR5.out.size (fun l hl r hr => by
            obtain ⟨l', hl', rfl⟩ := List.mem_map.1 hl
            exact (HFC.out l' hl').2 r (List.mem_of_mem_tail hr)))
          rw [htl] at HTK
          clear hlt5 hit htl
          refine HTK.out.mono ?_
          rintro e w6 ⟨⟨u6, xs6, rfl, hu6, hlo6, hhl6⟩, ho6⟩
          obtain ⟨b1, b2, b3, rfl⟩ := hu6.opt.shape
          have HLO6 := Lib.hid hlo6
          have HHL6 := Lib.hid hhl6
          have HO6 := Lib.hid ho6
          have HT6 := Lib.hid (show TF w.heap.size (fun b => O b ∨ (w5.heap.size ≤ b ∧ b < w6.heap.size)) w6 t K (.slice (some ⟨hg, 0, none⟩) j hc2) LV hsT (cur.map List.head?) lost ks n from ⟨(HT5.out.1.others ho6 HNO.out).more (fun b hb => .inl hb) (fun b hb => by
            have h1 := ho6.size
            have h2 := HXR5.out.size
            rcases hb with hb | hb
            · have := HT5.out.1.lt b hb
              omega
            · omega), HT5.out.2⟩)
          have HU6 := Lib.hid ((hu6.base_le HXR5.out.size).mono (O' := fun b => O b ∨ (w5.heap.size ≤ b ∧ b < w6.heap.size)) fun k hk => .inr hk)
          have HLV6 := Lib.hid (own_others HO5.out ho6 fun k hk => own_apart (by decide) HO5.out HLO5.out k hk)
          have HOR6 := Lib.hid (HOR5.out.others ho6 fun v n ys hv k hk => own_apart (by decide) hv HLO5.out k hk)
          have HXR6 := Lib.hid (show Ext w w6 from (show Below w.heap.size w w5 from HXR5.out).trans (ho6.below HXR5.out.size (fun b hb => (HLO5.out.lt b hb).1)))
          clear hu6 hlo6 hhl6 ho6
          go_wp2_with fail
          have hi0 : 0 < (cur.map List.head?).length := by rw [List.length_map]; omega
          have HTH := Lib.hid (show ∀ r, tl.head? = some r → FitR 5000 r from fun r hr => (HFC.out _ (List.mem_of_getElem? HCI.out)).1 r (List.mem_cons_of_mem _ (head_mem hr)))
          refine (pReplace16_any w.heap.size _ t K _ LV hsT _ lost ks n i _ tl.head? w6 HT6.out hi0 HL0.out HU6.out HTH.out).mono ?_
          rintro e w7 ⟨rfl, ho7, lost7, n7, ht7, -⟩
          have HEQ := Lib.hid (show (cur.map List.head?).set i tl.head? = (cur.set i tl).map List.head? from List.map_set.symm)
          have HEQT := Lib.hid (show (cur.map List.tail).set i tl.tail = (cur.set i tl).map List.tail from List.map_set.symm)
          rw [HEQ.out] at ht7
          rw [HEQT.out] at HHL6
          have HT7 := Lib.hid ht7
          have HO7 := Lib.hid ho7
          have HLO7 := Lib.hid (own_others HLO6.out ho7 fun k hk hw => by
            rcases HT6.out.1.wr hw with h | h
            · exact HNO.out k hk h
            · have := (HLO5.out.lt k hk).2
              omega)
          have HLV7 := Lib.hid (own_others HLV6.out ho7 fun k hk hw => by
            rcases HT6.out.1.wr hw with h | h
            · exact HNL5.out k hk h
            · have := HL5.out k hk
              omega)
          have HOR7 := Lib.hid (HOR6.out.others ho7 fun v n ys hv k hk hw => by
            rcases hw with h | h | h
            · rw [h] at hk
              exact HT6.out.1.blk.apart hv (by decide) hk
            · exact own_apart (by decide) hv HT6.out.1.hown k hk h
            · exact own_apart (by decide) hv HT6.out.1.lown k hk h)
          have HXR7 := Lib.hid (show Ext w w7 from (show Below w.heap.size w w6 from HXR6.out).trans (ho7.below HXR6.out.size (fun b hb => (HT6.out.1.lt b (HT6.out.1.wr hb)).1)))
          clear ht7 ho7 hi0
          go_wp2_with fail
          refine (pNextT_any w.heap.size _ t K _ LV _ _ lost7 ks n7 w7 HT7.out).mono ?_
          rintro e w8 ⟨rfl, x8⟩
          have HX8 := Lib.hid x8
          clear x8
          go_wp2_with fail
          go_roundw
          case rel =>
            refine ⟨cur.set i tl, out ++ [x], oh ++ [.slice v1 v2 v3], xs6, _, lost7, n7, _, by rw [List.length_append]; exact owns_extS HLV7.out HX8.out, HOR7.out.ext HX8.out, by first | rfl | rw [HEQ.out], by first | rfl | rw [HEQ.out], owns_extS HLO7.out HX8.out, HHL6.out, ⟨HT7.out.1.ext HX8.out, HT7.out.2⟩, fun k hk hO => ?_, fun k hk hO => ?_, by rw [List.length_set]; exact HCU.out, fun l hl => ?_, by rw [HMG.out, HSTEP.out, List.append_assoc]; rfl, by have := HTT.out; have := HFS.out; rw [List.length_append, List.length_singleton]; omega, Ext.trans HXR7.out HX8.out⟩
            · rcases hO with h | h
              · exact HNO.out k hk h
              · have := (HLO5.out.lt k hk).2
                omega
            · rcases hO with h | h
              · exact HNL5.out k hk h
              · have := HL5.out k hk
                omega
            · rcases List.mem_or_eq_of_mem_set hl with h | h
              · exact HFC.out l h
              · subst h
                exact (HFC.out _ (List.mem_of_getElem? HCI.out)).tail
          case measure =>
            have h1 := HTT.out
            have h2 := HFS.out
            simp [lenS]
            omega

end Go.Proofs.Ytodjaggihmcllaa

/-
  The program's calls of layer 16: all of them.
-/
namespace Go.Proofs.Ytodjaggihmcllaa
end Go.Proofs.Ytodjaggihmcllaa

/-
  The law's own helpers of layer 16: a row of a number, is a row short, so many lists, so many keys.
-/
namespace Go.Proofs.Ytodjaggihmcllaa
open Go.RowKit Go.BigFrame

theorem num16_any (n : Int) (w : World) :
    Calls Try.prog 19 #[.int .i64 n] w fun e w' => (∃ v, e = .returned v ∧ w'.ownsRow w.heap.size 38 3 v 1 ((numV n).flatMap V.cells) ∧ v ≠ .slice none 0 0) ∧ Ext w w' := by
  have HO := Lib.hid (lit_own w (numV n) (by simp [numV, maxLen]))
  have HX := Lib.hid (ext_new w (.cells #[.int .u8 2, .int .i64 n, .string ⟨#[]⟩] 38))
  go_enter Try.func19, Try.ntmps19
  go_wp2_with fail
  go_ret
  exact ⟨⟨_, rfl, HO.out, by simp⟩, HX.out⟩

set_option maxRecDepth 100000 in
theorem some16_any (u : Value) (ks : List Ky) (w : World) (hu : RdKs w u ks) :
    Calls Try.prog 9 #[u] w fun e w' => (∃ v, e = .returned v ∧ RdKs w v (ks.take 10)) ∧ w' = w := by
  obtain ⟨ao, cap, rfl, h1, h2⟩ := hu.shape
  obtain ⟨M, hM, hMa, hMb⟩ : ∃ M : Nat, min (ks.length : Int) 10 = (M : Int) ∧ M ≤ ks.length ∧ ks.take M = ks.take 10 := ⟨min ks.length 10, by omega, by omega, by
    rcases Nat.le_total ks.length 10 with h | h
    · rw [Nat.min_eq_left h, List.take_length, List.take_of_length_le h]
    · rw [Nat.min_eq_right h]⟩
  have HK := Lib.hid (hu.take M hMa)
  rw [hMb] at HK
  obtain ⟨N, hN⟩ : ∃ N, ks.length = N := ⟨_, rfl⟩
  rw [hN] at h1 hM hMa ⊢
  have hcap : M ≤ cap := by omega
  unfold maxLen at h2
  clear hu hN hMb
  go_enter Try.func9, Try.ntmps9
  go_wp2_with fail
  go_ret
  exact ⟨⟨_, rfl, HK.out⟩, rfl⟩

/-- A short row of short texts. -/
def rowOk (r : List V) : Bool := decide ((∀ v ∈ r, v.s.length ≤ 200) ∧ r.length ≤ 20)

set_option maxRecDepth 100000 in
set_option maxHeartbeats 1000000 in
theorem row16_any (u : Value) (r : List V) (w : World) (hu : RdVals w u r) (hf : ∀ v ∈ r, v.fits ∧ v.s.length ≤ maxLen) :
    Calls Try.prog 8 #[u] w fun e w' => e = .returned (.bool (rowOk r)) ∧ Ext w w' := by
  obtain ⟨ao, cap, rfl, -, -⟩ := hu.shape
  obtain ⟨-, h1, h2, hrc⟩ := hu.plain
  have HRC := Lib.hid hrc
  have HF := Lib.hid hf
  unfold maxLen at h2
  obtain ⟨N, hN⟩ : ∃ N, r.length = N := ⟨_, rfl⟩
  have HN := Lib.hid hN
  rw [hN] at h1 ⊢
  clear hu hrc hf hN
  go_enter Try.func8, Try.ntmps8
  go_wp2_with fail
  go_loopw [4, 7] (fun _ i wr => ∃ c : Nat, c ≤ N ∧ i = .int .i64 c ∧ (∀ q, (hq : q < r.length) → q < c → r[q].s.length ≤ 200) ∧ Ext w wr) (fun _ i _ => N - (intOf i).toNat)
  case atStart => exact ⟨0, Nat.zero_le _, rfl, fun q _ h => absurd h (Nat.not_lt_zero _), Ext.keeps.refl _⟩
  case round =>
    obtain ⟨c, hc, rfl, hq, hx⟩ := hrel
    have HQ := Lib.hid hq
    have HX2 := Lib.hid hx
    clear hq hx
    by_cases hlt2 : c < N
    · have hcl : c < r.length := by have := HN.out; omega
      obtain ⟨g2, off2, rfl, k0, k1, k2⟩ := HRC.out c hcl
      have x0 := (HX2.out.cell (lt_of_cell k0)).trans k0
      have x1 := (HX2.out.cell (lt_of_cell k1)).trans k1
      have x2 := (HX2.out.cell (lt_of_cell k2)).trans k2
      have HNQ := Lib.hid (show r[c].s.length ≤ 200 → ∀ q, (hq : q < r.length) → q < c + 1 → r[q].s.length ≤ 200 from fun h q hq hqc => by
        by_cases e : q = c
        · subst e; exact h
        · exact HQ.out q hq (by omega))
      have HNO := Lib.hid (show ¬ r[c].s.length ≤ 200 → rowOk r = false from fun h => decide_eq_false fun h2 => h (h2.1 _ (List.getElem_mem hcl)))
      have HFQ := Lib.hid (HF.out r[c] (List.getElem_mem hcl)).2
      generalize r[c] = v at x0 x1 x2 HNQ HFQ HNO
      obtain ⟨vk, vn, vs⟩ := v
      simp only at x0 x1 x2 HNQ HFQ HNO
      clear k0 k1 k2
      have HXA := Lib.hid (Ext.trans HX2.out (ext_new wr (.cells #[.int .u8 vk, .int .i64 vn, .string ⟨vs.toArray⟩] 38)))
      have hvm := HFQ.out
      unfold maxLen at hvm
      by_cases hlong : 200 < vs.length
      · have d3 : decide (200 < vs.length) = true := decide_eq_true hlong
        have d3' : decide ((200 : Int) < (vs.length : Int)) = true := decide_eq_true (by omega)
        have HR := Lib.hid (HNO.out (by omega))
        go_wp2_with fail
        go_ret
        exact ⟨by rw [HR.out]; rfl, HXA.out⟩
      · have d3 : decide (200 < vs.length) = false := decide_eq_false hlong
        have d3' : decide ((200 : Int) < (vs.length : Int)) = false := decide_eq_false (by omega)
        have HNQ2 := Lib.hid (HNQ.out (by omega))
        go_wp2_with fail
        go_roundw
        case rel => exact ⟨c + 1, by omega, by go_num, HNQ2.out, HXA.out⟩
        case measure => simp [intOf]; omega
    · have HALL := Lib.hid (show rowOk r = decide ((N : Int) ≤ 20) from by
        have h1 : ∀ v ∈ r, v.s.length ≤ 200 := fun v hv => by
          obtain ⟨i, hi, rfl⟩ := List.mem_iff_getElem.1 hv
          exact HQ.out i hi (by have := HN.out; omega)
        by_cases h : r.length ≤ 20
        · rw [decide_eq_true (show (N : Int) ≤ 20 by have := HN.out; omega)]
          exact decide_eq_true ⟨h1, h⟩
        · rw [decide_eq_false (show ¬ (N : Int) ≤ 20 by have := HN.out; omega)]
          exact decide_eq_false fun h2 => h h2.2)
      obtain ⟨D, hD⟩ : ∃ D, decide ((N : Int) ≤ 20) = D := ⟨_, rfl⟩
      have hD' : decide (N ≤ 20) = D := by rw [← hD]; exact decide_eq_decide.2 (by omega)
      rw [hD] at HALL
      go_wp2_with fail
      go_ret
      exact ⟨by rw [HALL.out]; rfl, HX2.out⟩

/-- Lists that the law takes: few, short, of short rows. -/
def FewLs (ls : List (List (List V))) : Prop := ls.length ≤ 18 ∧ ∀ l ∈ ls, l.length ≤ 30 ∧ ∀ r ∈ l, r.length ≤ 20 ∧ FitR 200 r
theorem FewLs.take {ls : List (List (List V))} (h : FewLs ls) (n : Nat) : FewLs (ls.take n) := ⟨by rw [List.length_take]; have := h.1; omega, fun l hl => h.2 l (List.mem_of_mem_take hl)⟩
theorem FewLs.fitL {ls : List (List (List V))} (h : FewLs ls) : ∀ l ∈ ls, FitL l := fun l hl => ⟨fun r hr v hv => ⟨(((h.2 l hl).2 r hr).2 v hv).1, Nat.le_trans (((h.2 l hl).2 r hr).2 v hv).2 (by decide)⟩, fun r hr => Nat.le_trans ((h.2 l hl).2 r hr).1 (by decide)⟩

theorem rowOk_fit {r : List V} (h : rowOk r = true) (hf : ∀ v ∈ r, v.fits ∧ v.s.length ≤ maxLen) : r.length ≤ 20 ∧ FitR 200 r := by
  have h2 := of_decide_eq_true h
  exact ⟨h2.2, fun v hv => ⟨(hf v hv).1, h2.1 v hv⟩⟩

set_option maxRecDepth 100000 in
set_option maxHeartbeats 1000000 in
theorem few16_any (u : Value) (ls : List (List (List V))) (w : World) (hu : RdLs w u ls) (hf : ∀ l ∈ ls, ∀ r ∈ l, ∀ v ∈ r, v.fits ∧ v.s.length ≤ maxLen) :
    Calls Try.prog 14 #[u] w fun e w' => (∃ v M, e = .returned v ∧ RdLs w v (ls.take M) ∧ FewLs (ls.take M)) ∧ Ext w w' := by
  obtain ⟨ao, cap, rfl, h1, h2⟩ := hu.shape
  have HU := Lib.hid hu
  have HF := Lib.hid hf
  obtain ⟨N, hN⟩ : ∃ N, ls.length = N := ⟨_, rfl⟩
  have HN := Lib.hid hN
  unfold maxLen at h2
  rw [hN] at h1 HU ⊢
  have HTK := Lib.hid (fun K (hK : K ≤ N) => HU.out.take K hK)
  clear hN hu hf
  go_enter Try.func14, Try.ntmps14
  go_wp2_with fail
  go_loopw [3, 4, 6, 9] (fun _ _ _ i wr => ∃ j : Nat, j ≤ N ∧ i = .int .i64 j ∧ FewLs (ls.take j) ∧ Ext w wr) (fun _ _ _ i _ => N - (intOf i).toNat)
  case atStart => exact ⟨0, Nat.zero_le _, rfl, ⟨by simp, fun r hr => by simp at hr⟩, Ext.keeps.refl _⟩
  case round =>
    obtain ⟨j, hj, rfl, hfw, hx⟩ := hrel
    have HFW := Lib.hid hfw
    have HX := Lib.hid hx
    clear hfw hx
    by_cases hlt : j < N
    · have hjl : j < ls.length := by have := HN.out; omega
      obtain ⟨g, off, a, c, rfl, c0, hl⟩ := HU.out.at j hjl
      have x0 := (HX.out.cell (lt_of_cell c0)).trans c0
      have HFJ := Lib.hid (HF.out ls[j] (List.getElem_mem hjl))
      have HTS := Lib.hid (List.take_succ_eq_append_getElem hjl)
      obtain ⟨fh, hfh, -, r1, r2, hat⟩ := hl.rd.heads
      have HAT := Lib.hid hat
      have HFH := Lib.hid hfh
      generalize ls[j] = l at x0 HFJ HTS HAT HFH r1
      obtain ⟨M, hM⟩ : ∃ M, l.length = M := ⟨_, rfl⟩
      have HM := Lib.hid hM
      rw [hM] at x0 r1
      unfold maxLen at r2
      clear c0 hl hfh hat hM
      by_cases h18 : 18 ≤ j
      · have d1 : decide ((j : Int) ≥ 18) = true := decide_eq_true (by omega)
        have d1' : decide (18 ≤ j) = true := decide_eq_true h18
        go_wp2_with fail
        go_ret
        exact ⟨⟨_, j, rfl, HTK.out j hj, HFW.out⟩, HX.out⟩
      · have d1 : decide ((j : Int) ≥ 18) = false := decide_eq_false (by omega)
        have d1' : decide (18 ≤ j) = false := decide_eq_false h18
        by_cases h30 : 30 < M
        · have d2 : decide (30 < M) = true := decide_eq_true h30
          have d2' : decide ((30 : Int) < (M : Int)) = true := decide_eq_true (by omega)
          go_wp2_with fail
          go_ret
          exact ⟨⟨_, j, rfl, HTK.out j hj, HFW.out⟩, HX.out⟩
        · have d2 : decide (30 < M) = false := decide_eq_false h30
          have d2' : decide ((30 : Int) < (M : Int)) = false := decide_eq_false (by omega)
          go_wp2_with fail
          generalize wr = wo at HX ⊢
          go_loopw [6, 26] (fun _ i wr => ∃ c : Nat, c ≤ M ∧ i = .int .i64 c ∧ (∀ q, (hq : q < l.length) → q < c → rowOk l[q] = true) ∧ Ext w wr) (fun _ i _ => M - (intOf i).toNat)
          case atStart => exact ⟨0, Nat.zero_le _, rfl, fun q _ h => absurd h (Nat.not_lt_zero _), HX.out⟩
          case round =>
            obtain ⟨c', hc, rfl, hq, hx⟩ := hrel
            have HQ := Lib.hid hq
            have HX2 := Lib.hid hx
            clear hq hx
            by_cases hlt2 : c' < M
            · have hcl : c' < l.length := by have := HM.out; omega
              obtain ⟨a1, a2, a3, ha, hra⟩ := HFH.out.get c' hcl
              obtain ⟨g2, off2, rfl, k0⟩ := HAT.out c' _ ha
              have y0 := (HX2.out.cell (lt_of_cell k0)).trans k0
              have HNQ := Lib.hid (show rowOk l[c'] = true → ∀ q, (hq : q < l.length) → q < c' + 1 → rowOk l[q] = true from fun h q hq hqc => by
                by_cases e : q = c'
                · subst e; exact h
                · exact HQ.out q hq (by omega))
              have HROW := Lib.hid (row16_any _ l[c'] wr (hra.mono HX2.out) (HFJ.out _ (List.getElem_mem hcl)))
              generalize rowOk l[c'] = R at HNQ HROW
              clear ha hra k0
              go_wp2_with fail
              refine HROW.out.mono ?_
              rintro e w1 ⟨rfl, x1⟩
              have HX3 := Lib.hid (Ext.trans HX2.out x1)
              clear x1
              cases R with
              | false =>
                go_wp2_with fail
                go_ret
                exact ⟨⟨_, j, rfl, HTK.out j hj, HFW.out⟩, HX3.out⟩
              | true =>
                have HNQ2 := Lib.hid (HNQ.out rfl)
                go_wp2_with fail
                go_roundw
                case rel => exact ⟨c' + 1, by omega, by go_num, HNQ2.out, HX3.out⟩
                case measure => simp [intOf]; omega
            · have HFW2 := Lib.hid (show FewLs (ls.take (j + 1)) from by
                refine ⟨by rw [List.length_take]; omega, fun q hq => ?_⟩
                rw [HTS.out] at hq
                rcases List.mem_append.1 hq with hq | hq
                · exact HFW.out.2 q hq
                · rw [List.mem_singleton] at hq
                  subst hq
                  refine ⟨by have := HM.out; omega, fun r hr => ?_⟩
                  obtain ⟨i, hi, rfl⟩ := List.mem_iff_getElem.1 hr
                  exact rowOk_fit (HQ.out i hi (by have := HM.out; omega)) (HFJ.out _ (List.getElem_mem hi)))
              go_wp2_with fail
              go_roundw
              case rel => exact ⟨j + 1, by omega, by go_num, HFW2.out, HX2.out⟩
              case measure => simp [intOf]; omega
    · have hjN : j = N := by omega
      subst hjN
      have HALL := Lib.hid (show ls.take j = ls from List.take_of_length_le (by have := HN.out; omega))
      go_wp2_with fail
      go_ret
      exact ⟨⟨_, j, rfl, by rw [HALL.out]; exact HU.out, HFW.out⟩, HX.out⟩

end Go.Proofs.Ytodjaggihmcllaa

/-
  A tree beside what the law has of its own.
-/
namespace Go.Proofs.Ytodjaggihmcllaa
open Go.RowKit Go.BigFrame

theorem owns_others {X : Nat → Prop} {base : Nat} {e : TypeId} {size : Nat} {w w' : World} {v : Value} {n : Nat} {xs : List Value} (h : w.ownsRow base e size v n xs) (ho : OnlyS X w w') (hx : ∀ k, v.ownBlock = some k → ¬ X k) : w'.ownsRow base e size v n xs := by
  refine ⟨h.1, ?_⟩
  rcases h.2 with ⟨rfl, h2⟩ | ⟨g, cap, cur, rfl, h2, h3, h4, h5, h6, h7⟩
  · exact .inl ⟨rfl, h2⟩
  · exact .inr ⟨g, cap, cur, rfl, h2, (ho.block g (Array.getElem?_eq_some_iff.1 h3).1 (hx g rfl)).trans h3, h4, h5, h6, h7⟩

/-- A tree that writes nothing of X. -/
def TW (B : Nat) (X : Nat → Prop) (w : World) (p : Addr) (os : List (Option (List V))) (ks : List Ky) (n : Int) : Prop := ∃ O, Tre B O w p os ks n ∧ ∀ b, O b → ¬ X b
/-- What such a tree may write. -/
def Oth (B : Nat) (X : Nat → Prop) (b : Nat) : Prop := B ≤ b ∧ ¬ X b

theorem TW.fit {B : Nat} {X : Nat → Prop} {w : World} {p : Addr} {os : List (Option (List V))} {ks : List Ky} {n : Int} (h : TW B X w p os ks n) : os.length ≤ 16 := by
  obtain ⟨O, h1, -⟩ := h
  exact h1.fit
theorem TW.of_new {B : Nat} {O X : Nat → Prop} {w w' : World} {p : Addr} {os : List (Option (List V))} {ks : List Ky} {n : Int} (h : Tre B O w' p os ks n) (h1 : ∀ b, O b → w.heap.size ≤ b) (h2 : ∀ b, X b → b < w.heap.size) : TW B X w' p os ks n :=
  ⟨O, h, fun b hb hx => by have := h1 b hb; have := h2 b hx; omega⟩
/-- New memory. -/
theorem TW.more {B : Nat} {X Y : Nat → Prop} {w w' : World} {p : Addr} {os : List (Option (List V))} {ks : List Ky} {n : Int} (h : TW B X w p os ks n) (hx : Ext w w') (hy : ∀ b, Y b → X b ∨ w.heap.size ≤ b) : TW B Y w' p os ks n := by
  obtain ⟨O, h1, h2⟩ := h
  refine ⟨O, h1.keep (X := fun _ => False) (OnlyS.of_ext hx) (fun _ h => h.elim) (fun _ h => h.elim), fun b hb h3 => ?_⟩
  rcases hy b h3 with h4 | h4
  · exact h2 b hb h4
  · have := (h1.lt hb).2
    omega
theorem TW.ext {B : Nat} {X : Nat → Prop} {w w' : World} {p : Addr} {os : List (Option (List V))} {ks : List Ky} {n : Int} (h : TW B X w p os ks n) (hx : Ext w w') : TW B X w' p os ks n := h.more hx fun _ h => .inl h
/-- The law writes what is its own. -/
theorem TW.wrote {B : Nat} {X Y : Nat → Prop} {w w' : World} {p : Addr} {os : List (Option (List V))} {ks : List Ky} {n : Int} (h : TW B X w p os ks n) (ho : OnlyS Y w w') (h1 : ∀ b, Y b → X b) (h2 : ∀ b, Y b → B ≤ b) : TW B X w' p os ks n := by
  obtain ⟨O, h3, h4⟩ := h
  exact ⟨O, h3.keep ho (fun b hb hO => h4 b hO (h1 b hb)) h2, h4⟩

theorem next16_any (B : Nat) (X : Nat → Prop) (p : Addr) (os : List (Option (List V))) (ks : List Ky) (n : Int) (w : World) (h : TW B X w p os ks n) (hX : ∀ b, X b → b < w.heap.size) :
    Calls Try.prog 11 #[.pointer (some p)] w fun e w' => e = .returned (.tuple #[.int .i64 (nextI ks os), .bool (nextB ks os)]) ∧ TW B X w' p os ks n ∧ OnlyS (Oth B X) w w' := by
  obtain ⟨O, h1, h2⟩ := h
  refine (pNext16_any B O p os ks n w h1).mono ?_
  rintro e w' ⟨he, ho, O', h3, h4⟩
  refine ⟨he, ⟨O', h3, fun b hb hx => ?_⟩, ho.mono fun b _ hb => ⟨(h1.lt hb).1, h2 b hb⟩⟩
  rcases h4 b hb with h5 | h5
  · exact h2 b h5 hx
  · have := hX b hx
    omega
theorem put16_any (B : Nat) (X : Nat → Prop) (p : Addr) (os : List (Option (List V))) (ks : List Ky) (n : Int) (v : Value) (o : Option (List V)) (w : World) (h : TW B X w p os ks n) (hv : OptV w v o) (hf : ∀ r, o = some r → FitR 5000 r ∧ r.length ≤ 1000000) (hX : ∀ b, X b → b < w.heap.size) :
    Calls Try.prog 13 #[.pointer (some p), v] w fun e w' => e = .returned (.int .i64 (if nextB ks os = true then 0 else 2)) ∧ OnlyS (Oth B X) w w' ∧ ∃ n', TW B X w' p (putS ks os o) ks n' ∧ (0 ≤ n → n ≤ 1000000000 → n ≤ n') ∧ (0 ≤ n → n ≤ 1000000000 → ∀ k : Nat, os.length ≤ 2 ^ k → n' ≤ n + k) := by
  obtain ⟨O, h1, h2⟩ := h
  refine (pPut16_any B O p os ks n v o w h1 hv hf).mono ?_
  rintro e w' ⟨he, ho, O', n', h3, h4, h5, h6⟩
  refine ⟨he, ho.mono fun b _ hb => ⟨(h1.lt hb).1, h2 b hb⟩, n', ⟨O', h3, fun b hb hx => ?_⟩, h5, h6⟩
  rcases h4 b hb with h7 | h7
  · exact h2 b h7 hx
  · have := hX b hx
    omega
theorem asked16_any (B : Nat) (X : Nat → Prop) (p : Addr) (os : List (Option (List V))) (ks : List Ky) (n : Int) (w : World) (h : TW B X w p os ks n) :
    Calls Try.prog 18 #[.pointer (some p)] w fun e w' => e = .returned (.int .i64 n) ∧ w' = w := by
  obtain ⟨O, h1, -⟩ := h
  exact pAsked16_any B O p os ks n w h1

theorem nextI_range {ks : List Ky} {os : List (Option (List V))} (h : nextB ks os = true) : ∃ i r, nextI ks os = (i : Nat) ∧ os[i]? = some (some r) ∧ LosPure.nextS (cmpR ks) os = some i := by
  unfold nextB at h
  unfold nextI
  cases hn : LosPure.nextS (cmpR ks) os with
  | none => rw [hn] at h; cases h
  | some i =>
    obtain ⟨q, h1, -⟩ := LosPure.next_some (cmpR_pre ks) hn
    exact ⟨i, q, rfl, h1, rfl⟩
theorem putS_none {ks : List Ky} {os : List (Option (List V))} (o : Option (List V)) (h : nextB ks os = false) : putS ks os o = os := by
  unfold nextB at h
  unfold putS
  cases hn : LosPure.nextS (cmpR ks) os with
  | none => rfl
  | some i => rw [hn] at h; cases h
theorem putS_some {ks : List Ky} {os : List (Option (List V))} {i : Nat} (o : Option (List V)) (h : LosPure.nextS (cmpR ks) os = some i) : putS ks os o = os.set i o := by
  unfold putS
  rw [h]
theorem nextI_none {ks : List Ky} {os : List (Option (List V))} (h : nextB ks os = false) : nextI ks os = 0 := by
  unfold nextB at h
  unfold nextI
  cases hn : LosPure.nextS (cmpR ks) os with
  | none => rfl
  | some i => rw [hn] at h; cases h

end Go.Proofs.Ytodjaggihmcllaa

/-
  The document's examples of layer 15.
-/
namespace Go.Proofs.Ytodjaggihmcllaa
open Go.RowKit Go.BigFrame

theorem FitR.le {m m' : Nat} {r : List V} (h : FitR m r) (hm : m ≤ m') : FitR m' r := fun v hv => ⟨(h v hv).1, Nat.le_trans (h v hv).2 hm⟩
theorem FitRs.le {m m' : Nat} {rs : List (List V)} (h : FitRs m rs) (hm : m ≤ m') : FitRs m' rs := fun r hr => (h r hr).le hm

def rows3 : List (List V) := [numV 2, [V.zero], numV 1]
theorem fit3 : FitRs 5000 rows3 := by
  intro r hr v hv
  simp only [rows3, List.mem_cons, List.not_mem_nil, or_false] at hr
  rcases hr with rfl | rfl | rfl <;> (simp only [numV, List.mem_singleton] at hv; subst hv; exact ⟨⟨by decide, by decide, by decide, by decide⟩, by simp [V.zero]⟩)

theorem fit3L : FitL rows3 := ⟨fit3, fun r hr => by
  simp only [rows3, List.mem_cons, List.not_mem_nil, or_false] at hr
  rcases hr with rfl | rfl | rfl <;> simp [numV]⟩

theorem up3 : sortS [⟨0, false⟩] rows3 = [[V.zero], numV 1, numV 2] := by
  have hp := cmpR_pre [⟨0, false⟩]
  have h1 : OrdPure.IsSort (cmpR [⟨0, false⟩]) [numV 2] [numV 2] := OrdPure.IsSort.self (List.pairwise_singleton ..)
  have h2 := h1.snoc hp (x := [V.zero]) (k := 0) ⟨by decide, by decide, fun j _ h => by omega⟩
  have h3 := h2.snoc hp (x := numV 1) (k := 1) ⟨by decide, by decide, fun j hj h => by
    obtain rfl : j = 0 := by omega
    show cmpR [⟨0, false⟩] [V.zero] (numV 1) ≤ 0
    decide⟩
  exact (sortS_eq h3).symm
theorem down3 : sortS [⟨0, true⟩] rows3 = [[V.zero], numV 2, numV 1] := by
  have hp := cmpR_pre [⟨0, true⟩]
  have h1 : OrdPure.IsSort (cmpR [⟨0, true⟩]) [numV 2] [numV 2] := OrdPure.IsSort.self (List.pairwise_singleton ..)
  have h2 := h1.snoc hp (x := [V.zero]) (k := 0) ⟨by decide, by decide, fun j _ h => by omega⟩
  have h3 := h2.snoc hp (x := numV 1) (k := 2) ⟨by decide, by decide, fun j hj h => by
    obtain rfl : j = 1 := by omega
    show cmpR [⟨0, true⟩] (numV 2) (numV 1) ≤ 0
    decide⟩
  exact (sortS_eq h3).symm

theorem lit_rows (w : World) (hs : List Value) (rs : List (List V)) (h : HdRows w hs rs) (hl : hs.length ≤ maxLen) : RdRV (w.alloc (.cells hs.toArray 26)) (.slice (some ⟨w.heap.size, 0, none⟩) hs.length hs.length) rs := by
  have h1 := World.ownsRow_lit (base := w.heap.size) (e := 26) (size := 1) w hs.toArray hs.length (Nat.le_refl _) hl (by simp)
  exact ⟨hs, by simpa using RdV.of_owns h1, h.mono (ext_new w _)⟩

theorem three_rows {w : World} {base : Nat} {a b c : Value} {x y z : List V} (ha : w.ownsRow base 38 3 a x.length (x.flatMap V.cells)) (hb : RdVals w b y) (hc : RdVals w c z) : HdRows w [a, b, c] [x, y, z] :=
  (HdRows.one (RdVals.of_owns ha)).append ((HdRows.one hb).append (HdRows.one hc))

end Go.Proofs.Ytodjaggihmcllaa

/-
  The document's examples of layer 16.
-/
namespace Go.Proofs.Ytodjaggihmcllaa
open Go.RowKit Go.BigFrame

def keys1 : List Ky := [⟨0, false⟩]
def lists4 : List (List (List V)) := [[numV 1, numV 4], [numV 2], [], [numV 1, numV 3]]
def heads4 : List (Option (List V)) := [some (numV 1), some (numV 2), none, some (numV 1)]
theorem merged4 : LosPure.mergeL (cmpR keys1) lists4 = [numV 1, numV 1, numV 2, numV 3, numV 4] := by decide
theorem next4 : nextI keys1 heads4 = 0 ∧ nextB keys1 heads4 = true ∧ LosPure.nextS (cmpR keys1) heads4 = some 0 := by decide
def heads4b : List (Option (List V)) := [some (numV 4), some (numV 2), none, some (numV 1)]
theorem next4b : nextI keys1 heads4b = 3 ∧ nextB keys1 heads4b = true ∧ LosPure.nextS (cmpR keys1) heads4b = some 3 := by decide
def heads4c : List (Option (List V)) := [some (numV 4), some (numV 2), none, some (numV 3)]
theorem next4c : nextI keys1 heads4c = 1 ∧ nextB keys1 heads4c = true ∧ LosPure.nextS (cmpR keys1) heads4c = some 1 := by decide

theorem numV_fit (n : Int) (h : -9223372036854775808 ≤ n ∧ n ≤ 9223372036854775807) (m : Nat) : FitR m (numV n) := fun v hv => by
  simp only [numV, List.mem_singleton] at hv
  subst hv
  exact ⟨⟨by show (0 : Int) ≤ 2; omega, by show (2 : Int) ≤ 255; omega, h.1, h.2⟩, Nat.zero_le _⟩

theorem lit_lists (w : World) (hs : List Value) (ls : List (List (List V))) (h : HdLists w hs ls) (hl : hs.length ≤ maxLen) : RdLs (w.alloc (.cells hs.toArray 22)) (.slice (some ⟨w.heap.size, 0, none⟩) hs.length hs.length) ls := by
  have h1 := World.ownsRow_lit (base := w.heap.size) (e := 22) (size := 1) w hs.toArray hs.length (Nat.le_refl _) hl (by simp)
  exact ⟨hs, by simpa using RdV.of_owns h1, h.mono (ext_new w _)⟩
theorem lit_heads (w : World) (hs : List Value) (hl : hs.length ≤ maxLen) : RdV (w.alloc (.cells hs.toArray 26)) (.slice (some ⟨w.heap.size, 0, none⟩) hs.length hs.length) hs := by
  have h1 := World.ownsRow_lit (base := w.heap.size) (e := 26) (size := 1) w hs.toArray hs.length (Nat.le_refl _) hl (by simp)
  simpa using RdV.of_owns h1

theorem fit4L : ∀ l ∈ lists4, FitL l := by
  intro l hl
  simp only [lists4, List.mem_cons, List.not_mem_nil, or_false] at hl
  have key : ∀ r, (r = numV 1 ∨ r = numV 2 ∨ r = numV 3 ∨ r = numV 4) → FitR 5000 r ∧ r.length ≤ 1000000 := by
    rintro r (rfl | rfl | rfl | rfl) <;> exact ⟨numV_fit _ (by decide) 5000, by simp [numV]⟩
  have all : ∀ r ∈ l, r = numV 1 ∨ r = numV 2 ∨ r = numV 3 ∨ r = numV 4 := by
    intro r hr
    rcases hl with rfl | rfl | rfl | rfl <;> simp only [List.mem_cons, List.not_mem_nil, or_false] at hr <;> (try rcases hr with rfl | rfl) <;> simp_all
  exact ⟨fun r hr => (key r (all r hr)).1, fun r hr => (key r (all r hr)).2⟩
theorem all4O : ∀ r, some r ∈ heads4 → r = numV 1 ∨ r = numV 2 := by
  intro r hr
  simp only [heads4, List.mem_cons, List.not_mem_nil, or_false, Option.some.injEq, reduceCtorEq, false_or] at hr
  rcases hr with rfl | rfl | rfl <;> simp
theorem fit4O : FitO 5000 heads4 := fun r hr => by rcases all4O r hr with rfl | rfl <;> exact numV_fit _ (by decide) 5000
theorem len4O : ∀ r, some r ∈ heads4 → r.length ≤ 1000000 := fun r hr => by rcases all4O r hr with rfl | rfl <;> simp [numV]

theorem Below.of_ext {B : Nat} {w w' : World} (hB : B ≤ w.heap.size) (h : Ext w w') : Below B w w' := (OnlyS.of_ext (X := fun _ => False) h).below hB fun _ h => h.elim

set_option maxRecDepth 100000 in
set_option maxHeartbeats 4000000 in
theorem shown16_any (w : World) : Calls Try.prog 7 #[] w fun e w' => e = .returned (.bool true) ∧ Ext w w' := by
  have HK := Lib.hid (show RdKs (w.alloc (.cells #[.int .i64 0, .bool false] 51)) (.slice (some ⟨w.heap.size, 0, none⟩) 1 1) keys1 from RdKs.lit w keys1 51 (by simp [maxLen, keys1]))
  have HX0 := Lib.hid (ext_new w (.cells #[.int .i64 0, .bool false] 51))
  go_enter Try.func7, Try.ntmps7
  go_wp2_with fail
  generalize w.alloc (.cells #[.int .i64 0, .bool false] 51) = W0 at HK HX0 ⊢
  refine (num16_any 1 W0).mono ?_
  rintro e w1 ⟨⟨v1, rfl, h1, -⟩, x1⟩
  obtain ⟨a1, c1, rfl⟩ := owns3_shape h1
  have R1 := Lib.hid (RdVals.of_owns (l := numV 1) h1)
  have X1 := Lib.hid x1
  clear h1 x1
  go_wp2_with fail
  refine (num16_any 4 w1).mono ?_
  rintro e w2 ⟨⟨v2, rfl, h2, -⟩, x2⟩
  obtain ⟨a2, c2, rfl⟩ := owns3_shape h2
  have L1 := Lib.hid (lit_rows w2 _ _ ((HdRows.one (R1.out.mono x2)).append (HdRows.one (RdVals.of_owns (l := numV 4) h2))) (by simp [maxLen]))
  replace L1 := Lib.hid (show RdRV (w2.alloc (.cells #[.slice a1 1 c1, .slice a2 1 c2] 26)) (.slice (some ⟨w2.heap.size, 0, none⟩) 2 2) [numV 1, numV 4] from L1.out)
  have X2 := Lib.hid (Ext.trans (Ext.trans X1.out x2) (ext_new w2 (.cells #[.slice a1 1 c1, .slice a2 1 c2] 26)))
  clear h2 x2 R1 X1
  go_wp2_with fail
  generalize w2.alloc (.cells #[.slice a1 1 c1, .slice a2 1 c2] 26) = W2 at L1 X2 ⊢
  refine (num16_any 2 W2).mono ?_
  rintro e w3 ⟨⟨v3, rfl, h3, -⟩, x3⟩
  obtain ⟨a3, c3, rfl⟩ := owns3_shape h3
  have L2 := Lib.hid (lit_rows w3 _ _ (HdRows.one (RdVals.of_owns (l := numV 2) h3)) (by simp [maxLen]))
  replace L2 := Lib.hid (show RdRV (w3.alloc (.cells #[.slice a3 1 c3] 26)) (.slice (some ⟨w3.heap.size, 0, none⟩) 1 1) [numV 2] from L2.out)
  have X3 := Lib.hid (Ext.trans x3 (ext_new w3 (.cells #[.slice a3 1 c3] 26)))
  clear h3 x3
  go_wp2_with fail
  generalize w3.alloc (.cells #[.slice a3 1 c3] 26) = W3 at L2 X3 ⊢
  refine (num16_any 1 W3).mono ?_
  rintro e w4 ⟨⟨v4, rfl, h4, -⟩, x4⟩
  obtain ⟨a4, c4, rfl⟩ := owns3_shape h4
  have R4 := Lib.hid (RdVals.of_owns (l := numV 1) h4)
  have X4 := Lib.hid x4
  clear h4 x4
  go_wp2_with fail
  refine (num16_any 3 w4).mono ?_
  rintro e w5 ⟨⟨v5, rfl, h5, -⟩, x5⟩
  obtain ⟨a5, c5, rfl⟩ := owns3_shape h5
  have L3 := Lib.hid (lit_rows w5 _ _ ((HdRows.one (R4.out.mono x5)).append (HdRows.one (RdVals.of_owns (l := numV 3) h5))) (by simp [maxLen]))
  replace L3 := Lib.hid (show RdRV (w5.alloc (.cells #[.slice a4 1 c4, .slice a5 1 c5] 26)) (.slice (some ⟨w5.heap.size, 0, none⟩) 2 2) [numV 1, numV 3] from L3.out)
  have X5 := Lib.hid (Ext.trans (Ext.trans X4.out x5) (ext_new w5 (.cells #[.slice a4 1 c4, .slice a5 1 c5] 26)))
  clear h5 x5 R4 X4
  have HSZ : (w5.alloc (.cells #[.slice a4 1 c4, .slice a5 1 c5] 26)).heap.size = w5.heap.size + 1 := by simp only [World.alloc, Array.size_push]
  have LL := lit_lists (w5.alloc (.cells #[.slice a4 1 c4, .slice a5 1 c5] 26)) _ _ ((HdLists.one (L1.out.mono (Ext.trans X3.out X5.out))).append ((HdLists.one (L2.out.mono X5.out)).append ((HdLists.one (RdRV.nil _)).append (HdLists.one L3.out)))) (show 4 ≤ maxLen by decide)
  rw [HSZ] at LL
  replace LL := Lib.hid (show RdLs ((w5.alloc (.cells #[.slice a4 1 c4, .slice a5 1 c5] 26)).alloc (.cells #[.slice (some ⟨w2.heap.size, 0, none⟩) 2 2, .slice (some ⟨w3.heap.size, 0, none⟩) 1 1, .slice none 0 0, .slice (some ⟨w5.heap.size, 0, none⟩) 2 2] 22)) (.slice (some ⟨w5.heap.size + 1, 0, none⟩) 4 4) lists4 from LL)
  have X6 := Lib.hid (Ext.trans (Ext.trans (Ext.trans X2.out X3.out) X5.out) (ext_new _ (.cells #[.slice (some ⟨w2.heap.size, 0, none⟩) 2 2, .slice (some ⟨w3.heap.size, 0, none⟩) 1 1, .slice none 0 0, .slice (some ⟨w5.heap.size, 0, none⟩) 2 2] 22)))
  clear HSZ L1 L2 L3 X2 X3 X5
  go_wp2_with fail
  generalize (w5.alloc (.cells #[.slice a4 1 c4, .slice a5 1 c5] 26)).alloc (.cells #[.slice (some ⟨w2.heap.size, 0, none⟩) 2 2, .slice (some ⟨w3.heap.size, 0, none⟩) 1 1, .slice none 0 0, .slice (some ⟨w5.heap.size, 0, none⟩) 2 2] 22) = W6 at LL X6 ⊢
  refine (pMerge16_any _ _ lists4 keys1 W6 LL.out (HK.out.mono X6.out) (by decide) fit4L (by decide) (by decide)).mono ?_
  rintro e w6 ⟨⟨o, rfl, ho⟩, x6⟩
  rw [merged4] at ho
  have HO := Lib.hid ho
  have HK6 := Lib.hid (HK.out.mono (Ext.trans X6.out x6))
  have X7 := Lib.hid (Ext.trans (Ext.trans HX0.out X6.out) x6)
  clear ho x6 LL X6 HK HX0
  go_wp2_with fail
  refine (num16_any 1 w6).mono ?_
  rintro e w7 ⟨⟨v7, rfl, h7, n7⟩, x7⟩
  obtain ⟨a7, c7, rfl⟩ := owns3_shape h7
  have O7 := Lib.hid (OptV.of_own (r := numV 1) h7 n7)
  have Y7 := Lib.hid x7
  clear h7 n7 x7
  go_wp2_with fail
  refine (num16_any 2 w7).mono ?_
  rintro e w8 ⟨⟨v8, rfl, h8, n8⟩, x8⟩
  obtain ⟨a8, c8, rfl⟩ := owns3_shape h8
  have O8 := Lib.hid (OptV.of_own (r := numV 2) h8 n8)
  have Y8 := Lib.hid x8
  clear h8 n8 x8
  go_wp2_with fail
  refine (num16_any 1 w8).mono ?_
  rintro e w9 ⟨⟨v9, rfl, h9, n9⟩, x9⟩
  obtain ⟨a9, c9, rfl⟩ := owns3_shape h9
  have HD := Lib.hid (show HdOpt w9 [.slice a7 1 c7, .slice a8 1 c8, .slice none 0 0, .slice a9 1 c9] heads4 from (HdOpt.one (O7.out.mono (Ext.trans Y8.out x9))).append ((HdOpt.one (O8.out.mono x9)).append ((HdOpt.one (o := none) rfl).append (HdOpt.one (OptV.of_own (r := numV 1) h9 n9)))))
  have HL := Lib.hid (show RdV (w9.alloc (.cells #[.slice a7 1 c7, .slice a8 1 c8, .slice none 0 0, .slice a9 1 c9] 26)) (.slice (some ⟨w9.heap.size, 0, none⟩) 4 4) [.slice a7 1 c7, .slice a8 1 c8, .slice none 0 0, .slice a9 1 c9] from lit_heads w9 [.slice a7 1 c7, .slice a8 1 c8, .slice none 0 0, .slice a9 1 c9] (by simp [maxLen]))
  have HXA := Lib.hid (ext_new w9 (.cells #[.slice a7 1 c7, .slice a8 1 c8, .slice none 0 0, .slice a9 1 c9] 26))
  have Y9 := Lib.hid (Ext.trans (Ext.trans (Ext.trans Y7.out Y8.out) x9) HXA.out)
  clear h9 n9 x9 O7 O8 Y7 Y8
  go_wp2_with fail
  generalize w9.alloc (.cells #[.slice a7 1 c7, .slice a8 1 c8, .slice none 0 0, .slice a9 1 c9] 26) = W9 at HL HXA Y9 ⊢
  have HKW := Lib.hid (HK6.out.mono Y9.out)
  refine (pNew16_any _ _ _ heads4 keys1 W9 W9 (Ext.keeps.refl _) HL.out (HD.out.mono HXA.out) HKW.out (by decide) fit4O len4O (by decide)).mono ?_
  rintro e wn ⟨⟨hc, -⟩ | ⟨-, p, O, n, rfl, ht, -, -, hO⟩, xn⟩
  · exact absurd hc (by decide)
  have HT := Lib.hid (TW.of_new (X := fun _ => False) ht hO (fun _ h => h.elim))
  have HBN := Lib.hid (show Below W9.heap.size W9 wn from xn)
  have HX9 := Lib.hid (Ext.trans X7.out Y9.out)
  have HOW := Lib.hid (HO.out.mono Y9.out)
  clear ht hO xn HL HD HXA HKW HK6 Y9 X7 HO
  go_wp2_with fail
  refine (next16_any W9.heap.size (fun _ => False) p heads4 keys1 n wn HT.out (fun _ h => h.elim)).mono ?_
  rw [next4.1, next4.2.1]
  rintro e wa ⟨rfl, ht, ho⟩
  have HTa := Lib.hid ht
  have HBa := Lib.hid (HBN.out.trans (ho.below HBN.out.size (fun b hb => hb.1)))
  clear ht ho HT HBN
  go_wp2_with fail
  refine (num16_any 4 wa).mono ?_
  rintro e wb ⟨⟨vb, rfl, hb, nb⟩, xb⟩
  have HTb := Lib.hid (HTa.out.ext xb)
  have HOb := Lib.hid (OptV.of_own (r := numV 4) hb nb)
  have HBb := Lib.hid (HBa.out.trans (Below.of_ext HBa.out.size xb))
  clear hb nb xb HTa HBa
  go_wp2_with fail
  refine (put16_any W9.heap.size (fun _ => False) p heads4 keys1 n vb (some (numV 4)) wb HTb.out HOb.out (fun r hr => by cases hr; exact ⟨numV_fit 4 (by decide) 5000, by simp [numV]⟩) (fun _ h => h.elim)).mono ?_
  rw [next4.2.1, if_pos rfl, putS_some _ next4.2.2]
  rintro e wc ⟨rfl, ho, n', ht, -, -⟩
  have HTc := Lib.hid (show TW W9.heap.size (fun _ => False) wc p heads4b keys1 n' from ht)
  have HBc := Lib.hid (HBb.out.trans (ho.below HBb.out.size (fun b hb => hb.1)))
  clear ht ho HTb HOb HBb
  go_wp2_with fail
  refine (next16_any W9.heap.size (fun _ => False) p heads4b keys1 n' wc HTc.out (fun _ h => h.elim)).mono ?_
  rw [next4b.1, next4b.2.1]
  rintro e wd ⟨rfl, ht, ho⟩
  have HTd := Lib.hid ht
  have HBd := Lib.hid (HBc.out.trans (ho.below HBc.out.size (fun b hb => hb.1)))
  clear ht ho HTc HBc
  go_wp2_with fail
  refine (num16_any 3 wd).mono ?_
  rintro e we ⟨⟨ve, rfl, he, ne⟩, xe⟩
  have HTe := Lib.hid (HTd.out.ext xe)
  have HOe := Lib.hid (OptV.of_own (r := numV 3) he ne)
  have HBe := Lib.hid (HBd.out.trans (Below.of_ext HBd.out.size xe))
  clear he ne xe HTd HBd
  go_wp2_with fail
  refine (put16_any W9.heap.size (fun _ => False) p heads4b keys1 n' ve (some (numV 3)) we HTe.out HOe.out (fun r hr => by cases hr; exact ⟨numV_fit 3 (by decide) 5000, by simp [numV]⟩) (fun _ h => h.elim)).mono ?_
  rw [next4b.2.1, if_pos rfl, putS_some _ next4b.2.2]
  rintro e wf ⟨rfl, ho, n'', ht, -, -⟩
  have HTf := Lib.hid (show TW W9.heap.size (fun _ => False) wf p heads4c keys1 n'' from ht)
  have HBf := Lib.hid (HBe.out.trans (ho.below HBe.out.size (fun b hb => hb.1)))
  clear ht ho HTe HOe HBe
  go_wp2_with fail
  refine (next16_any W9.heap.size (fun _ => False) p heads4c keys1 n'' wf HTf.out (fun _ h => h.elim)).mono ?_
  rw [next4c.1, next4c.2.1]
  rintro e wg ⟨rfl, ht, ho⟩
  have HBg := Lib.hid (HBf.out.trans (ho.below HBf.out.size (fun b hb => hb.1)))
  clear ht ho HTf HBf
  go_wp2_with fail
  refine (num16_any 1 wg).mono ?_
  rintro e q1 ⟨⟨t1, rfl, k1, -⟩, y1⟩
  obtain ⟨b1, d1, rfl⟩ := owns3_shape k1
  have P1 := Lib.hid (RdVals.of_owns (l := numV 1) k1)
  have Z1 := Lib.hid y1
  clear k1 y1
  go_wp2_with fail
  refine (num16_any 1 q1).mono ?_
  rintro e q2 ⟨⟨t2, rfl, k2, -⟩, y2⟩
  obtain ⟨b2, d2, rfl⟩ := owns3_shape k2
  have P2 := Lib.hid ((HdRows.one (P1.out.mono y2)).append (HdRows.one (RdVals.of_owns (l := numV 1) k2)))
  have Z2 := Lib.hid (Ext.trans Z1.out y2)
  clear k2 y2 P1 Z1
  go_wp2_with fail
  refine (num16_any 2 q2).mono ?_
  rintro e q3 ⟨⟨t3, rfl, k3, -⟩, y3⟩
  obtain ⟨b3, d3, rfl⟩ := owns3_shape k3
  have P3 := Lib.hid ((P2.out.mono y3).append (HdRows.one (RdVals.of_owns (l := numV 2) k3)))
  have Z3 := Lib.hid (Ext.trans Z2.out y3)
  clear k3 y3 P2 Z2
  go_wp2_with fail
  refine (num16_any 3 q3).mono ?_
  rintro e q4 ⟨⟨t4, rfl, k4, -⟩, y4⟩
  obtain ⟨b4, d4, rfl⟩ := owns3_shape k4
  have P4 := Lib.hid ((P3.out.mono y4).append (HdRows.one (RdVals.of_owns (l := numV 3) k4)))
  have Z4 := Lib.hid (Ext.trans Z3.out y4)
  clear k4 y4 P3 Z3
  go_wp2_with fail
  refine (num16_any 4 q4).mono ?_
  rintro e q5 ⟨⟨t5, rfl, k5, -⟩, y5⟩
  obtain ⟨b5, d5, rfl⟩ := owns3_shape k5
  have P5 := Lib.hid ((P4.out.mono y5).append (HdRows.one (RdVals.of_owns (l := numV 4) k5)))
  have Z5 := Lib.hid (Ext.trans Z4.out y5)
  have P6 := Lib.hid (lit_rows q5 _ _ P5.out (by simp [maxLen]))
  replace P6 := Lib.hid (show RdRV (q5.alloc (.cells #[.slice b1 1 d1, .slice b2 1 d2, .slice b3 1 d3, .slice b4 1 d4, .slice b5 1 d5] 26)) (.slice (some ⟨q5.heap.size, 0, none⟩) 5 5) [numV 1, numV 1, numV 2, numV 3, numV 4] from P6.out)
  have Z6 := Lib.hid (Ext.trans Z5.out (ext_new q5 (.cells #[.slice b1 1 d1, .slice b2 1 d2, .slice b3 1 d3, .slice b4 1 d4, .slice b5 1 d5] 26)))
  clear k5 y5 P4 Z4 P5 Z5
  go_wp2_with fail
  generalize q5.alloc (.cells #[.slice b1 1 d1, .slice b2 1 d2, .slice b3 1 d3, .slice b4 1 d4, .slice b5 1 d5] 26) = Q6 at P6 Z6 ⊢
  refine (refSameRows_any o _ [numV 1, numV 1, numV 2, numV 3, numV 4] [numV 1, numV 1, numV 2, numV 3, numV 4] Q6 ((HOW.out.mono HBg.out).mono Z6.out) P6.out.rd).mono ?_
  rw [decide_eq_true rfl]
  rintro e q7 ⟨rfl, y7⟩
  have HFIN := Lib.hid (show Ext w q7 from Ext.trans HX9.out (show Below W9.heap.size W9 q7 from (HBg.out.trans (Below.of_ext HBg.out.size Z6.out)).trans (Below.of_ext (Nat.le_trans HBg.out.size Z6.out.size) y7)))
  clear y7
  go_wp2_with fail
  go_ret
  exact ⟨rfl, HFIN.out⟩

end Go.Proofs.Ytodjaggihmcllaa
