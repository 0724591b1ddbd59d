/-
  The contract of the document's own Take.
-/
import Derived.Test.YtepbdlmpknegiaaDeltaRef
import Derived.Test.YtepbdlmpknegiaaRefTk
namespace Go.Proofs.Ytepbdlmpknegiaa
open Go.RowKit Go.BigFrame

theorem wrapD_fits (n : Int) : -9223372036854775808 ≤ wrap64 n ∧ wrap64 n ≤ 9223372036854775807 := by unfold wrap64; omega
theorem wrapD_same {n : Int} (h : -9223372036854775808 ≤ n ∧ n ≤ 9223372036854775807) : wrap64 n = n := by unfold wrap64; omega

set_option maxRecDepth 100000 in
set_option maxHeartbeats 4000000 in
theorem refTakeD_any (u : Value) (b : List UInt8) (w : World) (hu : Rd w u b) (hb : b.length ≤ 8000000) :
    Calls Try.prog 18 #[u] w fun e w' => AnsI w (takeS11 b) e w' := by
  obtain ⟨i1, hi1, hy0, hy1, hy2⟩ := info_parts Try.info5
  obtain ⟨i2, hi2, hx0, hx1, hx2⟩ := info_parts Try.info_int8
  have HU := Lib.hid hu
  have HB := Lib.hid hb
  have HOC := Lib.hid (bv_oneCell b)
  have HLM := Lib.hid (show (b.map bv).length = b.length from List.length_map _)
  have HO0 := Lib.hid (empty_owned w)
  have HR0 := Lib.hid (hu.mono (ext_new w (.cells #[] 5)))
  obtain ⟨ao, cap, rfl, h1, h2⟩ := hu.shape
  obtain ⟨N, hN⟩ : ∃ N, b.length = N := ⟨_, rfl⟩
  have HN := Lib.hid hN
  rw [hN] at h1 HU HR0 HLM hb ⊢
  unfold maxLen at h2
  clear hu hN
  go_enter Try.func18, Try.ntmps18
  go_wp2_with (at_builtin; go_must (refine wpList_append_rd rfl (.tmp 10) (.tmp 11) 26 rfl w.heap.size 5 i1 (.int .u8 0) 1 Try.underlying26 hi1 hy0 hy1 hy2 rfl _ _ _ rfl HO0.out _ _ rfl HR0.out HOC.out (by rw [HLM.out]; unfold maxLen; omega) (by rw [HLM.out]; omega) (by simp) ?_); intro v1 w1 hown1 hgrow1; rw [List.nil_append, Nat.zero_add, HLM.out] at hown1; obtain ⟨so, sc, rfl, hsc1, hsc2⟩ := own_shapeP hown1; have HO1 := Lib.hid hown1; have HX1 := Lib.hid (show Ext w w1 from (ext_new w _).grown hgrow1 (by simp) (fun k hk => by cases hk; exact Nat.le_refl _)); clear hown1 hgrow1)
  have HRR := Lib.hid (show RRefP (fun k => k < w1.heap.size) (w1.alloc (.cells #[.slice so N sc, .bool false] 51)) w1.heap.size b false from ⟨_, heap_alloc_new _ _, (show Rd w1 _ b from RdV.of_owns HO1.out).mono (ext_new w1 _), fun k hk => (HO1.out.lt k hk).2⟩)
  have HG := Lib.hid (show w.heap.size ≤ w1.heap.size from HX1.out.size)
  have HX1' := Lib.hid (Ext.trans HX1.out (ext_new w1 (.cells #[.slice so N sc, .bool false] 51)))
  have HSZ := Lib.hid (show (w1.alloc (.cells #[.slice so N sc, .bool false] 51)).heap.size = w1.heap.size + 1 by simp)
  obtain ⟨W1, hW1⟩ : ∃ W1, W1 = w1.alloc (.cells #[.slice so N sc, .bool false] 51) := ⟨_, rfl⟩
  rw [← hW1]
  rw [← hW1] at HRR
  rw [← hW1] at HX1'
  rw [← hW1] at HSZ
  obtain ⟨g, hg⟩ : ∃ g, w1.heap.size = g := ⟨_, rfl⟩
  rw [hg] at HRR HG HSZ ⊢
  clear hW1 hg hsc1 hsc2
  have HBE := Lib.hid (fun (W W' : World) (h : Ext w W) (ho : Only g W W') => (show Ext w W' from Below.trans h (only_belowR ho h.size HG.out)))
  have HP := Lib.hid (show ∀ k, (fun k => k < g) k → k < g + 1 from fun k hk => by have : k < g := hk; omega)
  generalize (fun k => k < g) = P at HRR HP
  refine (refRNum_tk P g b false W1 (fun h => by cases h) HRR.out).mono ?_
  rintro e w2 ⟨rfl, hr2, ho2⟩
  have HR2 := Lib.hid hr2
  have HX2 := Lib.hid (HBE.out _ _ HX1'.out ho2)
  have HS2 := Lib.hid (show g + 1 ≤ w2.heap.size by have := ho2.size; have := HSZ.out; omega)
  have HI2 := Lib.hid (takeD_start b)
  have HMANY := Lib.hid (fun h => takeD_no (takeD_many (b := b) h))
  have HB2 := Lib.hid (show (tk b).2.2 = true → (tk b).2.1 = [] from fun h => by rw [tk_bad h])
  have hn64 := tk_lt b
  obtain ⟨n0, r0, bad0, ht⟩ : ∃ n r bad, tk b = (n, r, bad) := ⟨_, _, _, rfl⟩
  rw [ht] at HR2 HI2 HB2 HMANY hn64 ⊢
  simp only at HR2 HI2 HB2 HMANY hn64 ⊢
  clear hr2 ho2 ht
  by_cases hmany : 4096 < n0
  · have HNO := Lib.hid (HMANY.out hmany)
    go_wp2_with fail
    go_ret2
    exact ⟨_, by rw [HNO.out]; rfl, by rw [HNO.out]; exact owns_nil _ _ _ _, HX2.out⟩
  · go_wp2_with fail
    go_loopw [5, 6, 7] (fun nv v la wr => ∃ (n : Nat) (rest : List UInt8) (bad : Bool) (x : List Int), nv = .int .u64 n ∧ la = .int .i64 (lastD 0 x) ∧ x.length + n = n0 ∧ RRefP P wr g rest bad ∧ (bad = true → rest = []) ∧ wr.ownsRow (g + 1) 3 1 v x.length (x.map (Value.int .i64)) ∧ TakeInvD b n rest bad x ∧ fitsI x ∧ g + 1 ≤ wr.heap.size ∧ Ext w wr) (fun nv _ _ _ => (intOf nv).toNat)
    case atStart => exact ⟨n0, r0, bad0, [], rfl, rfl, by simp, HR2.out, HB2.out, owns_nil _ _ _ _, HI2.out, fun s hs => (by cases hs), HS2.out, HX2.out⟩
    case round =>
      obtain ⟨n, rest, bad, x, rfl, rfl, hn, hrr, hbl, hown, hinv, hxf, hsz, hext⟩ := hrel
      have HRR := Lib.hid hrr
      have HBL := Lib.hid hbl
      have HO := Lib.hid hown
      have HINV := Lib.hid hinv
      have HXF := Lib.hid hxf
      have HSZ := Lib.hid hsz
      have HX := Lib.hid hext
      have HLF := Lib.hid (lastD_fits hxf (a := 0) (by decide))
      obtain ⟨rv, hb4, -, -⟩ := hrr
      have hc1 := Rdr.cell1 hb4
      clear hbl hown hinv hxf hext hb4
      by_cases hgo : n ≠ 0 ∧ bad = false
      · obtain ⟨hn0, rfl⟩ := hgo
        obtain ⟨m, rfl⟩ : ∃ m, n = m + 1 := ⟨n - 1, by omega⟩
        go_wp2_with fail
        clear hc1
        refine (refRInt_tk P g rest false wr (fun h => by cases h) HRR.out).mono ?_
        rintro e w3 ⟨rfl, hr3, ho3⟩
        have HR3 := Lib.hid hr3
        have HX3 := Lib.hid (HBE.out _ _ HX.out ho3)
        have HO3 := Lib.hid ho3
        have HOW3 := Lib.hid (HO.out.kept ho3 (by
          cases hk : u6.ownBlock with
          | none => exact .inl rfl
          | some k => exact .inr (fun e => by have := (HO.out.lt k hk).1; cases e; omega)))
        have HS3 := Lib.hid (show g + 1 ≤ w3.heap.size by have := ho3.size; have := HSZ.out; omega)
        have HSTEP := Lib.hid (fun z hz => takeD_step HINV.out z hz)
        have HB3 := Lib.hid (show (tk rest).2.2 = true → (tk rest).2.1 = [] from fun h => by rw [tk_bad h])
        have HZ := Lib.hid (tk_zag_fits (tk_lt rest))
        generalize lastD 0 x = la at HSTEP HLF ⊢
        generalize zag (tk rest).1 = F at HSTEP HZ ⊢
        have HST := Lib.hid (HSTEP.out (wrap64 (la + F)) (fun h => wrapD_same h))
        have HZ2 := Lib.hid (wrapD_fits (la + F))
        have HXL := Lib.hid (show x.length ≤ 4096 by omega)
        clear hr3 ho3
        go_wp2_with (at_builtin; go_must (refine wpList_append_own _ rfl (.tmp 34) (.tmp 36) 22 rfl (g + 1) 3 i2 (.int .i64 0) 1 8 Try.underlying22 hi2 hx0 hx1 hx2 rfl (by decide) u6 _ _ rfl (HOW3.out.alloc _) ⟨w3.heap.size, 0, none⟩ 1 1 [_] rfl rfl (row_new _ _ _) (by simp [Value.oneCell']) (by have := HXL.out; unfold maxLen; omega) (by have := HXL.out; omega) (by have := HS3.out; simp; omega) ?_); intro v4 w4 hown4 hgrow4 _; have HO4 := Lib.hid hown4; have HB4 := Lib.hid (((Below.refl (g + 1) w3).alloc HS3.out _).grown hgrow4 (by simp; have := HS3.out; omega) (fun b hb => (HOW3.out.lt b hb).1)); clear hown4 hgrow4)
        go_roundw
        case rel =>
          refine ⟨m, (tk rest).2.1, (tk rest).2.2, x ++ [wrap64 (la + F)], by go_num, by rw [lastD_snoc], by simp; omega, RdrP.below HR3.out HB4.out (by omega) HP.out, HB3.out, ?_, HST.out, fun s hs => ?_, by have := HB4.out.size; have := HS3.out; omega, ?_⟩
          · rw [List.length_append, List.map_append]
            exact HO4.out
          · rcases List.mem_append.1 hs with hs | hs
            · exact HXF.out s hs
            · rw [List.mem_singleton.1 hs]
              exact HZ2.out
          · exact Below.trans HX3.out (HB4.out.mono (show w.heap.size ≤ g + 1 by have := HG.out; omega))
        case measure => simp [intOf]; try omega
      · have hn0 : n = 0 ∨ bad = true := by
          by_cases h : n = 0
          · exact .inl h
          · cases bad with
            | true => exact .inr rfl
            | false => exact absurd ⟨h, rfl⟩ hgo
        have HEND := Lib.hid (fun l (hl : IsPutD b l) => takeD_end HINV.out hn0 hl)
        have hstop : n = 0 ∨ ((∃ m, n = m + 1) ∧ bad = true) := by
          by_cases h : n = 0
          · exact .inl h
          · exact .inr ⟨⟨n - 1, by omega⟩, by rcases hn0 with h' | h'; exact absurd h' h; exact h'⟩
        clear hgo hn0
        have HQ := Lib.hid (refEnd_anyP P g rest bad wr HRR.out)
        have HPUT := Lib.hid (refPutD_any u6 x wr (RdV.of_owns HO.out) HXF.out)
        have HPS := Lib.hid (fun (h : (putS11 x).2 = 0) => (putS11_zero h).2.2)
        have HIP := Lib.hid (fun (h : putS11 x = (b, 0)) => (show takeS11 b = (x, 0) from takeD_yes ⟨HXF.out, h⟩))
        have HNP := Lib.hid (fun (h : putS11 x ≠ (b, 0)) => (show takeS11 b = ([], 6) from takeD_no (fun ⟨l, hl⟩ => h (by rw [(HEND.out l hl).2.2]; exact hl.2))))
        by_cases hfin : bad = false ∧ rest.length = 0
        · rw [if_pos hfin] at HQ
          clear hfin
          generalize putS11 x = R at HPUT HPS HIP HNP
          obtain ⟨R1, R2⟩ := R
          rcases hstop with rfl | ⟨⟨m, rfl⟩, rfl⟩
          all_goals (
            go_wp2_with fail
            clear hc1
            refine HQ.out.mono ?_
            rintro e w5 ⟨rfl, rfl⟩
            go_wp2_with fail
            refine HPUT.out.mono ?_
            rintro e w6 ⟨v6, rfl, ho6, hx6⟩
            have HX6 := Lib.hid (Ext.trans HX.out hx6)
            have HO6 := Lib.hid (owns_later HO.out hx6)
            have hs1 := str_of (show Rd w6 v6 R1 from RdV.of_owns ho6)
            have hs2 := str_of (HU.out.mono HX6.out)
            clear ho6 hx6
            by_cases hR : R2 = 0
            · subst hR
              by_cases hcb : R1 = b
              · have HYES := Lib.hid (HIP.out (by rw [hcb]))
                rw [hcb] at hs1
                clear hcb
                go_wp2_with fail
                go_ret2
                exact ⟨_, by rw [HYES.out]; rfl, by rw [HYES.out]; exact owns_base HO6.out (by have := HG.out; omega), HX6.out⟩
              · have HNO := Lib.hid (HNP.out (fun h => hcb (congrArg Prod.fst h)))
                have hqq : (R1 == b) = false := beq_eq_false_iff_ne.2 hcb
                clear hcb
                go_wp2_with fail
                go_ret2
                exact ⟨_, by rw [HNO.out]; rfl, by rw [HNO.out]; exact owns_nil _ _ _ _, HX6.out⟩
            · have HNO := Lib.hid (HNP.out (fun h => hR (congrArg Prod.snd h)))
              have hqq : (R2 != 0) = true := bne_iff_ne.2 hR
              clear hR
              go_wp2_with fail
              go_ret2
              exact ⟨_, by rw [HNO.out]; rfl, by rw [HNO.out]; exact owns_nil _ _ _ _, HX6.out⟩)
        · have HNO := Lib.hid (show takeS11 b = ([], 6) from takeD_no (fun ⟨l, hl⟩ => hfin ⟨(HEND.out l hl).1, (HEND.out l hl).2.1⟩))
          rw [if_neg hfin] at HQ
          clear hfin
          rcases hstop with rfl | ⟨⟨m, rfl⟩, rfl⟩
          all_goals (
            go_wp2_with fail
            clear hc1
            refine HQ.out.mono ?_
            rintro e w5 ⟨rfl, rfl⟩
            go_wp2_with fail
            go_ret2
            exact ⟨_, by rw [HNO.out]; rfl, by rw [HNO.out]; exact owns_nil _ _ _ _, HX.out⟩)

end Go.Proofs.Ytepbdlmpknegiaa
