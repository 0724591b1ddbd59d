/-
  The contract of the document's own Take.
-/
import Derived.Test.YthjkfkajkbaegaaRunsPut
import Derived.Test.YthjkfkajkbaegaaRefTk
import Derived.Test.YthjkfkajkbaegaaRunsTakePure
namespace Go.Proofs.Ythjkfkajkbaegaa
open Go.RowKit Go.BigFrame

theorem flat_fits {x : List Sp} (h : ∀ s ∈ x, (-9223372036854775808 ≤ s.f ∧ s.f ≤ 9223372036854775807) ∧ 0 ≤ s.t ∧ s.t ≤ 4096) : ∀ z ∈ flat x, -9223372036854775808 ≤ z ∧ z ≤ 9223372036854775807 := by
  intro z hz
  obtain ⟨s, hs, hzs⟩ := List.mem_flatMap.1 hz
  rw [(List.mem_replicate.1 hzs).2]
  exact (h s hs).1
set_option maxRecDepth 100000 in
set_option maxHeartbeats 4000000 in
theorem refTakeR_any (u : Value) (b : List UInt8) (w : World) (hu : Rd w u b) (hb : b.length ≤ 8000000) :
    Calls Try.prog 24 #[u] w fun e w' => AnsI w (takeS9 b) e w' := by
  obtain ⟨i1, hi1, hy0, hy1, hy2⟩ := info_parts Try.info5
  have HU := Lib.hid hu
  have HB := Lib.hid hb
  have HOC := Lib.hid (bv_oneCell b)
  have HLM := Lib.hid (show (b.map bv).length = b.length from List.length_map _)
  have HO0 := Lib.hid (empty_owned w)
  have HR0 := Lib.hid (hu.mono (ext_new w (.cells #[] 5)))
  obtain ⟨ao, cap, rfl, h1, h2⟩ := hu.shape
  obtain ⟨N, hN⟩ : ∃ N, b.length = N := ⟨_, rfl⟩
  have HN := Lib.hid hN
  rw [hN] at h1 HU HR0 HLM hb ⊢
  unfold maxLen at h2
  clear hu hN
  go_enter Try.func24, Try.ntmps24
  go_wp2_with (at_builtin; go_must (refine wpList_append_rd rfl (.tmp 13) (.tmp 14) 24 rfl w.heap.size 5 i1 (.int .u8 0) 1 Try.underlying24 hi1 hy0 hy1 hy2 rfl _ _ _ rfl HO0.out _ _ rfl HR0.out HOC.out (by rw [HLM.out]; unfold maxLen; omega) (by rw [HLM.out]; omega) (by simp) ?_); intro v1 w1 hown1 hgrow1; rw [List.nil_append, Nat.zero_add, HLM.out] at hown1; obtain ⟨so, sc, rfl, hsc1, hsc2⟩ := own_shapeP hown1; have HO1 := Lib.hid hown1; have HX1 := Lib.hid (show Ext w w1 from (ext_new w _).grown hgrow1 (by simp) (fun k hk => by cases hk; exact Nat.le_refl _)); clear hown1 hgrow1)
  have HRR := Lib.hid (show RRefP (fun k => k < w1.heap.size) (w1.alloc (.cells #[.slice so N sc, .bool false] 56)) w1.heap.size b false from ⟨_, heap_alloc_new _ _, (show Rd w1 _ b from RdV.of_owns HO1.out).mono (ext_new w1 _), fun k hk => (HO1.out.lt k hk).2⟩)
  have HG := Lib.hid (show w.heap.size ≤ w1.heap.size from HX1.out.size)
  have HX1' := Lib.hid (Ext.trans HX1.out (ext_new w1 (.cells #[.slice so N sc, .bool false] 56)))
  have HSZ := Lib.hid (show (w1.alloc (.cells #[.slice so N sc, .bool false] 56)).heap.size = w1.heap.size + 1 by simp)
  obtain ⟨W1, hW1⟩ : ∃ W1, W1 = w1.alloc (.cells #[.slice so N sc, .bool false] 56) := ⟨_, rfl⟩
  rw [← hW1]
  rw [← hW1] at HRR
  rw [← hW1] at HX1'
  rw [← hW1] at HSZ
  obtain ⟨g, hg⟩ : ∃ g, w1.heap.size = g := ⟨_, rfl⟩
  rw [hg] at HRR HG HSZ ⊢
  clear hW1 hg hsc1 hsc2
  have HBE := Lib.hid (fun (W W' : World) (h : Ext w W) (ho : Only g W W') => (show Ext w W' from Below.trans h (only_belowR ho h.size HG.out)))
  have HP := Lib.hid (show ∀ k, (fun k => k < g) k → k < g + 1 from fun k hk => by have : k < g := hk; omega)
  generalize (fun k => k < g) = P at HRR HP
  refine (refRNum_tk P g b false W1 (fun h => by cases h) HRR.out).mono ?_
  rintro e w2 ⟨rfl, hr2, ho2⟩
  have HR2 := Lib.hid hr2
  have HX2 := Lib.hid (HBE.out _ _ HX1'.out ho2)
  have HS2 := Lib.hid (show g + 1 ≤ w2.heap.size by have := ho2.size; have := HSZ.out; omega)
  have HI2 := Lib.hid (take_start b)
  have HB2 := Lib.hid (show (tk b).2.2 = true → (tk b).2.1 = [] from fun h => by rw [tk_bad h])
  have HL2 := Lib.hid (show (tk b).2.1.length ≤ N by have := (tk_len b).1; have := HN.out; omega)
  have hn64 := tk_lt b
  obtain ⟨n0, r0, bad0, ht⟩ : ∃ n r bad, tk b = (n, r, bad) := ⟨_, _, _, rfl⟩
  rw [ht] at HR2 HI2 HB2 HL2 hn64 ⊢
  simp only at HR2 HI2 HB2 HL2 hn64 ⊢
  clear hr2 ho2 ht
  go_wp2_with fail
  go_loopw [5, 6] (fun v nv wr => ∃ (n : Nat) (rest : List UInt8) (bad : Bool) (x : List Sp), nv = .int .u64 n ∧ n < 2 ^ 64 ∧ RRefP P wr g rest bad ∧ (bad = true → rest = []) ∧ wr.ownsRow (g + 1) 45 2 v x.length (x.flatMap Sp.cells) ∧ TakeInv b n rest bad x ∧ (∀ s ∈ x, (-9223372036854775808 ≤ s.f ∧ s.f ≤ 9223372036854775807) ∧ 0 ≤ s.t ∧ s.t ≤ 4096) ∧ x.length + rest.length ≤ N + 1 ∧ (bad = false → x.length + rest.length ≤ N) ∧ g + 1 ≤ wr.heap.size ∧ Ext w wr) (fun _ nv _ => (intOf nv).toNat)
  case atStart => exact ⟨n0, r0, bad0, [], rfl, hn64, HR2.out, HB2.out, owns_nil _ _ _ _, HI2.out, fun s hs => (by cases hs), by have := HL2.out; simp; omega, fun _ => by have := HL2.out; simp; omega, HS2.out, HX2.out⟩
  case round =>
    obtain ⟨n, rest, bad, x, rfl, hn, hrr, hbl, hown, hinv, hxf, hl1, hl2, hsz, hext⟩ := hrel
    have HRR := Lib.hid hrr
    have HBL := Lib.hid hbl
    have HO := Lib.hid hown
    have HINV := Lib.hid hinv
    have HXF := Lib.hid hxf
    have HSZ := Lib.hid hsz
    have HX := Lib.hid hext
    have HL1 := Lib.hid hl1
    have HL2 := Lib.hid hl2
    obtain ⟨rv, hb4, -, -⟩ := hrr
    have hc1 := Rdr.cell1 hb4
    clear hbl hown hinv hxf hext hb4 hl1 hl2
    by_cases hgo : n ≠ 0 ∧ bad = false
    · obtain ⟨hn0, rfl⟩ := hgo
      obtain ⟨m, rfl⟩ : ∃ m, n = m + 1 := ⟨n - 1, by omega⟩
      go_wp2_with fail
      clear hc1
      refine (refRInt_tk P g rest false wr (fun h => by cases h) HRR.out).mono ?_
      rintro e w3 ⟨rfl, hr3, ho3⟩
      have HR3 := Lib.hid hr3
      have HX3 := Lib.hid (HBE.out _ _ HX.out ho3)
      have HO3 := Lib.hid ho3
      clear hr3 ho3
      go_wp2_with fail
      have HS3 := Lib.hid (show g + 1 ≤ w3.heap.size by have := HO3.out.size; have := HSZ.out; omega)
      have HA3 := Lib.hid (ext_new w3 (.cells #[.int .i64 (zag (tk rest).1), .int .i64 0] 45))
      have HR3a := Lib.hid (RdrP.below HR3.out (HA3.out.mono HS3.out) (by omega) HP.out)
      have HX3a := Lib.hid (Ext.trans HX3.out HA3.out)
      have HO3a := Lib.hid ((HO.out.kept HO3.out (by
        cases hk : u5.ownBlock with
        | none => exact .inl rfl
        | some k => exact .inr (fun e => by have := (HO.out.lt k hk).1; cases e; omega))).alloc (.cells #[.int .i64 (zag (tk rest).1), .int .i64 0] 45))
      have HSA := Lib.hid (show (w3.alloc (.cells #[.int .i64 (zag (tk rest).1), .int .i64 0] 45)).heap.size = w3.heap.size + 1 by simp)
      have HC := Lib.hid (show (w3.alloc (.cells #[.int .i64 (zag (tk rest).1), .int .i64 0] 45)).heap[w3.heap.size]? = some (.cells #[.int .i64 (zag (tk rest).1), .int .i64 0] 45 (0, 0)) from heap_alloc_new _ _)
      have HRX := Lib.hid (show ∀ k, u5.ownBlock = some k → k ≠ w3.heap.size from fun k hk => by have := (HO.out.lt k hk).2; have := HO3.out.size; omega)
      generalize w3.alloc (.cells #[.int .i64 (zag (tk rest).1), .int .i64 0] 45) = wa at HR3a HX3a HO3a HSA HC ⊢
      generalize w3.heap.size = R at HSA HC HS3 HRX ⊢
      clear HA3
      have HB3 := Lib.hid (show (tk rest).2.2 = true → (tk rest).2.1 = [] from fun h => by rw [tk_bad h])
      refine (refRNum_tk P g (tk rest).2.1 (tk rest).2.2 wa HB3.out HR3a.out).mono ?_
      rintro e w4 ⟨rfl, hr4, ho4⟩
      have HR4 := Lib.hid hr4
      have HX4 := Lib.hid (HBE.out _ _ HX3a.out ho4)
      have HO4 := Lib.hid (HO3a.out.kept ho4 (by
        cases hk : u5.ownBlock with
        | none => exact .inl rfl
        | some k => exact .inr (fun e => by have := (HO.out.lt k hk).1; cases e; omega)))
      have HS4 := Lib.hid (show g + 1 ≤ w4.heap.size ∧ R < w4.heap.size by have := ho4.size; have := HSA.out; have := HS3.out; omega)
      have hRC : w4.heap[R]? = some (.cells #[.int .i64 (zag (tk rest).1), .int .i64 0] 45 (0, 0)) := (ho4.block R (by have := HSA.out; omega) (by have := HS3.out; simp; omega)).trans HC.out
      have HRC := Lib.hid hRC
      have hm64 := tk_lt (tk rest).2.1
      have HSTEP := Lib.hid (take_step HINV.out)
      have HMANY := Lib.hid (fun h => take_no (take_many HINV.out h))
      have HZ := Lib.hid (tk_zag_fits (tk_lt rest))
      have HB4 := Lib.hid (show (tk (tk rest).2.1).2.2 = true → (tk (tk rest).2.1).2.1 = [] from fun h => by rw [tk_bad h])
      have HLL := Lib.hid (show (x.length + 1) + (tk (tk rest).2.1).2.1.length ≤ N + 1 ∧ ((tk (tk rest).2.1).2.2 = false → (x.length + 1) + (tk (tk rest).2.1).2.1.length ≤ N) from by
        have h1 := HL2.out (by trivial)
        have h2 := (tk_len rest).1
        have h3 := tk_len (tk rest).2.1
        exact ⟨by omega, fun h => by have := h3.2 h; omega⟩)
      generalize zag (tk rest).1 = F at hRC HRC HSTEP HZ HC ⊢
      generalize tk (tk rest).2.1 = T2 at HR4 hm64 HSTEP HMANY HB4 HLL ⊢
      obtain ⟨M, r2, bad2⟩ := T2
      simp only at HR4 hm64 HSTEP HMANY HB4 HLL ⊢
      clear hr4 ho4
      by_cases hbig : 4096 < M
      · have HNO := Lib.hid (HMANY.out hbig)
        clear hRC
        go_wp2_with fail
        go_ret2
        exact ⟨_, by rw [HNO.out]; rfl, by rw [HNO.out]; exact owns_nil _ _ _ _, HX4.out⟩
      · have hk1 : w4.cell? ⟨R, 1, none⟩ = some (.int .i64 0) := by simp [World.cell?, hRC]
        have hk0 : w4.cell? ⟨R, 0, none⟩ = some (.int .i64 F) := by simp [World.cell?, hRC]
        have hfr : ∀ i, w4.frozen? ⟨R, i, none⟩ = false := fun i => by simp [World.frozen?, hRC]
        clear hRC
        have HOS := Lib.hid (HO4.out.kept (OnlyP.set R 1 w4 (.int .i64 (M : Int))) (by
          cases hk : u5.ownBlock with
          | none => exact .inl rfl
          | some k => exact .inr (fun e => HRX.out k hk (by cases e; rfl))))
        have HBS := Lib.hid ((OnlyS.of_onlyP (X := fun b => b = R) (OnlyP.set R 1 w4 (.int .i64 (M : Int))) rfl).below (N := g + 1) HS4.out.1 (fun b hb => by have := HS3.out; omega))
        have HXL := Lib.hid (show x.length ≤ 10000000 by have := HL1.out; omega)
        have HOL := Lib.hid (HO.out.lt)
        clear HOC
        go_wp2_with (at_builtin; go_must (refine wpList_append_run rfl (.tmp 41) (.tmp 43) rfl (g + 1) _ x ⟨F, (M : Int)⟩ rfl HOS.out (by show Value.slice (some ⟨w4.heap.size, 0, none⟩) 1 1 = _; rw [show (w4.setCell ⟨R, 1, none⟩ (.int .i64 (M : Int))).heap.size = w4.heap.size by simp [World.setCell]]) (by have := HXL.out; omega) (by have := HBS.out.size; have := HS4.out; omega) ?_); intro v6 w6 hown6 hb6; have HO6 := Lib.hid hown6; have HB6 := Lib.hid (HBS.out.trans hb6); clear hown6 hb6)
        go_roundw
        case rel =>
          refine ⟨m, r2, bad2, x ++ [⟨F, (M : Int)⟩], by go_num, by omega, RdrP.below HR4.out HB6.out (by omega) HP.out, HB4.out, HO6.out, HSTEP.out, fun s hs => ?_, ?_, ?_, by have := HB6.out.size; have := HS4.out; omega, ?_⟩
          · rcases List.mem_append.1 hs with hs | hs
            · exact HXF.out s hs
            · rw [List.mem_singleton.1 hs]
              exact ⟨HZ.out, by simp only; omega, by simp only; omega⟩
          · rw [List.length_append, List.length_singleton]; exact HLL.out.1
          · intro h; rw [List.length_append, List.length_singleton]; exact HLL.out.2 h
          · exact Below.trans HX4.out (HB6.out.mono (show w.heap.size ≤ g + 1 by have := HG.out; omega))
        case measure => simp [intOf]; try omega
    · by_cases hn0 : n = 0
      · subst hn0
        have HEND := Lib.hid (fun l (hl : IsPut b l) => take_end HINV.out (.inl rfl) hl)
        clear hgo hc1
        go_wp2_with fail
        refine (refFlat_any u5 x wr (OwnSp.of_owns HO.out).rd).mono ?_
        rintro e w5 ⟨v5, rfl, ho5, hx5⟩
        have HR5 := Lib.hid (RdrP.below HRR.out (hx5.mono HSZ.out) (by omega) HP.out)
        have HX5 := Lib.hid (Ext.trans HX.out hx5)
        by_cases hfin : bad = false ∧ rest.length = 0
        · have HQE := refEnd_anyP P g rest bad w5 HR5.out
          rw [if_pos hfin] at HQE
          have HQ := Lib.hid HQE
          clear HQE
          by_cases hfl : (flatS x).2 = 0
          · obtain ⟨hg0, hs0, hf0⟩ := flatS_zero hfl
            have HFL := Lib.hid (show (flat x).length ≤ 4096 by have := flat_length hg0; omega)
            have HFF := Lib.hid (flat_fits HXF.out)
            rw [hf0] at ho5 ⊢
            simp only at ho5 ⊢
            have HO5 := Lib.hid ho5
            have HPS := Lib.hid (show putS9 (flat x) = (putR (flat x), 0) by unfold putS9; rw [if_pos HFL.out])
            clear ho5 hx5 hfl hg0 hs0 hf0 hfin
            go_wp2_with fail
            refine HQ.out.mono ?_
            rintro e w6 ⟨rfl, rfl⟩
            go_wp2_with fail
            refine (refPutR_any v5 (flat x) w5 (RdV.of_owns HO5.out) HFF.out).mono ?_
            rintro e w7 ⟨v7, rfl, ho7, hx7⟩
            rw [HPS.out] at ho7 ⊢
            have HX7 := Lib.hid (Ext.trans HX5.out hx7)
            have HO7 := Lib.hid (owns_later HO5.out hx7)
            have hs1 := (show Rd w7 v7 (putR (flat x)) from RdV.of_owns ho7).string (P := Try.prog) 24 9 5 Try.underlying24 Try.underlying5 Try.underlying9
            have hs2 := (HU.out.mono HX7.out).string (P := Try.prog) 24 9 5 Try.underlying24 Try.underlying5 Try.underlying9
            clear ho7 hx7
            by_cases hcb : putR (flat x) = b
            · have HYES := Lib.hid (show takeS9 b = (flat x, 0) from take_yes ⟨HFF.out, HFL.out, hcb⟩)
              rw [hcb] at hs1
              clear hcb
              go_wp2_with fail
              go_ret2
              exact ⟨_, by rw [HYES.out]; rfl, by rw [HYES.out]; exact owns_base HO7.out HX.out.size, HX7.out⟩
            · have HNO := Lib.hid (show takeS9 b = ([], 6) from take_no (fun ⟨l, hl⟩ => hcb (by rw [(HEND.out l hl).2.2.2]; exact hl.2.2)))
              have hqq : (putR (flat x) == b) = false := beq_eq_false_iff_ne.2 hcb
              generalize putR (flat x) = C at hs1 hqq
              clear hcb
              go_wp2_with fail
              go_ret2
              exact ⟨_, by rw [HNO.out]; rfl, by rw [HNO.out]; exact owns_nil _ _ _ _, HX7.out⟩
          · have HNO := Lib.hid (show takeS9 b = ([], 6) from take_no (fun ⟨l, hl⟩ => hfl (HEND.out l hl).2.2.1))
            have HCC := flatS_no hfl
            clear ho5 hx5 hfl hfin
            rcases HCC with h | h
            all_goals
              rw [h]
              clear h
              go_wp2_with fail
              refine HQ.out.mono ?_
              rintro e w6 ⟨rfl, rfl⟩
              go_wp2_with fail
              go_ret2
              exact ⟨_, by rw [HNO.out]; rfl, by rw [HNO.out]; exact owns_nil _ _ _ _, HX5.out⟩
        · have HNO := Lib.hid (show takeS9 b = ([], 6) from take_no (fun ⟨l, hl⟩ => hfin ⟨(HEND.out l hl).1, (HEND.out l hl).2.1⟩))
          have HQE := refEnd_anyP P g rest bad w5 HR5.out
          rw [if_neg hfin] at HQE
          have HQ := Lib.hid HQE
          clear HQE ho5 hx5 hfin
          generalize flatS x = fx
          obtain ⟨fx1, fx2⟩ := fx
          go_wp2_with fail
          refine HQ.out.mono ?_
          rintro e w6 ⟨rfl, rfl⟩
          go_wp2_with fail
          go_ret2
          exact ⟨_, by rw [HNO.out]; rfl, by rw [HNO.out]; exact owns_nil _ _ _ _, HX5.out⟩
      · have hbad : bad = true := by
          cases bad with
          | true => rfl
          | false => exact absurd ⟨hn0, rfl⟩ hgo
        subst hbad
        obtain ⟨m, rfl⟩ : ∃ m, n = m + 1 := ⟨n - 1, by omega⟩
        have HEND := Lib.hid (fun l (hl : IsPut b l) => take_end HINV.out (.inr rfl) hl)
        clear hgo hn0
        go_wp2_with fail
        clear hc1
        refine (refFlat_any u5 x wr (OwnSp.of_owns HO.out).rd).mono ?_
        rintro e w5 ⟨v5, rfl, ho5, hx5⟩
        have HR5 := Lib.hid (RdrP.below HRR.out (hx5.mono HSZ.out) (by omega) HP.out)
        have HX5 := Lib.hid (Ext.trans HX.out hx5)
        by_cases hfin : true = false ∧ rest.length = 0
        · have HQE := refEnd_anyP P g rest true w5 HR5.out
          rw [if_pos hfin] at HQE
          have HQ := Lib.hid HQE
          clear HQE
          by_cases hfl : (flatS x).2 = 0
          · obtain ⟨hg0, hs0, hf0⟩ := flatS_zero hfl
            have HFL := Lib.hid (show (flat x).length ≤ 4096 by have := flat_length hg0; omega)
            have HFF := Lib.hid (flat_fits HXF.out)
            rw [hf0] at ho5 ⊢
            simp only at ho5 ⊢
            have HO5 := Lib.hid ho5
            have HPS := Lib.hid (show putS9 (flat x) = (putR (flat x), 0) by unfold putS9; rw [if_pos HFL.out])
            clear ho5 hx5 hfl hg0 hs0 hf0 hfin
            go_wp2_with fail
            refine HQ.out.mono ?_
            rintro e w6 ⟨rfl, rfl⟩
            go_wp2_with fail
            refine (refPutR_any v5 (flat x) w5 (RdV.of_owns HO5.out) HFF.out).mono ?_
            rintro e w7 ⟨v7, rfl, ho7, hx7⟩
            rw [HPS.out] at ho7 ⊢
            have HX7 := Lib.hid (Ext.trans HX5.out hx7)
            have HO7 := Lib.hid (owns_later HO5.out hx7)
            have hs1 := (show Rd w7 v7 (putR (flat x)) from RdV.of_owns ho7).string (P := Try.prog) 24 9 5 Try.underlying24 Try.underlying5 Try.underlying9
            have hs2 := (HU.out.mono HX7.out).string (P := Try.prog) 24 9 5 Try.underlying24 Try.underlying5 Try.underlying9
            clear ho7 hx7
            by_cases hcb : putR (flat x) = b
            · have HYES := Lib.hid (show takeS9 b = (flat x, 0) from take_yes ⟨HFF.out, HFL.out, hcb⟩)
              rw [hcb] at hs1
              clear hcb
              go_wp2_with fail
              go_ret2
              exact ⟨_, by rw [HYES.out]; rfl, by rw [HYES.out]; exact owns_base HO7.out HX.out.size, HX7.out⟩
            · have HNO := Lib.hid (show takeS9 b = ([], 6) from take_no (fun ⟨l, hl⟩ => hcb (by rw [(HEND.out l hl).2.2.2]; exact hl.2.2)))
              have hqq : (putR (flat x) == b) = false := beq_eq_false_iff_ne.2 hcb
              generalize putR (flat x) = C at hs1 hqq
              clear hcb
              go_wp2_with fail
              go_ret2
              exact ⟨_, by rw [HNO.out]; rfl, by rw [HNO.out]; exact owns_nil _ _ _ _, HX7.out⟩
          · have HNO := Lib.hid (show takeS9 b = ([], 6) from take_no (fun ⟨l, hl⟩ => hfl (HEND.out l hl).2.2.1))
            have HCC := flatS_no hfl
            clear ho5 hx5 hfl hfin
            rcases HCC with h | h
            all_goals
              rw [h]
              clear h
              go_wp2_with fail
              refine HQ.out.mono ?_
              rintro e w6 ⟨rfl, rfl⟩
              go_wp2_with fail
              go_ret2
              exact ⟨_, by rw [HNO.out]; rfl, by rw [HNO.out]; exact owns_nil _ _ _ _, HX5.out⟩
        · have HNO := Lib.hid (show takeS9 b = ([], 6) from take_no (fun ⟨l, hl⟩ => hfin ⟨(HEND.out l hl).1, (HEND.out l hl).2.1⟩))
          have HQE := refEnd_anyP P g rest true w5 HR5.out
          rw [if_neg hfin] at HQE
          have HQ := Lib.hid HQE
          clear HQE ho5 hx5 hfin
          generalize flatS x = fx
          obtain ⟨fx1, fx2⟩ := fx
          go_wp2_with fail
          refine HQ.out.mono ?_
          rintro e w6 ⟨rfl, rfl⟩
          go_wp2_with fail
          go_ret2
          exact ⟨_, by rw [HNO.out]; rfl, by rw [HNO.out]; exact owns_nil _ _ _ _, HX5.out⟩

end Go.Proofs.Ythjkfkajkbaegaa
