/-
  The program's own Unframe; with it all that the calls of layer 8 answer.
-/
import Derived.Test.YtgfgmgekkmaipaaPackFrame
import Derived.Test.YtgfgmgekkmaipaaHead
import Derived.Test.YtgfgmgekkmaipaaPackRef5
import Derived.Test.YtgfgmgekkmaipaaRead
import Derived.Test.YtgfgmgekkmaipaaPackP3
namespace Go.Proofs.Ytgfgmgekkmaipaa
open Go.RowKit Go.BigFrame

/-- make([]int, n) of a number of 64 bits without a sign, as a fact of the walk. -/
theorem make_ints (w : World) (n : Nat) (hn : n ≤ 100000) : ∃ w', (Instr.makeSlice 37 (.int .u64 (n : Int)) (.int .u64 (n : Int))).run Try.prog w = .ok (.slice (some ⟨w.heap.size, 0, none⟩) n n) w' ∧ w'.ownsRow w.heap.size 3 1 (.slice (some ⟨w.heap.size, 0, none⟩) n n) n ((List.replicate n 0).map (Value.int .i64)) ∧ Ext w w' := by
  obtain ⟨i0, hi, hz0, hz1, hz2⟩ := info_parts Try.info_int8
  obtain ⟨w', hrun, hown, hgrow⟩ := run_makeSlice_full (P := Try.prog) w w.heap.size 37 3 i0 (.int .i64 0) 1 Try.underlying37 hi hz0 hz1 .u64 .u64 n (by omega) (by rw [hz2]; omega) (by unfold maxLen; omega) (Nat.le_refl _)
  refine ⟨w', hrun, ?_, ⟨hgrow.os, hgrow.tape, hgrow.output, hgrow.size, fun k hk => hgrow.block k hk (by simp)⟩⟩
  have e : (madeCells (Value.int .i64 0).cells (n * 1)).toList = (List.replicate n 0).map (Value.int .i64) := by
    rw [Nat.mul_one, List.map_replicate]
    exact toList_madeCells_one _ _
  rwa [e] at hown
theorem drop_rest (b : List UInt8) (k : Nat) : b.drop (b.length - (b.drop k).length) = b.drop k := by
  rw [List.length_drop]
  by_cases h : k ≤ b.length
  · rw [show b.length - (b.length - k) = k by omega]
  · rw [List.drop_eq_nil_of_le (show b.length ≤ k by omega), List.drop_eq_nil_of_le (by omega)]

/-- What reading answers: the numbers whose frame those bytes are, if there are any. -/
def Reads (b : List UInt8) (l : List Int) (er : Int) : Prop := (er = 0 ∨ (er = 6 ∧ l = [])) ∧ (∀ L, IsFrame b L → er = 0 ∧ l = L) ∧ l.length ≤ 4096 ∧ ∀ x ∈ l, -9223372036854775808 ≤ x ∧ x ≤ 9223372036854775807
theorem Reads.no {b : List UInt8} (h : ¬ ∃ L, IsFrame b L) : Reads b [] 6 := ⟨.inr ⟨rfl, rfl⟩, fun L hL => absurd ⟨L, hL⟩ h, by simp, fun x hx => (by cases hx)⟩
theorem unpack_len {r : List UInt8} {n wd : Nat} (h1 : n ≤ 4096) (h2 : wd ≤ 64) : ((unpackS r (n : Int) (wd : Int)).2 = 0 ∧ (unpackS r (n : Int) (wd : Int)).1.length = n) ∨ (unpackS r (n : Int) (wd : Int)) = ([], 6) := by
  by_cases h : (unpackS r (n : Int) (wd : Int)).2 = 0
  · obtain ⟨l, e1, e2, _⟩ := pack_unpack h
    rw [e1]
    exact .inl ⟨rfl, by simp only; omega⟩
  · refine .inr ?_
    unfold unpackS at h ⊢
    have hb : (bytesS (n : Int) (wd : Int)).2 = 0 := by
      unfold bytesS
      rw [if_neg (by omega), if_neg (by omega)]
    rw [if_pos hb] at h ⊢
    split at h
    · exact absurd rfl h
    · rename_i hc
      rw [if_neg hc]

set_option maxRecDepth 100000 in
set_option maxHeartbeats 4000000 in
theorem read_any (u : Value) (b : List UInt8) (w : World) (hu : Rd w u b) (hb : b.length ≤ 100000) :
    Calls Try.prog 36 #[u] w fun e w' => ∃ l er, AnsI w (l, er) e w' ∧ Reads b l er := by
  have HU := Lib.hid hu
  have HB := Lib.hid hb
  obtain ⟨ao, cap, rfl, h1, h2⟩ := hu.shape
  obtain ⟨N, hN⟩ : ∃ N, b.length = N := ⟨_, rfl⟩
  have HN := Lib.hid hN
  rw [hN] at h1 HU hb ⊢
  unfold maxLen at h2
  clear hu hN
  have HFF := Lib.hid (fun l (h : IsFrame b l) => frame_front h)
  have HFT := Lib.hid (fun l (h : IsFrame b l) (hn : l ≠ []) => frame_tells h hn)
  go_enter Try.func36, Try.ntmps36
  go_wp2_with fail
  refine (New_any (.slice ao N cap) b w HU.out (by have := HB.out; omega)).mono ?_
  rintro e W1 ⟨g, rfl, hg, hr1, hx1⟩
  have HRR := Lib.hid hr1
  have HG := Lib.hid hg
  have HX1' := Lib.hid (show Ext w W1 from hx1)
  clear hr1 hg hx1
  have HBE := Lib.hid (fun (W W' : World) (h : Ext w W) (ho : Only g W W') => (show Ext w W' from Below.trans h (only_below ho h.size HG.out)))
  by_cases hs : (front b).2 = 0
  · have HNO := Lib.hid (show ¬ ∃ L, IsFrame b L from fun ⟨L, hL⟩ => (HFF.out L hL).2.1 hs)
    go_wp2_with fail
    refine (RNum_no _ g b W1 HRR.out hs).mono ?_
    rintro e w2 ⟨rfl, hr2, ho2⟩
    have HR2 := Lib.hid hr2
    have HX2 := Lib.hid (HBE.out _ _ HX1'.out ho2)
    clear hr2 ho2
    go_wp2_with fail
    refine (End_bad _ g [] w2 HR2.out).mono ?_
    rintro e w3 ⟨rfl, rfl⟩
    go_wp2_with fail
    go_ret2
    exact ⟨[], 6, ⟨_, rfl, owns_nil _ _ _ _, HX2.out⟩, Reads.no HNO.out⟩
  · obtain ⟨n, s, hfr⟩ : ∃ n s, front b = (n, s) := ⟨_, _, rfl⟩
    have HFR := Lib.hid hfr
    rw [hfr] at hs
    simp only at hs
    obtain ⟨hn64, hsl, hbd⟩ := front_sound b n s hfr hs
    have HFRR := Lib.hid hfr
    have HS := Lib.hid hs
    go_wp2_with fail
    refine (RNum_yes _ g b n s W1 HRR.out HFRR.out HS.out).mono ?_
    rintro e w2 ⟨rfl, hr2, ho2⟩
    have HR2 := Lib.hid hr2
    have HX2 := Lib.hid (HBE.out _ _ HX1'.out ho2)
    have HBD := Lib.hid hbd
    have hn64' : n < 18446744073709551616 := hn64
    clear hr2 ho2 hfr hbd hs hsl hn64
    have HLN := Lib.hid (fun l (h : IsFrame b l) => (show l.length = n from by
      have h1 := (HFF.out l h).1
      rw [HFR.out] at h1
      simp only at h1
      exact h1.symm))
    by_cases hn0 : n = 0
    · subst hn0
      by_cases hrest : b.drop s = []
      · have HYES := Lib.hid (show IsFrame b [] by
          have hbe := HBD.out
          rw [hrest, List.append_nil] at hbe
          rw [hbe]
          exact frame_nil)
        rw [hrest] at HR2
        clear hrest
        go_wp2_with fail
        refine (End_any _ g [] w2 HR2.out).mono ?_
        rintro e w3 ⟨rfl, rfl⟩
        rw [if_pos List.length_nil]
        go_wp2_with fail
        go_ret2
        exact ⟨[], 0, ⟨_, rfl, owns_nil _ _ _ _, HX2.out⟩, .inl rfl, fun L hL => ⟨rfl, frame_inj HYES.out hL⟩, by simp, fun x hx => (by cases hx)⟩
      · have HNO := Lib.hid (show ¬ ∃ L, IsFrame b L from fun ⟨L, hL⟩ => by
          have h0 := HLN.out L hL
          have hnil : L = [] := List.length_eq_zero_iff.1 h0
          subst hnil
          have h3 := (HFF.out [] hL).2.2
          rw [HFR.out] at h3
          exact hrest h3)
        have HEND := Lib.hid (show Calls Try.prog 47 #[.pointer (some ⟨g, 0, none⟩)] w2 fun e w' => e = .returned (.int .i64 6) ∧ w2 = w' from by
          have h := End_any _ g (b.drop s) w2 HR2.out
          rw [if_neg (fun h => hrest (List.length_eq_zero_iff.1 h))] at h
          exact h)
        clear hrest
        go_wp2_with fail
        refine HEND.out.mono ?_
        rintro e w3 ⟨rfl, rfl⟩
        go_wp2_with fail
        go_ret2
        exact ⟨[], 6, ⟨_, rfl, owns_nil _ _ _ _, HX2.out⟩, Reads.no HNO.out⟩
    · have hq : ((n : Int) == 0) = false := by rw [beq_eq_false_iff_ne]; omega
      have HNN := Lib.hid (fun l (h : IsFrame b l) => (show l ≠ [] from fun hnil => by
        have h1 := HLN.out l h
        rw [hnil] at h1
        exact hn0 h1.symm))
      obtain ⟨r1, hr1⟩ : ∃ r1, b.drop s = r1 := ⟨_, rfl⟩
      have HRE1 := Lib.hid (show b.drop (front b).2 = r1 by rw [HFR.out]; exact hr1)
      have HD1 := Lib.hid hr1
      rw [hr1] at HR2
      clear hr1 hn0
      by_cases hs1 : (front r1).2 = 0
      · have HNO := Lib.hid (show ¬ ∃ L, IsFrame b L from (fun ⟨l, hl⟩ => by
          obtain ⟨_, _, _, a1, a2, _⟩ := HFT.out l hl (HNN.out l hl)
          rw [HRE1.out] at a1
          subst a1
          exact a2 hs1))
        go_wp2_with fail
        refine (RInt_no _ g r1 w2 HR2.out hs1).mono ?_
        rintro e w3 ⟨rfl, hr3, ho3⟩
        have HR3 := Lib.hid hr3
        have HX3 := Lib.hid (HBE.out _ _ HX2.out ho3)
        clear hr3 ho3 hs1
        go_wp2_with fail
        refine (RNum_bad _ g [] w3 HR3.out).mono ?_
        rintro e w4 ⟨rfl, rfl⟩
        go_wp2_with fail
        refine (Bad_any _ g [] true w3 HR3.out).mono ?_
        rintro e w5 ⟨rfl, rfl⟩
        go_wp2_with fail
        go_ret2
        exact ⟨[], 6, ⟨_, rfl, owns_nil _ _ _ _, HX3.out⟩, Reads.no HNO.out⟩
      · obtain ⟨n1, s1, hfr1⟩ : ∃ n s, front r1 = (n, s) := ⟨_, _, rfl⟩
        have HFR1 := Lib.hid hfr1
        rw [hfr1] at hs1
        simp only at hs1
        have HS1 := Lib.hid hs1
        clear hfr1 hs1
        go_wp2_with fail
        refine (RInt_yes _ g r1 n1 s1 w2 HR2.out HFR1.out HS1.out).mono ?_
        rintro e w3 ⟨rfl, hr3, ho3⟩
        have HR3 := Lib.hid hr3
        have HX3 := Lib.hid (HBE.out _ _ HX2.out ho3)
        obtain ⟨r2, hr2⟩ : ∃ r2, r1.drop s1 = r2 := ⟨_, rfl⟩
        have HRE2 := Lib.hid (show r1.drop (front r1).2 = r2 by rw [HFR1.out]; exact hr2)
        have HD2 := Lib.hid hr2
        rw [hr2] at HR3
        obtain ⟨z, hz⟩ : ∃ z, zag n1 = z := ⟨_, rfl⟩
        have HZ := Lib.hid (show zag (front r1).1 = z by rw [HFR1.out]; exact hz)
        have hzf : -9223372036854775808 ≤ z ∧ z ≤ 9223372036854775807 := by
          have h := (front_sound r1 n1 s1 HFR1.out HS1.out).1
          rw [← hz]
          unfold zag
          split <;> omega
        rw [hz]
        clear hr3 ho3 hr2 hz
        by_cases hs2 : (front r2).2 = 0
        · have HNO := Lib.hid (show ¬ ∃ L, IsFrame b L from (fun ⟨l, hl⟩ => by
            obtain ⟨_, _, _, a1, a2, a3, a4, a5, _⟩ := HFT.out l hl (HNN.out l hl)
            rw [HRE1.out] at a1
            subst a1
            rw [HRE2.out] at a4
            subst a4
            exact a5 hs2))
          go_wp2_with fail
          refine (RNum_no _ g r2 w3 HR3.out hs2).mono ?_
          rintro e w4 ⟨rfl, hr4, ho4⟩
          have HR4 := Lib.hid hr4
          have HX4 := Lib.hid (HBE.out _ _ HX3.out ho4)
          clear hr4 ho4 hs2
          go_wp2_with fail
          refine (Bad_any _ g [] true w4 HR4.out).mono ?_
          rintro e w5 ⟨rfl, rfl⟩
          go_wp2_with fail
          go_ret2
          exact ⟨[], 6, ⟨_, rfl, owns_nil _ _ _ _, HX4.out⟩, Reads.no HNO.out⟩
        · obtain ⟨wd, s2, hfr2⟩ : ∃ n s, front r2 = (n, s) := ⟨_, _, rfl⟩
          have HFR2 := Lib.hid hfr2
          rw [hfr2] at hs2
          simp only at hs2
          have HS2 := Lib.hid hs2
          have hwd64 : wd < 18446744073709551616 := (front_sound r2 wd s2 hfr2 hs2).1
          clear hfr2 hs2
          go_wp2_with fail
          refine (RNum_yes _ g r2 wd s2 w3 HR3.out HFR2.out HS2.out).mono ?_
          rintro e w4 ⟨rfl, hr4, ho4⟩
          have HX4 := Lib.hid (HBE.out _ _ HX3.out ho4)
          obtain ⟨r3, hr3⟩ : ∃ r3, r2.drop s2 = r3 := ⟨_, rfl⟩
          have HRE3 := Lib.hid (show r2.drop (front r2).2 = r3 by rw [HFR2.out]; exact hr3)
          have HD3 := Lib.hid (show r3 = b.drop (s + s1 + s2) by rw [← hr3, ← HD2.out, ← HD1.out, List.drop_drop, List.drop_drop, Nat.add_assoc])
          rw [hr3] at hr4
          have HR4 := Lib.hid hr4
          have HPT := Lib.hid (fun l (h : IsFrame b l) => (show zag (front r1).1 = leastS l ∧ wd = widthS (moreS l) ∧ unpackS r3 (n : Int) (wd : Int) = (moreS l, 0) from by
            obtain ⟨_, _, _, a1, a2, a3, a4, a5, a6, a7, a8⟩ := HFT.out l h (HNN.out l h)
            rw [HRE1.out] at a1
            subst a1
            rw [HRE2.out] at a4
            subst a4
            rw [HRE3.out] at a7
            subst a7
            rw [HFR2.out] at a6
            simp only at a6
            rw [HLN.out l h, ← a6] at a8
            exact ⟨a3, a6, a8⟩))
          clear ho4 hr4 hr3
          by_cases hbig : 4096 < n
          · have HNO := Lib.hid (show ¬ ∃ L, IsFrame b L from (fun ⟨l, hl⟩ => by
              have h1 := HLN.out l hl
              have h2 := hl.2.1
              omega))
            go_wp2_with fail
            refine (Bad_any _ g r3 false w4 HR4.out).mono ?_
            rintro e w5 ⟨rfl, rfl⟩
            go_wp2_with fail
            go_ret2
            exact ⟨[], 6, ⟨_, rfl, owns_nil _ _ _ _, HX4.out⟩, Reads.no HNO.out⟩
          · by_cases hwbig : 64 < wd
            · have HNO := Lib.hid (show ¬ ∃ L, IsFrame b L from (fun ⟨l, hl⟩ => by
                have h1 := (HPT.out l hl).2.1
                have := widthS_le (moreS l)
                omega))
              go_wp2_with fail
              refine (Bad_any _ g r3 false w4 HR4.out).mono ?_
              rintro e w5 ⟨rfl, rfl⟩
              go_wp2_with fail
              go_ret2
              exact ⟨[], 6, ⟨_, rfl, owns_nil _ _ _ _, HX4.out⟩, Reads.no HNO.out⟩
            · obtain ⟨L3, hL3⟩ : ∃ L3, r3.length = L3 := ⟨_, rfl⟩
              have hL3N : L3 ≤ N := by
                have := HD3.out
                rw [← hL3, this, List.length_drop, HN.out]
                omega
              have HL3 := Lib.hid hL3
              have HLEFT := Lib.hid (fun V h => Left_any w.heap.size g r3 V h)
              rw [hL3] at HLEFT
              obtain ⟨sa, sc, hrd3, hsl3⟩ := slice_rest (HU.out.mono HX4.out) (N - L3) (by omega)
              have hcast : (N : Int) - (L3 : Int) = ((N - L3 : Nat) : Int) := by omega
              have hsl4 : ∀ W, (Instr.slice 24 (.slice ao N cap) (some (.int .i64 ((N : Int) - (L3 : Int)))) none none).run Try.prog W = .ok (.slice sa (N - (N - L3)) sc) W := by
                rw [hcast]
                exact hsl3
              have HRD3 := Lib.hid (show Rd w4 (.slice sa (N - (N - L3)) sc) r3 by
                have e : b.drop (N - L3) = r3 := by
                  rw [← HN.out, ← HL3.out, HD3.out]
                  exact drop_rest b _
                rw [← e]
                exact hrd3)
              clear hrd3 hsl3 hL3 hcast
              go_wp2_with fail
              refine (Bad_any _ g r3 false w4 HR4.out).mono ?_
              rintro e w5 ⟨rfl, rfl⟩
              go_wp2_with fail
              refine (HLEFT.out w4 HR4.out).mono ?_
              rintro e w5 ⟨rfl, rfl⟩
              go_wp2_with fail
              refine (pUnpack8_any _ r3 (n : Int) (wd : Int) w4 HRD3.out (by have := HL3.out; omega) (by omega) (by omega)).mono ?_
              rintro e w5 ⟨v5, rfl, ho5, hx5⟩
              have HX5 := Lib.hid (Ext.trans HX4.out hx5)
              have HUL := Lib.hid (unpack_len (r := r3) (n := n) (wd := wd) (by omega) (by omega))
              cases hpu : (unpackS r3 (n : Int) (wd : Int)) with | mk ms er => ?_
              rw [hpu] at ho5 HUL
              simp only at ho5 ⊢
              by_cases her : er = 0
              · subst her
                have hlm : ms.length = n := by
                  rcases HUL.out with h | h
                  · exact h.2
                  · exact absurd (congrArg Prod.snd h) (show ¬ (0 : Int) = 6 by decide)
                have HMS := Lib.hid (show ∀ l, IsFrame b l → backL z ms = l from fun l hl => by
                  obtain ⟨p1, p2, p3⟩ := HPT.out l hl
                  rw [hpu] at p3
                  have p4 : ms = moreS l := congrArg Prod.fst p3
                  rw [HZ.out] at p1
                  rw [p4, p1]
                  exact backL_more hl.1)
                have HLM := Lib.hid hlm
                obtain ⟨mo, mc, rfl, hm1, hm2, hmat⟩ := RdV.cellsAt (RdV.of_owns ho5)
                have HAT := Lib.hid hmat
                rw [List.length_map] at hm1 ⊢
                rw [hlm] at hm1 ⊢
                unfold maxLen at hm2
                have HBL := Lib.hid (show (backL z ms).length = n by unfold backL; rw [List.length_map]; exact hlm)
                obtain ⟨w0, hmk, hown, hext⟩ := make_ints w5 n (by omega)
                have HX0 := Lib.hid (Ext.trans HX5.out hext)
                have HGE := Lib.hid (show w.heap.size ≤ w5.heap.size from HX5.out.size)
                have HX50 := Lib.hid hext
                obtain ⟨G, hG⟩ : ∃ G, w5.heap.size = G := ⟨_, rfl⟩
                have HGG := Lib.hid hG
                rw [hG] at hmk hown HGE
                have HOWN := Lib.hid hown
                clear hpu ho5 hx5 hmat hlm hown hext hG
                go_wp2_with fail
                clear hmk
                go_loopw [57] (fun i wr => ∃ k : Nat, k ≤ n ∧ i = .int .i64 k ∧ wr.ownsRow G 3 1 (.slice (some ⟨G, 0, none⟩) n n) n (((backL z ms).take k ++ List.replicate (n - k) 0).map (Value.int .i64)) ∧ Below w5.heap.size w5 wr) (fun i _ => n - (intOf i).toNat)
                case atStart => exact ⟨0, Nat.zero_le _, rfl, HOWN.out, HX50.out⟩
                case round =>
                  obtain ⟨k, hk, rfl, hown, hx⟩ := hrel
                  have HO := Lib.hid hown
                  have HX := Lib.hid hx
                  clear hown hx
                  by_cases hlt : k < n
                  · have hkl : k < ms.length := by have := HLM.out; omega
                    obtain ⟨y, rfl, hcv⟩ := HAT.out k (uv ms[k]) (by rw [List.getElem?_map, List.getElem?_eq_getElem hkl]; rfl)
                    have hcx := (HX.out.cell (lt_of_cell hcv)).trans hcv
                    unfold uv at hcx
                    have hkB : k < (backL z ms).length := by have := HBL.out; omega
                    have HSN := Lib.hid (set_next (backL z ms) 0 k n hlt HBL.out.symm)
                    have hbe : (backL z ms)[k]'hkB = wrap64 (z + ((ms[k] : Nat) : Int)) := by simp only [backL, List.getElem_map]
                    rw [hbe] at HSN
                    clear hbe
                    generalize ms[k] = x at hcx HSN
                    have HWS := Lib.hid (wrap_sum z x)
                    have hcell := HO.out.cellAt k (by omega)
                    have hfree := HO.out.frozenAt k
                    rw [List.getElem?_map] at hcell
                    obtain ⟨q, hq3⟩ : ∃ q, ((backL z ms).take k ++ List.replicate (n - k) 0)[k]? = some q := ⟨_, List.getElem?_eq_getElem (by rw [List.length_append, List.length_take, List.length_replicate]; have := HBL.out; omega)⟩
                    rw [hq3] at hcell
                    simp only [Option.map_some] at hcell
                    clear hcv hkl hkB hq3
                    go_wp2_with fail
                    go_roundw
                    case rel =>
                      refine ⟨k + 1, by omega, by go_num, ?_, HX.out.trans ((OnlyS.of_onlyP (X := fun b => b = G) (OnlyP.set G k wr _) rfl).below HX.out.size (fun b hb => by rw [hb, HGG.out]; exact Nat.le_refl _))⟩
                      have h := (HO.out.stored k (Value.int .i64 (wrap64 (z + (x : Int))))).1
                      rw [← List.map_set, HSN.out] at h
                      rw [HWS.out]
                      exact h
                    case measure => simp [intOf]; omega
                  · have HFULL := Lib.hid (show (backL z ms).take k ++ List.replicate (n - k) 0 = backL z ms by rw [List.take_of_length_le (by have := HBL.out; omega), show n - k = 0 by omega, List.replicate_zero, List.append_nil])
                    go_wp2_with fail
                    go_ret2
                    refine ⟨backL z ms, 0, ⟨_, rfl, ?_, Ext.trans HX5.out HX.out⟩, .inl rfl, fun L hL => ⟨rfl, HMS.out L hL⟩, by rw [HBL.out]; omega, backL_fits z ms⟩
                    have h := owns_base HO.out HGE.out
                    rw [HFULL.out] at h
                    simp only
                    rw [HBL.out]
                    exact h
              · have HE6 := Lib.hid (show er = 6 by
                  rcases HUL.out with h | h
                  · exact absurd h.1 her
                  · exact congrArg Prod.snd h)
                have HNO := Lib.hid (show ¬ ∃ L, IsFrame b L from (fun ⟨l, hl⟩ => by
                  have h1 := (HPT.out l hl).2.2
                  rw [hpu] at h1
                  exact her (congrArg Prod.snd h1)))
                have hq2 : (er == (0 : Int)) = false := beq_eq_false_iff_ne.2 her
                clear her hpu ho5 hx5
                go_wp2_with fail
                go_ret2
                exact ⟨[], 6, ⟨_, by rw [HE6.out]; rfl, owns_nil _ _ _ _, HX5.out⟩, Reads.no HNO.out⟩

theorem bytesEq_any (u v : Value) (a b : List UInt8) (w : World) (ha : Rd w u a) (hb : Rd w v b) :
    Calls Try.prog 37 #[u, v] w fun e w' => e = .returned (.bool (a == b)) ∧ w = w' := by
  have hs1 := ha.string (P := Try.prog) 24 9 5 Try.underlying24 Try.underlying5 Try.underlying9
  have hs2 := hb.string (P := Try.prog) 24 9 5 Try.underlying24 Try.underlying5 Try.underlying9
  clear ha hb
  go_enter Try.func37, Try.ntmps37
  go_wp2_with fail
  go_ret
  exact ⟨by simp, rfl⟩

set_option maxRecDepth 100000 in
theorem pUnframe8_any (u : Value) (b : List UInt8) (w : World) (hu : Rd w u b) (hb : b.length ≤ 100000) :
    Calls Try.prog 22 #[u] w fun e w' => AnsI w (unframeS b) e w' := by
  have HU := Lib.hid hu
  have HB := Lib.hid hb
  clear hu hb
  go_enter Try.func22, Try.ntmps22
  go_wp2_with fail
  refine (read_any u b w HU.out HB.out).mono ?_
  rintro e w1 ⟨l, er, ⟨v1, rfl, ho1, hx1⟩, hR⟩
  have HO1 := Lib.hid ho1
  have HX1 := Lib.hid hx1
  have HR := Lib.hid hR
  have HU1 := Lib.hid (HU.out.mono hx1)
  clear ho1 hx1
  by_cases her : er = 0
  · have HF := Lib.hid (fun W h => pFrame8_any v1 l W h HR.out.2.2.2 (by have := HR.out.2.2.1; omega))
    have HFS := Lib.hid (show frameS l = (frameB l, 0) by unfold frameS; rw [if_pos HR.out.2.2.1])
    rw [HFS.out] at HF
    subst her
    clear hR
    go_wp2_with fail
    refine (HF.out w1 (RdV.of_owns HO1.out)).mono ?_
    rintro e w2 ⟨v2, rfl, ho2, hx2⟩
    have HRD := Lib.hid (show Rd w2 v2 (frameB l) from RdV.of_owns ho2)
    have HX2 := Lib.hid (Ext.trans HX1.out hx2)
    have HU2 := Lib.hid (HU1.out.mono hx2)
    have HO2 := Lib.hid (owns_later HO1.out hx2)
    clear ho2 hx2
    go_wp2_with fail
    refine (bytesEq_any v2 u (frameB l) b w2 HRD.out HU2.out).mono ?_
    rintro e w3 ⟨rfl, rfl⟩
    by_cases hc : frameB l = b
    · have HYES := Lib.hid (show unframeS b = (l, 0) from unframe_yes ⟨HR.out.2.2.2, HR.out.2.2.1, hc⟩)
      rw [show (frameB l == b) = true from beq_iff_eq.2 hc]
      go_wp2_with fail
      go_ret2
      exact ⟨_, by rw [HYES.out]; rfl, by rw [HYES.out]; exact HO2.out, HX2.out⟩
    · have HNO := Lib.hid (show unframeS b = ([], 6) from unframe_no (fun ⟨L, hL⟩ => hc (by rw [(HR.out.2.1 L hL).2]; exact hL.2.2)))
      rw [show (frameB l == b) = false from beq_eq_false_iff_ne.2 hc]
      go_wp2_with fail
      go_ret2
      exact ⟨_, by rw [HNO.out]; rfl, by rw [HNO.out]; exact owns_nil _ _ _ _, HX2.out⟩
  · have HE6 := Lib.hid (show er = 6 from hR.1.elim (fun h => absurd h her) (fun h => h.1))
    have HNO := Lib.hid (show unframeS b = ([], 6) from unframe_no (fun ⟨L, hL⟩ => her (hR.2.1 L hL).1))
    have hq2 : (er == (0 : Int)) = false := beq_eq_false_iff_ne.2 her
    clear her hR
    go_wp2_with fail
    go_ret2
    exact ⟨_, by rw [HNO.out, HE6.out]; rfl, by rw [HNO.out]; exact owns_nil _ _ _ _, HX1.out⟩

end Go.Proofs.Ytgfgmgekkmaipaa
