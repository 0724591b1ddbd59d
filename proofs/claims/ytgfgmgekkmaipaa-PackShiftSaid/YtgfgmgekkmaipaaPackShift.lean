/-
  The walk of the law PackShift.
-/
import Derived.Test.YtgfgmgekkmaipaaPackRound
import Derived.Test.YtgfgmgekkmaipaaApart
namespace Go.Proofs.Ytgfgmgekkmaipaa
open Go.ChangeAt Go.RowKit Go.BigFrame

def shA (z : Int) : Int := z.tmod 1001
def shB (by' z : Int) : Int := z.tmod 1001 + by'
theorem shA_bounds (z : Int) : -1000 ≤ shA z ∧ shA z ≤ 1000 := by
  unfold shA
  have h1 := Int.tmod_lt_of_pos z (show (0 : Int) < 1001 by decide)
  have h2 : -1001 < z.tmod 1001 := Int.lt_tmod_of_pos z (by decide)
  omega
theorem least_shift (k : Int) : ∀ (l : List Int), l ≠ [] → leastS (l.map (· + k)) = leastS l + k
  | [], h => absurd rfl h
  | [x], _ => rfl
  | x :: y :: t, _ => by
    have ih : leastS ((y + k) :: t.map (· + k)) = leastS (y :: t) + k := least_shift k (y :: t) (by simp)
    rw [List.map_cons, List.map_cons, leastS_cons2, leastS_cons2, ih]
    omega
theorem more_shift (k : Int) (l : List Int) : moreS (l.map (· + k)) = moreS l := by
  by_cases h : l = []
  · subst h; rfl
  · unfold moreS
    rw [List.map_map, least_shift k l h]
    refine List.map_congr_left fun x _ => ?_
    simp only [Function.comp_apply]
    congr 1
    omega
theorem frame_shift (k : Int) (l : List Int) : (frameB l).length ≤ (frameB (l.map (· + k))).length + 9 ∧ (frameB (l.map (· + k))).length ≤ (frameB l).length + 9 := by
  unfold frameB
  rw [more_shift, List.length_map]
  by_cases h : l = []
  · subst h
    simp
  · rw [if_neg h, if_neg (by simpa using h)]
    have h1 := enc_length (zig (leastS l))
    have h2 := enc_length (zig (leastS (l.map (· + k))))
    simp only [List.length_append]
    omega

theorem owns_onlyS {X : Nat → Prop} {base : Nat} {e : TypeId} {size : Nat} {w w' : World} {v : Value} {n : Nat} {xs : List Value} (h : w.ownsRow base e size v n xs) (ho : OnlyS X w w') (hx : ∀ k, v.ownBlock = some k → ¬ X k) : w'.ownsRow base e size v n xs := by
  refine ⟨h.1, ?_⟩
  rcases h.2 with h | ⟨g, cap, cur, rfl, h2, h3, h4⟩
  · exact .inl h
  · exact .inr ⟨g, cap, cur, rfl, h2, by rw [ho.block g (Array.getElem?_eq_some_iff.1 h3).1 (hx g rfl)]; exact h3, h4⟩
theorem shB_eq (by' : Int) (l : List Int) : l.map (shB by') = (l.map shA).map (· + by') := by
  rw [List.map_map]
  rfl

theorem i16_bounds {n : Int} (h : (Lit.int .i16 n).wf = true) : -32768 ≤ n ∧ n ≤ 32767 := bounds_i16 h

set_option maxRecDepth 100000 in
set_option maxHeartbeats 4000000 in
theorem packShift_walk (u : Value) (zs : List Int) (by' : Int) (w : World) (hu : RdV w u (zs.map (Value.int .i16))) (hf : ∀ n ∈ zs, (Lit.int .i16 n).wf = true) (hby : -2147483648 ≤ by' ∧ by' ≤ 2147483647) :
    Calls Try.prog 8 #[u, .int .i32 by'] w fun e w' => e = .returned (.bool true) ∧ Below w.heap.size w w' := by
  obtain ⟨i0, hi, hi0, hi1, hi2⟩ := info_parts Try.info_int8
  obtain ⟨ao, cap, rfl, h1, h2, hat⟩ := RdV.cellsAt hu
  rw [List.length_map] at h1 ⊢
  have HAT := Lib.hid hat
  have HF := Lib.hid hf
  obtain ⟨N, hN⟩ : ∃ N, zs.length = N := ⟨_, rfl⟩
  have HN := Lib.hid hN
  unfold maxLen at h2
  rw [hN] at h1 ⊢
  have HFIN := Lib.hid (fun (l : List Int) (k : Int) => frame_shift k l)
  obtain ⟨hb0, hb1⟩ := hby
  clear hu hat hf hN
  go_enter Try.func8, Try.ntmps8
  go_wp2_with fail
  refine (shown8_any w).mono ?_
  rintro e w1 ⟨rfl, hx1⟩
  have HX1 := Lib.hid (show Ext w w1 from hx1)
  clear hx1
  go_wp2_with fail
  go_loopw [6, 7, 19] (fun va vb i wr => ∃ j : Nat, j ≤ N ∧ j ≤ 500 ∧ i = .int .i64 j ∧ wr.ownsRow w1.heap.size 3 1 va ((zs.take j).map shA).length (((zs.take j).map shA).map (Value.int .i64)) ∧ wr.ownsRow w1.heap.size 3 1 vb ((zs.take j).map (shB by')).length (((zs.take j).map (shB by')).map (Value.int .i64)) ∧ (∀ k, va.ownBlock = some k → vb.ownBlock ≠ some k) ∧ Below w1.heap.size w1 wr) (fun _ _ i _ => N - (intOf i).toNat)
  case atStart => exact ⟨0, Nat.zero_le _, Nat.zero_le _, rfl, owns_nil _ _ _ _, owns_nil _ _ _ _, fun k hk => (by cases hk), Below.refl _ _⟩
  case round =>
    obtain ⟨j, hj, hj5, rfl, hoa, hob, hd, hx⟩ := hrel
    have HA := Lib.hid hoa
    have HB := Lib.hid hob
    have HD := Lib.hid hd
    have HX := Lib.hid hx
    clear hoa hob hd hx
    by_cases hlt : j < N
    · have hjl : j < zs.length := by have := HN.out; omega
      obtain ⟨y, rfl, hcv⟩ := HAT.out j (.int .i16 zs[j]) (by rw [List.getElem?_map, List.getElem?_eq_getElem hjl]; rfl)
      have hcx := (HX.out.cell (Nat.lt_of_lt_of_le (lt_of_cell hcv) HX1.out.size)).trans ((HX1.out.cell (lt_of_cell hcv)).trans hcv)
      have HST := Lib.hid (List.take_succ_eq_append_getElem hjl)
      obtain ⟨hz0, hz1⟩ := i16_bounds (HF.out zs[j] (List.getElem_mem hjl))
      generalize zs[j] = z at hcx HST hz0 hz1
      clear hcv hjl
      by_cases h500 : j = 500
      · have hj500 : 500 ≤ j := by omega
        clear h500
        have HLA := Lib.hid (show ((zs.take j).map shA).length ≤ 500 by rw [List.length_map, List.length_take]; omega)
        have HEB := Lib.hid (shB_eq by' (zs.take j))
        have HBA := Lib.hid (show ∀ x ∈ (zs.take j).map shA, -1000 ≤ x ∧ x ≤ 1000 from fun x hx => by
          obtain ⟨z, _, rfl⟩ := List.mem_map.1 hx
          exact shA_bounds z)
        have hoa := HA.out
        have hob := HB.out
        rw [HEB.out] at hob
        obtain ⟨xo, xc, rfl, hxc1, hxc2⟩ := own_shapeP hoa
        obtain ⟨yo, yc, rfl, hyc1, hyc2⟩ := own_shapeP hob
        have HRA := Lib.hid (RdV.of_owns hoa)
        have HRB := Lib.hid (RdV.of_owns hob)
        clear hoa hob HA HB HD HEB
        generalize (zs.take j).map shA = A at HRA HRB HLA HBA ⊢
        have HBB := Lib.hid (show ∀ x ∈ A.map (· + by'), -9223372036854775808 ≤ x ∧ x ≤ 9223372036854775807 from fun x hx => by
          obtain ⟨z, hz, rfl⟩ := List.mem_map.1 hx
          have := HBA.out z hz
          omega)
        have HLB := Lib.hid (show (A.map (· + by')).length ≤ 500 by rw [List.length_map]; exact HLA.out)
        have HFA := Lib.hid (show frameS A = (frameB A, 0) by unfold frameS; rw [if_pos (by have := HLA.out; omega)])
        have HFB := Lib.hid (show frameS (A.map (· + by')) = (frameB (A.map (· + by')), 0) by unfold frameS; rw [if_pos (by have := HLB.out; omega)])
        have HUB := Lib.hid (show unframeS (frameB (A.map (· + by'))) = (A.map (· + by'), 0) from unframe_yes ⟨HBB.out, by have := HLB.out; omega, rfl⟩)
        have hfin := HFIN.out A by'
        have hl1 := frameB_len A (by have := HLA.out; omega)
        have hl2 := frameB_len (A.map (· + by')) (by have := HLB.out; omega)
        have HXW := Lib.hid (Ext.trans HX1.out HX.out)
        generalize A.map (· + by') = B at HRB HBB HLB HFB HUB hfin hl2 ⊢
        go_wp2_with fail
        refine (pFrame8_any _ A _ HRA.out (fun x hx => by have := HBA.out x hx; omega) (by have := HLA.out; omega)).mono ?_
        rintro e w2 ⟨v2, rfl, ho2, hx2⟩
        rw [HFA.out] at ho2 ⊢
        obtain ⟨po, pc, rfl, hp1, hp2⟩ := own_shapeP ho2
        have HX2 := Lib.hid hx2
        simp only at hp1 ⊢
        obtain ⟨LA, hLA⟩ : ∃ LA, (frameB A).length = LA := ⟨_, rfl⟩
        rw [hLA] at hfin hl1 hp1 ⊢
        clear ho2 hx2 hLA
        go_wp2_with fail
        refine (pFrame8_any _ B w2 (HRB.out.mono HX2.out) HBB.out (by have := HLB.out; omega)).mono ?_
        rintro e w3 ⟨v3, rfl, ho3, hx3⟩
        rw [HFB.out] at ho3 ⊢
        have HR3 := Lib.hid (show Rd w3 v3 (frameB B) from RdV.of_owns ho3)
        obtain ⟨qo, qc, rfl, hq1, hq2⟩ := own_shapeP ho3
        have HX3 := Lib.hid (Ext.trans HX2.out hx3)
        simp only at hq1 ⊢
        have HL3 := Lib.hid hl2
        obtain ⟨LB, hLB⟩ : ∃ LB, (frameB B).length = LB := ⟨_, rfl⟩
        rw [hLB] at hfin hl2 hq1 HR3 ⊢
        clear ho3 hx3 hLB
        go_wp2_with fail
        refine (pUnframe8_any _ (frameB B) w3 HR3.out (by have := HL3.out; omega)).mono ?_
        rintro e w4 ⟨v4, rfl, ho4, hx4⟩
        rw [HUB.out] at ho4 ⊢
        have HR4 := Lib.hid (RdV.of_owns ho4)
        have HX4 := Lib.hid (Ext.trans HX3.out hx4)
        clear ho4 hx4
        go_wp2_with fail
        refine (refInts_any _ _ B B w4 HR4.out (HRB.out.mono HX4.out) (by have := HLB.out; omega) (by have := HLB.out; omega)).mono ?_
        rintro e w5 ⟨rfl, hx5⟩
        rw [decide_eq_true rfl]
        have HX5 := Lib.hid (Ext.trans HXW.out (Ext.trans HX4.out hx5))
        clear hx5
        obtain ⟨hfa, hfb⟩ := hfin
        go_wp2_with fail
        go_ret
        exact ⟨by simp; try omega, HX5.out⟩
      · have hj500 : j < 500 := by omega
        obtain ⟨hq0, hq1⟩ := shA_bounds z
        unfold shA at hq0 hq1
        have HLA := Lib.hid (show ((zs.take j).map shA).length ≤ 500 by rw [List.length_map, List.length_take]; omega)
        have HLB := Lib.hid (show ((zs.take j).map (shB by')).length ≤ 500 by rw [List.length_map, List.length_take]; omega)
        have HSZ := Lib.hid HX.out.size
        clear h500
        go_wp2_with (at_builtin; first | (refine wpList_append_apart _ rfl (.tmp 32) (.tmp 39) 37 rfl w1.heap.size 3 i0 (.int .i64 0) 1 8 Try.underlying37 hi hi0 hi1 hi2 rfl (by decide) _ _ _ rfl (HB3.out.alloc _) ⟨w3.heap.size, 0, none⟩ 1 1 [_] rfl rfl (row_new _ _ _) (by simp [Value.oneCell']) (by have := HLB.out; unfold maxLen; omega) (by have := HLB.out; omega) (by have := HSZ3.out; simp; omega) ?_; intro v4 w4 hown4 hgrow4 hblk4; have HO4 := Lib.hid hown4; have HG4 := Lib.hid (OnlyS.of_grown hgrow4); have HK4 := Lib.hid hblk4; clear hown4 hgrow4 hblk4) | (go_must (refine wpList_append_apart _ rfl (.tmp 26) (.tmp 30) 37 rfl w1.heap.size 3 i0 (.int .i64 0) 1 8 Try.underlying37 hi hi0 hi1 hi2 rfl (by decide) _ _ _ rfl (HA.out.alloc _) ⟨wr.heap.size, 0, none⟩ 1 1 [_] rfl rfl (row_new _ _ _) (by simp [Value.oneCell']) (by have := HLA.out; unfold maxLen; omega) (by have := HLA.out; omega) (by have := HSZ.out; simp; omega) ?_); intro v3 w3 hown3 hgrow3 hblk3; have HO3 := Lib.hid hown3; have HG3 := Lib.hid (OnlyS.of_grown hgrow3); have HK3 := Lib.hid hblk3; have HB3 := Lib.hid (owns_onlyS (HB.out.alloc _) HG3.out (fun k hk hx => HD.out k hx hk)); have HSZ3 := Lib.hid (show w1.heap.size ≤ w3.heap.size from by have := HSZ.out; have := HG3.out.size; simp at this; omega); clear hown3 hgrow3 hblk3))
        have HD3 := Lib.hid (show ∀ k, v3.ownBlock = some k → u7.ownBlock ≠ some k from fun k hk hb => by
          rcases HK3.out with h | ⟨k', h, hle⟩
          · rw [h] at hk
            exact HD.out k hk hb
          · rw [h] at hk
            cases hk
            have h1 := (HB.out.lt _ hb).2
            simp at hle
            omega)
        have HE3 := Lib.hid (show Below w1.heap.size wr w3 from ((Below.refl w1.heap.size wr).alloc HSZ.out _).trans (HG3.out.below (by have := HSZ.out; simp; omega) (fun b hb => (HA.out.lt b hb).1)))
        have HE4 := Lib.hid (show Below w1.heap.size w3 w4 from ((Below.refl w1.heap.size w3).alloc HSZ3.out _).trans (HG4.out.below (by have := HSZ3.out; simp; omega) (fun b hb => (HB3.out.lt b hb).1)))
        go_roundw
        case rel =>
          refine ⟨j + 1, by omega, by omega, by go_num, ?_, ?_, fun k hk hb => ?_, HX.out.trans (HE3.out.trans HE4.out)⟩
          · have h := owns_onlyS (HO3.out.alloc _) HG4.out (fun k hk hx => HD3.out k hk hx)
            rw [HST.out, List.map_append, List.map_append, List.length_append]
            exact h
          · have h := HO4.out
            rw [HST.out, List.map_append, List.map_append, List.length_append]
            exact h
          · rcases HK4.out with h | ⟨k', h, hle⟩
            · rw [h] at hb
              exact HD3.out k hk hb
            · rw [h] at hb
              cases hb
              have h1 := (HO3.out.lt _ hk).2
              simp at hle
              omega
        case measure => simp [intOf]; omega
    · have hjN : N ≤ j := by omega
      have HLA := Lib.hid (show ((zs.take j).map shA).length ≤ 500 by rw [List.length_map, List.length_take]; omega)
      have HEB := Lib.hid (shB_eq by' (zs.take j))
      have HBA := Lib.hid (show ∀ x ∈ (zs.take j).map shA, -1000 ≤ x ∧ x ≤ 1000 from fun x hx => by
        obtain ⟨z, _, rfl⟩ := List.mem_map.1 hx
        exact shA_bounds z)
      have hoa := HA.out
      have hob := HB.out
      rw [HEB.out] at hob
      obtain ⟨xo, xc, rfl, hxc1, hxc2⟩ := own_shapeP hoa
      obtain ⟨yo, yc, rfl, hyc1, hyc2⟩ := own_shapeP hob
      have HRA := Lib.hid (RdV.of_owns hoa)
      have HRB := Lib.hid (RdV.of_owns hob)
      clear hoa hob HA HB HD HEB
      generalize (zs.take j).map shA = A at HRA HRB HLA HBA ⊢
      have HBB := Lib.hid (show ∀ x ∈ A.map (· + by'), -9223372036854775808 ≤ x ∧ x ≤ 9223372036854775807 from fun x hx => by
        obtain ⟨z, hz, rfl⟩ := List.mem_map.1 hx
        have := HBA.out z hz
        omega)
      have HLB := Lib.hid (show (A.map (· + by')).length ≤ 500 by rw [List.length_map]; exact HLA.out)
      have HFA := Lib.hid (show frameS A = (frameB A, 0) by unfold frameS; rw [if_pos (by have := HLA.out; omega)])
      have HFB := Lib.hid (show frameS (A.map (· + by')) = (frameB (A.map (· + by')), 0) by unfold frameS; rw [if_pos (by have := HLB.out; omega)])
      have HUB := Lib.hid (show unframeS (frameB (A.map (· + by'))) = (A.map (· + by'), 0) from unframe_yes ⟨HBB.out, by have := HLB.out; omega, rfl⟩)
      have hfin := HFIN.out A by'
      have hl1 := frameB_len A (by have := HLA.out; omega)
      have hl2 := frameB_len (A.map (· + by')) (by have := HLB.out; omega)
      have HXW := Lib.hid (Ext.trans HX1.out HX.out)
      generalize A.map (· + by') = B at HRB HBB HLB HFB HUB hfin hl2 ⊢
      go_wp2_with fail
      refine (pFrame8_any _ A _ HRA.out (fun x hx => by have := HBA.out x hx; omega) (by have := HLA.out; omega)).mono ?_
      rintro e w2 ⟨v2, rfl, ho2, hx2⟩
      rw [HFA.out] at ho2 ⊢
      obtain ⟨po, pc, rfl, hp1, hp2⟩ := own_shapeP ho2
      have HX2 := Lib.hid hx2
      simp only at hp1 ⊢
      obtain ⟨LA, hLA⟩ : ∃ LA, (frameB A).length = LA := ⟨_, rfl⟩
      rw [hLA] at hfin hl1 hp1 ⊢
      clear ho2 hx2 hLA
      go_wp2_with fail
      refine (pFrame8_any _ B w2 (HRB.out.mono HX2.out) HBB.out (by have := HLB.out; omega)).mono ?_
      rintro e w3 ⟨v3, rfl, ho3, hx3⟩
      rw [HFB.out] at ho3 ⊢
      have HR3 := Lib.hid (show Rd w3 v3 (frameB B) from RdV.of_owns ho3)
      obtain ⟨qo, qc, rfl, hq1, hq2⟩ := own_shapeP ho3
      have HX3 := Lib.hid (Ext.trans HX2.out hx3)
      simp only at hq1 ⊢
      have HL3 := Lib.hid hl2
      obtain ⟨LB, hLB⟩ : ∃ LB, (frameB B).length = LB := ⟨_, rfl⟩
      rw [hLB] at hfin hl2 hq1 HR3 ⊢
      clear ho3 hx3 hLB
      go_wp2_with fail
      refine (pUnframe8_any _ (frameB B) w3 HR3.out (by have := HL3.out; omega)).mono ?_
      rintro e w4 ⟨v4, rfl, ho4, hx4⟩
      rw [HUB.out] at ho4 ⊢
      have HR4 := Lib.hid (RdV.of_owns ho4)
      have HX4 := Lib.hid (Ext.trans HX3.out hx4)
      clear ho4 hx4
      go_wp2_with fail
      refine (refInts_any _ _ B B w4 HR4.out (HRB.out.mono HX4.out) (by have := HLB.out; omega) (by have := HLB.out; omega)).mono ?_
      rintro e w5 ⟨rfl, hx5⟩
      rw [decide_eq_true rfl]
      have HX5 := Lib.hid (Ext.trans HXW.out (Ext.trans HX4.out hx5))
      clear hx5
      obtain ⟨hfa, hfb⟩ := hfin
      go_wp2_with fail
      go_ret
      exact ⟨by simp; try omega, HX5.out⟩

end Go.Proofs.Ytgfgmgekkmaipaa
