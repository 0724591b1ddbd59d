/-
  The walk of the law PursePlays.
-/
import Derived.Test.YtcokdkhfnlhnlaaPurseNever
namespace Go.Proofs.Ytcokdkhfnlhnlaa
open Go.RowKit Go.BigFrame

/-- The two purses' blocks. -/
def PQ (p q : Nat) : Nat → Prop := fun b => b = p ∨ b = q

theorem cell_pq {p q g : Nat} {w w' : World} {i : Nat} {u : Value} (ho : OnlyS (PQ p q) w w') (hc : w.cell? ⟨g, i, none⟩ = some u) (hp : g ≠ p) (hq : g ≠ q) : w'.cell? ⟨g, i, none⟩ = some u :=
  ho.cell hc (fun h => by rcases h with h | h; exact hp h; exact hq h)
theorem later_pq {p q g : Nat} {w : World} {i : Nat} {u : Value} (hc : w.cell? ⟨g, i, none⟩ = some u) (hp : g ≠ p) (hq : g ≠ q) : ∀ z : Later (OnlyS (PQ p q)) w, z.val.cell? ⟨g, i, none⟩ = some u :=
  fun z => cell_pq z.ext hc hp hq
theorem later_ext {g : Nat} {w : World} {i : Nat} {u : Value} (hc : w.cell? ⟨g, i, none⟩ = some u) : ∀ z : Later Ext w, z.val.cell? ⟨g, i, none⟩ = some u :=
  fun z => (z.ext.cell (lt_of_cell hc)).trans hc

set_option maxRecDepth 100000 in
set_option maxHeartbeats 4000000 in
theorem pursePlays_walk (most : Int) (u : Value) (l : List (Bool × Int)) (w : World) (hm : -9223372036854775808 ≤ most ∧ most ≤ 9223372036854775807) (hu : RdPays w u l) (hf : ∀ a ∈ l, -9223372036854775808 ≤ a.2 ∧ a.2 ≤ 9223372036854775807) :
    Calls Try.prog 3 #[.int .i64 most, u] w fun e w' => e = .returned (.bool true) ∧ Below w.heap.size w w' := by
  obtain ⟨ao, cap, rfl, hcap, hmax, hat⟩ := hu
  have HAT := Lib.hid hat
  have HF := Lib.hid hf
  unfold maxLen at hmax
  obtain ⟨N, hN⟩ : ∃ N, l.length = N := ⟨_, rfl⟩
  have HN := Lib.hid hN
  rw [hN] at hcap ⊢
  clear hat hN hf
  go_enter Try.func3, Try.ntmps3
  go_wp2_with fail
  refine (shown6_any _).mono ?_
  rintro e w1 ⟨rfl, hx1⟩
  have HX1 := Lib.hid hx1
  clear hx1
  go_wp2_with fail
  refine (purNew_any most w1 hm).mono ?_
  rintro e w2 hN
  unfold PurNewed at hN
  rcases hN with ⟨hm0, hm1, p, rfl, hp, hp0, hx⟩ | ⟨hbad, rfl, hx⟩
  · have HP2 := Lib.hid hp
    have HX2 := Lib.hid (Ext.trans HX1.out hx)
    have HP0 := Lib.hid (show w.heap.size ≤ p by have := HX1.out.size; omega)
    clear hp hx hp0
    go_wp2_with fail
    refine (refPNew_any most w2 hm).mono ?_
    rintro e w3 hN
    unfold PurNewed at hN
    rcases hN with ⟨_, _, q, rfl, hq, hq0, hx⟩ | ⟨hbad, _, _⟩
    · have HPA := Lib.hid (HP2.out.ext hx)
      have HQA := Lib.hid hq
      have HX3 := Lib.hid (Ext.trans HX2.out hx)
      have HQ0 := Lib.hid (show w.heap.size ≤ q by have := HX2.out.size; omega)
      have HPQ := Lib.hid (show p ≠ q by have := HP2.out.lt; omega)
      have HPL := Lib.hid (HP2.out.ext hx).lt
      have HQL := Lib.hid hq.lt
      clear hq hx hq0
      have HB := Lib.hid (fun (W : World) (h : OnlyS (PQ p q) w3 W) => (show Below w.heap.size w W from Below.trans HX3.out (h.below HX3.out.size (fun b hb => by
        rcases hb with hb | hb
        · rw [hb]; exact HP0.out
        · rw [hb]; exact HQ0.out))))
      go_wp2_with fail
      go_loopw [45] (fun i wr => ∃ (j : Nat) (s : Pu), j ≤ N ∧ j ≤ 300 ∧ i = .int .i64 j ∧ PurS wr p s ∧ PurS wr q s ∧ OnlyS (PQ p q) w3 wr) (fun i _ => N - (intOf i).toNat)
      case atStart => exact ⟨0, _, Nat.zero_le _, Nat.zero_le _, rfl, HPA.out, HQA.out, OnlyS.refl _ _⟩
      case round =>
        obtain ⟨j, s, hj, hj3, rfl, hp, hq, ho⟩ := hrel
        have HP := Lib.hid hp
        have HQ := Lib.hid hq
        have HO := Lib.hid ho
        clear hp hq ho
        by_cases hlt : j < N
        · have hjl : j < l.length := by have := HN.out; omega
          obtain ⟨g, off, rfl, ha, hb⟩ := HAT.out j hjl
          have hca := ((HB.out _ HO.out).cell (lt_of_cell ha)).trans ha
          have hcb := ((HB.out _ HO.out).cell (lt_of_cell hb)).trans hb
          obtain ⟨hf0, hf1⟩ := HF.out l[j] (List.getElem_mem hjl)
          generalize l[j] = a at hca hcb hf0 hf1
          obtain ⟨ab, an⟩ := a
          simp only at hca hcb hf0 hf1
          clear ha hb hjl
          by_cases h300 : j = 300
          · subst h300
            cases ab with
            | true =>
              go_wp2_with fail
              go_ret
              exact ⟨rfl, HB.out _ (HO.out.trans (OnlyS.of_ext (ext_new wr _)) (fun _ _ h => h))⟩
            | false =>
              go_wp2_with fail
              go_ret
              exact ⟨rfl, HB.out _ (HO.out.trans (OnlyS.of_ext (ext_new wr _)) (fun _ _ h => h))⟩
          · have hj300 : j < 300 := by omega
            clear h300
            have HOK := Lib.hid HP.out.ok
            cases ab with
            | true =>
              obtain ⟨W, hW⟩ : ∃ W : World, W = wr.alloc (.cells #[.bool true, .int .i64 an] 32) := ⟨_, rfl⟩
              have HXW := Lib.hid (show Ext wr W from by rw [hW]; exact ext_new wr _)
              have HCW := Lib.hid (show W.cell? ⟨wr.heap.size, 1, none⟩ = some (.int .i64 an) from by rw [hW]; exact new_at wr [.bool true, .int .i64 an] 32 1 _ rfl)
              have HNE := Lib.hid (show wr.heap.size ≠ p ∧ wr.heap.size ≠ q from by have := HPL.out; have := HQL.out; have := HO.out.size; omega)
              obtain ⟨T, hT⟩ : ∃ T, giveP s an = T := ⟨_, rfl⟩
              have HT := Lib.hid hT
              clear hT
              go_wp2_with fail
              rw [← hW]
              clear hW hca hcb
              have hz := later_pq (p := p) (q := q) (cell_pq (OnlyS.of_ext (X := PQ p q) (Ext.drew W)) HCW.out HNE.out.1 HNE.out.2) HNE.out.1 HNE.out.2
              refine wp_region_segs (OnlyS (PQ p q)) (OnlyS.keeps _) [([0, 1, 2, 4, 5, 6], some 3), ([], some 7), ([8, 9], none)] (by kernel_rfl) (by kernel_rfl) (fun c a a' w e h => (by exact ⟨e ▸ h.1, h.2⟩)) ?_
              simp only [pickSegs, pickOps, List.map_cons, List.map_nil, Option.map_some, Option.map_none, Option.getD_some, List.getElem?_toArray, List.getElem?_cons_zero, List.getElem?_cons_succ]
              refine wpSegs_some fun K hK => ?_
              repeat go_big_quiet_step (fail)
              refine wpQuiet_nil ?_
              clear hz
              go_wp2_with fail
              refine (purGive_any an ((HP.out.ext HXW.out).ext (Ext.drew W)) ⟨hf0, hf1⟩).mono ?_
              rintro e w5 ⟨rfl, hp, ho⟩
              rw [HT.out] at hp ⊢
              have HP5 := Lib.hid hp
              have HQ5 := Lib.hid (((HQ.out.ext HXW.out).ext (Ext.drew W)).onlyP ho (Ne.symm HPQ.out))
              have HO5 := Lib.hid (OnlyS.of_onlyP (X := PQ p q) ho (.inl rfl))
              clear hp ho
              go_wp2_with fail
              refine ⟨HO5.out, hK _ _ ?_⟩
              clear hK K
              refine wpSegs_some fun K hK => ?_
              refine wpQuiet_nil ?_
              go_wp2_with fail
              refine (refGive_any an HQ5.out ⟨hf0, hf1⟩).mono ?_
              rintro e w6 ⟨rfl, hq, ho⟩
              rw [HT.out] at hq ⊢
              have HQ6 := Lib.hid hq
              have HP6 := Lib.hid (HP5.out.onlyP ho HPQ.out)
              have HO6 := Lib.hid (OnlyS.of_onlyP (X := PQ p q) ho (.inr rfl))
              clear hq ho
              go_wp2_with fail
              refine ⟨HO6.out, hK _ _ ?_⟩
              clear hK K
              have hrr : (T.1 == T.1) = true := beq_self_eq_true _
              refine wpSegs_none ?_
              repeat go_big_quiet_step (fail)
              refine wpQuiet_nil (wpSegs_nil ?_)
              clear hrr
              have HO7 := Lib.hid (HO.out.trans ((OnlyS.of_ext (X := PQ p q) (Ext.trans HXW.out (Ext.drew W))).trans (HO5.out.trans HO6.out (fun _ _ h => h)) (fun _ _ h => h)) (fun _ _ h => h))
              generalize T.2 = s' at HP6 HQ6
              obtain ⟨c0, c1, c2, -, -⟩ := HQ6.out.ext (Ext.drew w6)
              have hz0 := later_ext c0
              have hz1 := later_ext c1
              have hz2 := later_ext c2
              have ⟨o1, o2, o3, o4, o5⟩ := HQ6.out.ok
              clear c0 c1 c2
              go_wp2_with fail
              refine wp_region_segs Ext Ext.keeps [([0, 1, 2, 3, 5, 6, 7, 8], some 4), ([9, 10, 11, 12, 14, 15, 16, 17], some 13), ([18, 19, 20, 21, 23, 24, 25, 26, 27, 28, 29, 30, 31], some 22), ([32, 33], none)] (by kernel_rfl) (by kernel_rfl) (fun c a a' w e h => (by exact ⟨e ▸ h.1, h.2⟩)) ?_
              simp only [pickSegs, pickOps, List.map_cons, List.map_nil, Option.map_some, Option.map_none, Option.getD_some, List.getElem?_toArray, List.getElem?_cons_zero, List.getElem?_cons_succ]
              refine wpSegs_some fun K hK => ?_
              repeat go_big_quiet_step (fail)
              refine wpQuiet_nil ?_
              go_wp2_with fail
              refine (purNow_any (HP6.out.ext (Ext.drew w6))).mono ?_
              rintro e w8 ⟨rfl, rfl⟩
              go_wp2_with fail
              refine ⟨Ext.keeps.refl _, hK _ _ ?_⟩
              clear hK K
              have hs1 : (s'.now == s'.now) = true := beq_self_eq_true _
              refine wpSegs_some fun K hK => ?_
              repeat go_big_quiet_step (fail)
              refine wpQuiet_nil ?_
              clear hs1
              go_wp2_with fail
              refine (purPeak_any (HP6.out.ext (Ext.drew w6))).mono ?_
              rintro e w8 ⟨rfl, rfl⟩
              go_wp2_with fail
              refine ⟨Ext.keeps.refl _, hK _ _ ?_⟩
              clear hK K
              have hs2 : (s'.peak == s'.peak) = true := beq_self_eq_true _
              refine wpSegs_some fun K hK => ?_
              repeat go_big_quiet_step (fail)
              refine wpQuiet_nil ?_
              clear hs2
              go_wp2_with fail
              refine (purLeft_any (HP6.out.ext (Ext.drew w6))).mono ?_
              rintro e w8 ⟨rfl, hx8⟩
              have HX8 := Lib.hid hx8
              clear hx8
              go_wp2_with fail
              refine ⟨HX8.out, hK _ _ ?_⟩
              clear hK K
              have hs3 : ((s'.most - s'.now) == (s'.most - s'.now)) = true := beq_self_eq_true _
              refine wpSegs_none ?_
              repeat go_big_quiet_step (fail)
              refine wpQuiet_nil (wpSegs_nil ?_)
              clear hs3 hz0 hz1 hz2
              go_wp2_with fail
              go_roundw
              case rel => exact ⟨j + 1, s', by omega, by omega, by go_num, HP6.out.ext (Ext.trans (Ext.drew w6) HX8.out), HQ6.out.ext (Ext.trans (Ext.drew w6) HX8.out), HO7.out.trans (OnlyS.of_ext (Ext.trans (Ext.drew w6) HX8.out)) (fun _ _ h => h)⟩
              case measure => simp [intOf]; omega
            | false =>
              obtain ⟨W, hW⟩ : ∃ W : World, W = wr.alloc (.cells #[.bool false, .int .i64 an] 32) := ⟨_, rfl⟩
              have HXW := Lib.hid (show Ext wr W from by rw [hW]; exact ext_new wr _)
              have HCW := Lib.hid (show W.cell? ⟨wr.heap.size, 1, none⟩ = some (.int .i64 an) from by rw [hW]; exact new_at wr [.bool false, .int .i64 an] 32 1 _ rfl)
              have HNE := Lib.hid (show wr.heap.size ≠ p ∧ wr.heap.size ≠ q from by have := HPL.out; have := HQL.out; have := HO.out.size; omega)
              obtain ⟨T, hT⟩ : ∃ T, takeP s an = T := ⟨_, rfl⟩
              have HT := Lib.hid hT
              clear hT
              go_wp2_with fail
              rw [← hW]
              clear hW hca hcb
              have hz := later_pq (p := p) (q := q) (cell_pq (OnlyS.of_ext (X := PQ p q) (Ext.drew W)) HCW.out HNE.out.1 HNE.out.2) HNE.out.1 HNE.out.2
              refine wp_region_segs (OnlyS (PQ p q)) (OnlyS.keeps _) [([0, 1, 2, 4, 5, 6], some 3), ([], some 7), ([8, 9], none)] (by kernel_rfl) (by kernel_rfl) (fun c a a' w e h => (by exact ⟨e ▸ h.1, h.2⟩)) ?_
              simp only [pickSegs, pickOps, List.map_cons, List.map_nil, Option.map_some, Option.map_none, Option.getD_some, List.getElem?_toArray, List.getElem?_cons_zero, List.getElem?_cons_succ]
              refine wpSegs_some fun K hK => ?_
              repeat go_big_quiet_step (fail)
              refine wpQuiet_nil ?_
              clear hz
              go_wp2_with fail
              refine (purTake_any an ((HP.out.ext HXW.out).ext (Ext.drew W)) ⟨hf0, hf1⟩).mono ?_
              rintro e w5 ⟨rfl, hp, ho⟩
              rw [HT.out] at hp ⊢
              have HP5 := Lib.hid hp
              have HQ5 := Lib.hid (((HQ.out.ext HXW.out).ext (Ext.drew W)).onlyP ho (Ne.symm HPQ.out))
              have HO5 := Lib.hid (OnlyS.of_onlyP (X := PQ p q) ho (.inl rfl))
              clear hp ho
              go_wp2_with fail
              refine ⟨HO5.out, hK _ _ ?_⟩
              clear hK K
              refine wpSegs_some fun K hK => ?_
              refine wpQuiet_nil ?_
              go_wp2_with fail
              refine (refTake_any an HQ5.out ⟨hf0, hf1⟩).mono ?_
              rintro e w6 ⟨rfl, hq, ho⟩
              rw [HT.out] at hq ⊢
              have HQ6 := Lib.hid hq
              have HP6 := Lib.hid (HP5.out.onlyP ho HPQ.out)
              have HO6 := Lib.hid (OnlyS.of_onlyP (X := PQ p q) ho (.inr rfl))
              clear hq ho
              go_wp2_with fail
              refine ⟨HO6.out, hK _ _ ?_⟩
              clear hK K
              have hrr : (T.1 == T.1) = true := beq_self_eq_true _
              refine wpSegs_none ?_
              repeat go_big_quiet_step (fail)
              refine wpQuiet_nil (wpSegs_nil ?_)
              clear hrr
              have HO7 := Lib.hid (HO.out.trans ((OnlyS.of_ext (X := PQ p q) (Ext.trans HXW.out (Ext.drew W))).trans (HO5.out.trans HO6.out (fun _ _ h => h)) (fun _ _ h => h)) (fun _ _ h => h))
              generalize T.2 = s' at HP6 HQ6
              obtain ⟨c0, c1, c2, -, -⟩ := HQ6.out.ext (Ext.drew w6)
              have hz0 := later_ext c0
              have hz1 := later_ext c1
              have hz2 := later_ext c2
              have ⟨o1, o2, o3, o4, o5⟩ := HQ6.out.ok
              clear c0 c1 c2
              go_wp2_with fail
              refine wp_region_segs Ext Ext.keeps [([0, 1, 2, 3, 5, 6, 7, 8], some 4), ([9, 10, 11, 12, 14, 15, 16, 17], some 13), ([18, 19, 20, 21, 23, 24, 25, 26, 27, 28, 29, 30, 31], some 22), ([32, 33], none)] (by kernel_rfl) (by kernel_rfl) (fun c a a' w e h => (by exact ⟨e ▸ h.1, h.2⟩)) ?_
              simp only [pickSegs, pickOps, List.map_cons, List.map_nil, Option.map_some, Option.map_none, Option.getD_some, List.getElem?_toArray, List.getElem?_cons_zero, List.getElem?_cons_succ]
              refine wpSegs_some fun K hK => ?_
              repeat go_big_quiet_step (fail)
              refine wpQuiet_nil ?_
              go_wp2_with fail
              refine (purNow_any (HP6.out.ext (Ext.drew w6))).mono ?_
              rintro e w8 ⟨rfl, rfl⟩
              go_wp2_with fail
              refine ⟨Ext.keeps.refl _, hK _ _ ?_⟩
              clear hK K
              have hs1 : (s'.now == s'.now) = true := beq_self_eq_true _
              refine wpSegs_some fun K hK => ?_
              repeat go_big_quiet_step (fail)
              refine wpQuiet_nil ?_
              clear hs1
              go_wp2_with fail
              refine (purPeak_any (HP6.out.ext (Ext.drew w6))).mono ?_
              rintro e w8 ⟨rfl, rfl⟩
              go_wp2_with fail
              refine ⟨Ext.keeps.refl _, hK _ _ ?_⟩
              clear hK K
              have hs2 : (s'.peak == s'.peak) = true := beq_self_eq_true _
              refine wpSegs_some fun K hK => ?_
              repeat go_big_quiet_step (fail)
              refine wpQuiet_nil ?_
              clear hs2
              go_wp2_with fail
              refine (purLeft_any (HP6.out.ext (Ext.drew w6))).mono ?_
              rintro e w8 ⟨rfl, hx8⟩
              have HX8 := Lib.hid hx8
              clear hx8
              go_wp2_with fail
              refine ⟨HX8.out, hK _ _ ?_⟩
              clear hK K
              have hs3 : ((s'.most - s'.now) == (s'.most - s'.now)) = true := beq_self_eq_true _
              refine wpSegs_none ?_
              repeat go_big_quiet_step (fail)
              refine wpQuiet_nil (wpSegs_nil ?_)
              clear hs3 hz0 hz1 hz2
              go_wp2_with fail
              go_roundw
              case rel => exact ⟨j + 1, s', by omega, by omega, by go_num, HP6.out.ext (Ext.trans (Ext.drew w6) HX8.out), HQ6.out.ext (Ext.trans (Ext.drew w6) HX8.out), HO7.out.trans (OnlyS.of_ext (Ext.trans (Ext.drew w6) HX8.out)) (fun _ _ h => h)⟩
              case measure => simp [intOf]; omega
        · go_wp2_with fail
          go_ret
          exact ⟨rfl, HB.out _ HO.out⟩
    · exact absurd ⟨hm0, hm1⟩ hbad
  · have HX2 := Lib.hid (Ext.trans HX1.out hx)
    clear hx
    go_wp2_with fail
    refine (refPNew_any most w2 hm).mono ?_
    rintro e w3 hN
    unfold PurNewed at hN
    rcases hN with ⟨h0, h1, _⟩ | ⟨_, rfl, hx3⟩
    · exact absurd ⟨h0, h1⟩ hbad
    · have HX3 := Lib.hid (Ext.trans HX2.out hx3)
      clear hx3
      go_wp2_with fail
      go_ret
      exact ⟨rfl, HX3.out⟩

end Go.Proofs.Ytcokdkhfnlhnlaa
