/-
  The walk of the law PurseNever.
-/
import Derived.Test.YtcokdkhfnlhnlaaPurseShown
import Derived.Test.YtcokdkhfnlhnlaaOpenPays
namespace Go.Proofs.Ytcokdkhfnlhnlaa
open Go.RowKit Go.BigFrame

theorem giveP_arms (s : Pu) (n : Int) : (0 ≤ n ∧ n ≤ s.now ∧ giveP s n = (0, ⟨s.most, s.now - n, s.peak⟩)) ∨ (∃ r, (r = 1 ∨ r = 5) ∧ giveP s n = (r, s)) := by
  unfold giveP
  by_cases h1 : n < 0 ∨ s.now < n
  · rw [if_pos h1]; exact .inr ⟨1, .inl rfl, rfl⟩
  · rw [if_neg h1]; exact .inl ⟨by omega, by omega, rfl⟩
theorem takeP_arms (s : Pu) (n : Int) : (0 ≤ n ∧ s.now + n ≤ s.most ∧ takeP s n = (0, ⟨s.most, s.now + n, max s.peak (s.now + n)⟩)) ∨ (∃ r, (r = 1 ∨ r = 5) ∧ takeP s n = (r, s)) := by
  unfold takeP
  by_cases h1 : n < 0
  · rw [if_pos h1]; exact .inr ⟨1, .inl rfl, rfl⟩
  · rw [if_neg h1]
    by_cases h2 : s.most - s.now < n
    · rw [if_pos h2]; exact .inr ⟨5, .inr rfl, rfl⟩
    · rw [if_neg h2]; exact .inl ⟨by omega, by omega, rfl⟩
theorem pay_cell {p g : Nat} {w w' : World} {i : Nat} {u : Value} (ho : OnlyP p w w') (hc : w.cell? ⟨g, i, none⟩ = some u) (hne : g ≠ p) : w'.cell? ⟨g, i, none⟩ = some u :=
  (OnlyS.of_onlyP (X := fun b => b = p) ho rfl).cell hc hne
theorem new_at (w : World) (xs : List Value) (t : TypeId) (i : Nat) (u : Value) (h : xs[i]? = some u) : (w.alloc (.cells xs.toArray t)).cell? ⟨w.heap.size, i, none⟩ = some u := by
  have := row_new w xs t i u h
  rwa [add_at, Nat.zero_add] at this

set_option maxRecDepth 100000 in
set_option maxHeartbeats 4000000 in
theorem purseNever_walk (most : Int) (u : Value) (l : List (Bool × Int)) (w : World) (hm : 0 ≤ most ∧ most ≤ 18446744073709551615) (hu : RdPays w u l) (hf : ∀ a ∈ l, -9223372036854775808 ≤ a.2 ∧ a.2 ≤ 9223372036854775807) :
    Calls Try.prog 4 #[.int .u64 most, u] w fun e w' => e = .returned (.bool true) ∧ Below w.heap.size w w' := by
  obtain ⟨hm0, hm1⟩ := hm
  obtain ⟨n, hn⟩ : ∃ n : Int, n = most % 1048577 := ⟨_, rfl⟩
  have hn0 : 0 ≤ n := by omega
  have hn1 : n ≤ 1048576 := by omega
  obtain ⟨ao, cap, rfl, hcap, hmax, hat⟩ := hu
  have HAT := Lib.hid hat
  have HF := Lib.hid hf
  unfold maxLen at hmax
  obtain ⟨N, hN⟩ : ∃ N, l.length = N := ⟨_, rfl⟩
  have HN := Lib.hid hN
  rw [hN] at hcap ⊢
  have HMOD := Lib.hid hn
  clear hat hN hn hf
  go_enter Try.func4, Try.ntmps4
  go_wp2_with fail
  refine (shown6_any _).mono ?_
  rintro e w1 ⟨rfl, hx1⟩
  have HX1 := Lib.hid hx1
  clear hx1
  go_wp2_with fail
  rw [← HMOD.out]
  refine (purNew_any n w1 (by omega)).mono ?_
  rintro e w2 hN
  unfold PurNewed at hN
  rcases hN with ⟨_, _, p, rfl, hp, hp0, hx⟩ | ⟨h, _, _⟩
  · have HP2 := Lib.hid hp
    have HX2 := Lib.hid (Ext.trans HX1.out hx)
    have HP0 := Lib.hid (show w.heap.size ≤ p by have := HX1.out.size; omega)
    have HPL := Lib.hid hp.lt
    clear hp hx hp0
    have HB := Lib.hid (fun (W : World) (h : OnlyP p w2 W) => (show Below w.heap.size w W from Below.trans HX2.out ((OnlyS.of_onlyP (X := fun b => b = p) h rfl).below HX2.out.size (fun b hb => by rw [hb]; exact HP0.out))))
    go_wp2_with fail
    go_loopw [9, 10, 30] (fun s k i wr => ∃ (j : Nat) (h m : Int), j ≤ N ∧ j ≤ 300 ∧ i = .int .i64 j ∧ s = .int .i64 h ∧ k = .int .i64 m ∧ 0 ≤ h ∧ h ≤ n ∧ h ≤ m ∧ m ≤ n ∧ PurS wr p ⟨n, h, m⟩ ∧ OnlyP p w2 wr) (fun _ _ i _ => N - (intOf i).toNat)
    case atStart => exact ⟨0, 0, 0, Nat.zero_le _, Nat.zero_le _, rfl, rfl, rfl, Int.le_refl _, hn0, Int.le_refl _, hn0, HP2.out, OnlyP.refl _ _⟩
    case round =>
      obtain ⟨j, h, m, hj, hj3, rfl, rfl, rfl, h0, hn', hhm, hmn, hp, ho⟩ := hrel
      have HP := Lib.hid hp
      have HO := Lib.hid ho
      clear hp ho
      by_cases hlt : j < N
      · have hjl : j < l.length := by have := HN.out; omega
        obtain ⟨g, off, rfl, ha, hb⟩ := HAT.out j hjl
        have hca := ((HB.out _ HO.out).cell (lt_of_cell ha)).trans ha
        have hcb := ((HB.out _ HO.out).cell (lt_of_cell hb)).trans hb
        obtain ⟨hf0, hf1⟩ := HF.out l[j] (List.getElem_mem hjl)
        generalize l[j] = a at hca hcb hf0 hf1
        obtain ⟨ab, an⟩ := a
        simp only at hca hcb hf0 hf1
        clear ha hb hjl
        by_cases h300 : j = 300
        · subst h300
          cases ab with
          | true =>
            go_wp2_with fail
            go_ret
            exact ⟨rfl, HB.out _ (HO.out.trans (OnlyP.of_ext (ext_new wr _)))⟩
          | false =>
            go_wp2_with fail
            go_ret
            exact ⟨rfl, HB.out _ (HO.out.trans (OnlyP.of_ext (ext_new wr _)))⟩
        · have hj300 : j < 300 := by omega
          clear h300
          cases ab with
          | true =>
            rcases giveP_arms ⟨n, h, m⟩ an with ⟨hg0, hg1, hg⟩ | ⟨r, hr, hg⟩
            · simp only at hg1
              have HG := Lib.hid hg
              clear hg
              go_wp2_with fail
              obtain ⟨W, hW⟩ : ∃ W : World, W = wr.alloc (.cells #[.bool true, .int .i64 an] 32) := ⟨_, rfl⟩
              rw [← hW]
              have HXW := Lib.hid (show Ext wr W from by rw [hW]; exact ext_new wr _)
              have HCW := Lib.hid (show W.cell? ⟨wr.heap.size, 1, none⟩ = some (.int .i64 an) from by rw [hW]; exact new_at wr [.bool true, .int .i64 an] 32 1 _ rfl)
              have HNE := Lib.hid (show wr.heap.size ≠ p from by have := HPL.out; have := HO.out.size; omega)
              clear hW hca hcb
              refine (purGive_any an (HP.out.ext HXW.out) ⟨hf0, hf1⟩).mono ?_
              rintro e w8 ⟨rfl, hp, ho⟩
              rw [HG.out] at hp ⊢
              simp only at hp
              have HP8 := Lib.hid (show PurS w8 p ⟨n, (h - an), m⟩ from hp)
              have HO8 := Lib.hid (HO.out.trans (OnlyP.trans (OnlyP.of_ext HXW.out) ho))
              have hc8 := pay_cell ho HCW.out HNE.out
              clear hp ho
              have HMX := Lib.hid (show max m (h - an) = m by omega)
              have hz0 : 0 ≤ (h - an) := by omega
              have hz1 : (h - an) ≤ n := by omega
              have hz2 : (h - an) ≤ m := by omega
              have hz3 : m ≤ n := by omega
              go_wp2_with fail
              rw [HMX.out]
              refine (purNow_any HP8.out).mono ?_
              rintro e w9 ⟨rfl, rfl⟩
              have hs1 : ((h - an) == (h - an)) = true := beq_self_eq_true _
              go_wp2_with fail
              refine (purLeft_any HP8.out).mono ?_
              rintro e w9 ⟨rfl, hx9⟩
              have HX9 := Lib.hid hx9
              clear hx9 hs1
              have hs2 : ((n - (h - an)) == (n - (h - an))) = true := beq_self_eq_true _
              go_wp2_with fail
              refine (purPeak_any (HP8.out.ext HX9.out)).mono ?_
              rintro e w10 ⟨rfl, rfl⟩
              clear hs2
              have hs3 : (m == m) = true := beq_self_eq_true _
              go_wp2_with fail
              go_roundw
              case rel => exact ⟨j + 1, (h - an), m, by omega, by omega, by go_num, rfl, rfl, hz0, hz1, hz2, hz3, HP8.out.ext HX9.out, HO8.out.trans (OnlyP.of_ext HX9.out)⟩
              case measure => simp [intOf]; omega
            · have hq : (r == (0 : Int)) = false := by rcases hr with rfl | rfl <;> rfl
              clear hr
              have HG := Lib.hid hg
              clear hg
              go_wp2_with fail
              obtain ⟨W, hW⟩ : ∃ W : World, W = wr.alloc (.cells #[.bool true, .int .i64 an] 32) := ⟨_, rfl⟩
              rw [← hW]
              have HXW := Lib.hid (show Ext wr W from by rw [hW]; exact ext_new wr _)
              have HCW := Lib.hid (show W.cell? ⟨wr.heap.size, 1, none⟩ = some (.int .i64 an) from by rw [hW]; exact new_at wr [.bool true, .int .i64 an] 32 1 _ rfl)
              have HNE := Lib.hid (show wr.heap.size ≠ p from by have := HPL.out; have := HO.out.size; omega)
              clear hW hca hcb
              refine (purGive_any an (HP.out.ext HXW.out) ⟨hf0, hf1⟩).mono ?_
              rintro e w8 ⟨rfl, hp, ho⟩
              rw [HG.out] at hp ⊢
              have HP8 := Lib.hid hp
              have HO8 := Lib.hid (HO.out.trans (OnlyP.trans (OnlyP.of_ext HXW.out) ho))
              have hc8 := pay_cell ho HCW.out HNE.out
              clear hp ho
              have HMX := Lib.hid (show max m h = m by omega)
              have hz0 : 0 ≤ h := by omega
              have hz1 : h ≤ n := by omega
              have hz2 : h ≤ m := by omega
              have hz3 : m ≤ n := by omega
              go_wp2_with fail
              rw [HMX.out]
              refine (purNow_any HP8.out).mono ?_
              rintro e w9 ⟨rfl, rfl⟩
              have hs1 : (h == h) = true := beq_self_eq_true _
              go_wp2_with fail
              refine (purLeft_any HP8.out).mono ?_
              rintro e w9 ⟨rfl, hx9⟩
              have HX9 := Lib.hid hx9
              clear hx9 hs1
              have hs2 : ((n - h) == (n - h)) = true := beq_self_eq_true _
              go_wp2_with fail
              refine (purPeak_any (HP8.out.ext HX9.out)).mono ?_
              rintro e w10 ⟨rfl, rfl⟩
              clear hs2
              have hs3 : (m == m) = true := beq_self_eq_true _
              go_wp2_with fail
              go_roundw
              case rel => exact ⟨j + 1, h, m, by omega, by omega, by go_num, rfl, rfl, hz0, hz1, hz2, hz3, HP8.out.ext HX9.out, HO8.out.trans (OnlyP.of_ext HX9.out)⟩
              case measure => simp [intOf]; omega
          | false =>
            rcases takeP_arms ⟨n, h, m⟩ an with ⟨hg0, hg1, hg⟩ | ⟨r, hr, hg⟩
            · simp only at hg1
              obtain ⟨K, hK⟩ : ∃ K : Int, max m (h + an) = K := ⟨_, rfl⟩
              simp only at hg
              rw [hK] at hg
              have HG := Lib.hid hg
              clear hg
              go_wp2_with fail
              obtain ⟨W, hW⟩ : ∃ W : World, W = wr.alloc (.cells #[.bool false, .int .i64 an] 32) := ⟨_, rfl⟩
              rw [← hW]
              have HXW := Lib.hid (show Ext wr W from by rw [hW]; exact ext_new wr _)
              have HCW := Lib.hid (show W.cell? ⟨wr.heap.size, 1, none⟩ = some (.int .i64 an) from by rw [hW]; exact new_at wr [.bool false, .int .i64 an] 32 1 _ rfl)
              have HNE := Lib.hid (show wr.heap.size ≠ p from by have := HPL.out; have := HO.out.size; omega)
              clear hW hca hcb
              refine (purTake_any an (HP.out.ext HXW.out) ⟨hf0, hf1⟩).mono ?_
              rintro e w8 ⟨rfl, hp, ho⟩
              rw [HG.out] at hp ⊢
              simp only at hp
              have HP8 := Lib.hid (show PurS w8 p ⟨n, (h + an), K⟩ from hp)
              have HO8 := Lib.hid (HO.out.trans (OnlyP.trans (OnlyP.of_ext HXW.out) ho))
              have hc8 := pay_cell ho HCW.out HNE.out
              clear hp ho
              have HMX := Lib.hid (show max m (h + an) = K by omega)
              have hz0 : 0 ≤ (h + an) := by omega
              have hz1 : (h + an) ≤ n := by omega
              have hz2 : (h + an) ≤ K := by omega
              have hz3 : K ≤ n := by omega
              go_wp2_with fail
              refine (purNow_any HP8.out).mono ?_
              rintro e w9 ⟨rfl, rfl⟩
              have hs1 : ((h + an) == (h + an)) = true := beq_self_eq_true _
              go_wp2_with fail
              refine (purLeft_any HP8.out).mono ?_
              rintro e w9 ⟨rfl, hx9⟩
              have HX9 := Lib.hid hx9
              clear hx9 hs1
              have hs2 : ((n - (h + an)) == (n - (h + an))) = true := beq_self_eq_true _
              go_wp2_with fail
              refine (purPeak_any (HP8.out.ext HX9.out)).mono ?_
              rintro e w10 ⟨rfl, rfl⟩
              clear hs2
              have hs3 : (K == K) = true := beq_self_eq_true _
              go_wp2_with fail
              go_roundw
              case rel => exact ⟨j + 1, (h + an), K, by omega, by omega, by go_num, rfl, rfl, hz0, hz1, hz2, hz3, HP8.out.ext HX9.out, HO8.out.trans (OnlyP.of_ext HX9.out)⟩
              case measure => simp [intOf]; omega
            · have hq : (r == (0 : Int)) = false := by rcases hr with rfl | rfl <;> rfl
              clear hr
              have HG := Lib.hid hg
              clear hg
              go_wp2_with fail
              obtain ⟨W, hW⟩ : ∃ W : World, W = wr.alloc (.cells #[.bool false, .int .i64 an] 32) := ⟨_, rfl⟩
              rw [← hW]
              have HXW := Lib.hid (show Ext wr W from by rw [hW]; exact ext_new wr _)
              have HCW := Lib.hid (show W.cell? ⟨wr.heap.size, 1, none⟩ = some (.int .i64 an) from by rw [hW]; exact new_at wr [.bool false, .int .i64 an] 32 1 _ rfl)
              have HNE := Lib.hid (show wr.heap.size ≠ p from by have := HPL.out; have := HO.out.size; omega)
              clear hW hca hcb
              refine (purTake_any an (HP.out.ext HXW.out) ⟨hf0, hf1⟩).mono ?_
              rintro e w8 ⟨rfl, hp, ho⟩
              rw [HG.out] at hp ⊢
              have HP8 := Lib.hid hp
              have HO8 := Lib.hid (HO.out.trans (OnlyP.trans (OnlyP.of_ext HXW.out) ho))
              have hc8 := pay_cell ho HCW.out HNE.out
              clear hp ho
              have HMX := Lib.hid (show max m h = m by omega)
              have hz0 : 0 ≤ h := by omega
              have hz1 : h ≤ n := by omega
              have hz2 : h ≤ m := by omega
              have hz3 : m ≤ n := by omega
              go_wp2_with fail
              rw [HMX.out]
              refine (purNow_any HP8.out).mono ?_
              rintro e w9 ⟨rfl, rfl⟩
              have hs1 : (h == h) = true := beq_self_eq_true _
              go_wp2_with fail
              refine (purLeft_any HP8.out).mono ?_
              rintro e w9 ⟨rfl, hx9⟩
              have HX9 := Lib.hid hx9
              clear hx9 hs1
              have hs2 : ((n - h) == (n - h)) = true := beq_self_eq_true _
              go_wp2_with fail
              refine (purPeak_any (HP8.out.ext HX9.out)).mono ?_
              rintro e w10 ⟨rfl, rfl⟩
              clear hs2
              have hs3 : (m == m) = true := beq_self_eq_true _
              go_wp2_with fail
              go_roundw
              case rel => exact ⟨j + 1, h, m, by omega, by omega, by go_num, rfl, rfl, hz0, hz1, hz2, hz3, HP8.out.ext HX9.out, HO8.out.trans (OnlyP.of_ext HX9.out)⟩
              case measure => simp [intOf]; omega
      · go_wp2_with fail
        go_ret
        exact ⟨rfl, HB.out _ HO.out⟩
  · exact absurd ⟨hn0, by omega⟩ h

end Go.Proofs.Ytcokdkhfnlhnlaa
