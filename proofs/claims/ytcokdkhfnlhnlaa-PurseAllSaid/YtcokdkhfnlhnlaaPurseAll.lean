/-
  The walk of the law PurseAll.
-/
import Derived.Test.YtcokdkhfnlhnlaaPurseShown
import Derived.Test.YtcokdkhfnlhnlaaSlices
namespace Go.Proofs.Ytcokdkhfnlhnlaa
open Go.RowKit Go.BigFrame

theorem all_1 (n : Int) (h : 0 ≤ n) : takeP ⟨n, 0, 0⟩ (n + 1) = (5, ⟨n, 0, 0⟩) := by
  unfold takeP
  rw [if_neg (by omega), if_pos (by simp only; omega)]
theorem all_2 (n : Int) (h : 0 ≤ n) : takeP ⟨n, 0, 0⟩ n = (0, ⟨n, n, n⟩) := by
  unfold takeP
  rw [if_neg (by omega), if_neg (by simp only; omega)]
  simp only [Prod.mk.injEq, Pu.mk.injEq, true_and]
  omega
theorem all_3 (n : Int) : takeP ⟨n, n, n⟩ 1 = (5, ⟨n, n, n⟩) := by
  unfold takeP
  rw [if_neg (by omega), if_pos (by simp only; omega)]
theorem all_4 (n : Int) : takeP ⟨n, n, n⟩ 0 = (0, ⟨n, n, n⟩) := by
  unfold takeP
  rw [if_neg (by omega), if_neg (by simp only; omega)]
  simp only [Prod.mk.injEq, Pu.mk.injEq, true_and]
  omega
theorem all_give (n m k : Int) (h : 0 ≤ k) (hk : k ≤ m) : giveP ⟨n, m, n⟩ k = (0, ⟨n, m - k, n⟩) := by
  unfold giveP
  rw [if_neg (by simp only; omega)]
theorem all_not (n m k : Int) (hk : m < k) : giveP ⟨n, m, n⟩ k = (1, ⟨n, m, n⟩) := by
  unfold giveP
  rw [if_pos (.inr hk)]

set_option maxRecDepth 100000 in
set_option maxHeartbeats 2000000 in
theorem purseAll_walk (most : Int) (u : Value) (l : List UInt8) (w : World) (hm : 0 ≤ most ∧ most ≤ 65535) (hu : Rd w u l) :
    Calls Try.prog 6 #[.int .u16 most, u] w fun e w' => e = .returned (.bool true) ∧ Below w.heap.size w w' := by
  obtain ⟨hm0, hm1⟩ := hm
  obtain ⟨n, hn⟩ : ∃ n : Int, n = most % 2001 := ⟨_, rfl⟩
  have hn0 : 0 ≤ n := by omega
  have hn1 : n ≤ 2000 := by omega
  obtain ⟨ao, cap, rfl, hcap, hmax, hat⟩ := RdV.cellsAt hu
  rw [List.length_map] at hcap ⊢
  have HAT := Lib.hid hat
  unfold maxLen at hmax
  obtain ⟨N, hN⟩ : ∃ N, l.length = N := ⟨_, rfl⟩
  have HN := Lib.hid hN
  rw [hN] at hcap ⊢
  have HMOD := Lib.hid hn
  clear hat hu hN hn
  go_enter Try.func6, Try.ntmps6
  go_wp2_with fail
  refine (shown6_any _).mono ?_
  rintro e w1 ⟨rfl, hx1⟩
  have HX1 := Lib.hid hx1
  clear hx1
  go_wp2_with fail
  rw [← HMOD.out]
  refine (purNew_any n w1 (by omega)).mono ?_
  rintro e w2 hN
  unfold PurNewed at hN
  rcases hN with ⟨_, _, p, rfl, hp, hp0, hx⟩ | ⟨h, _, _⟩
  · have HP2 := Lib.hid hp
    have HX2 := Lib.hid (Ext.trans HX1.out hx)
    have HP0 := Lib.hid (show w.heap.size ≤ p by have := HX1.out.size; omega)
    clear hp hx hp0
    go_wp2_with fail
    refine (purTake_any (n + 1) HP2.out (by omega)).mono ?_
    rintro e w3 ⟨rfl, hp, ho⟩
    rw [all_1 n hn0] at hp ⊢
    have HP3 := Lib.hid hp
    have HO3 := Lib.hid ho
    clear hp ho
    go_wp2_with fail
    refine (purTake_any n HP3.out (by omega)).mono ?_
    rintro e w4 ⟨rfl, hp, ho⟩
    rw [all_2 n hn0] at hp ⊢
    have HP4 := Lib.hid hp
    have HO4 := Lib.hid (HO3.out.trans ho)
    clear hp ho
    go_wp2_with fail
    refine (purTake_any 1 HP4.out (by omega)).mono ?_
    rintro e w5 ⟨rfl, hp, ho⟩
    rw [all_3 n] at hp ⊢
    have HP5 := Lib.hid hp
    have HO5 := Lib.hid (HO4.out.trans ho)
    clear hp ho
    go_wp2_with fail
    refine (purTake_any 0 HP5.out (by omega)).mono ?_
    rintro e w6 ⟨rfl, hp, ho⟩
    rw [all_4 n] at hp ⊢
    have HP6 := Lib.hid hp
    have HO6 := Lib.hid (HO5.out.trans ho)
    clear hp ho
    have HB := Lib.hid (fun (W : World) (h : OnlyP p w2 W) => (show Below w.heap.size w W from Below.trans HX2.out ((OnlyS.of_onlyP (X := fun b => b = p) h rfl).below HX2.out.size (fun b hb => by rw [hb]; exact HP0.out))))
    go_wp2_with fail
    go_loopw [9, 53] (fun s i wr => ∃ (j : Nat) (m : Int), j ≤ N ∧ i = .int .i64 j ∧ s = .int .i64 m ∧ 0 ≤ m ∧ m ≤ n ∧ PurS wr p ⟨n, m, n⟩ ∧ OnlyP p w2 wr) (fun _ i _ => N - (intOf i).toNat)
    case atStart => exact ⟨0, n, Nat.zero_le _, rfl, rfl, hn0, Int.le_refl _, HP6.out, HO6.out⟩
    case round =>
      obtain ⟨j, m, hj, rfl, rfl, hm0', hm1', hp, ho⟩ := hrel
      have HP := Lib.hid hp
      have HO := Lib.hid ho
      clear hp ho
      by_cases hlt : j < N
      · have hjl : j < l.length := by have := HN.out; omega
        obtain ⟨x, rfl, hcv⟩ := HAT.out j (bv l[j]) (by rw [List.getElem?_map, List.getElem?_eq_getElem hjl]; rfl)
        have hcx := ((HB.out _ HO.out).cell (lt_of_cell hcv)).trans hcv
        unfold bv at hcx
        have hk255 : l[j].toNat < 256 := UInt8.toNat_lt _
        generalize l[j].toNat = k at hcx hk255
        clear hcv hjl
        by_cases hkm : (k : Int) ≤ m
        · have hG := all_give n m k (by omega) hkm
          have HG := Lib.hid hG
          have hkd : decide ((k : Int) ≤ m) = true := decide_eq_true hkm
          clear hG
          go_wp2_with fail
          refine (purGive_any (k : Int) HP.out (by omega)).mono ?_
          rintro e w8 ⟨rfl, hp, ho⟩
          rw [HG.out] at hp ⊢
          have HP8 := Lib.hid hp
          have HO8 := Lib.hid (HO.out.trans ho)
          clear hp ho
          go_wp2_with fail
          go_roundw
          case rel => exact ⟨j + 1, m - k, by omega, by go_num, rfl, by omega, by omega, HP8.out, HO8.out⟩
          case measure => simp [intOf]; omega
        · have hG := all_not n m k (by omega)
          have HG := Lib.hid hG
          have hkd : decide ((k : Int) ≤ m) = false := decide_eq_false hkm
          clear hG
          go_wp2_with fail
          refine (purGive_any (k : Int) HP.out (by omega)).mono ?_
          rintro e w8 ⟨rfl, hp, ho⟩
          rw [HG.out] at hp ⊢
          have HP8 := Lib.hid hp
          have HO8 := Lib.hid (HO.out.trans ho)
          clear hp ho
          go_wp2_with fail
          go_roundw
          case rel => exact ⟨j + 1, m, by omega, by go_num, rfl, hm0', hm1', HP8.out, HO8.out⟩
          case measure => simp [intOf]; omega
      · have HG := Lib.hid (all_give n m m hm0' (Int.le_refl _))
        have HG2 := Lib.hid (all_not n (m - m) 1 (by omega))
        go_wp2_with fail
        refine (purGive_any m HP.out (by omega)).mono ?_
        rintro e w8 ⟨rfl, hp, ho⟩
        rw [HG.out] at hp ⊢
        have HP8 := Lib.hid hp
        have HO8 := Lib.hid (HO.out.trans ho)
        clear hp ho
        go_wp2_with fail
        refine (purNow_any HP8.out).mono ?_
        rintro e w9 ⟨rfl, rfl⟩
        have hz : ((m - m) == (0 : Int)) = true := by rw [Int.sub_self]; rfl
        go_wp2_with fail
        clear hz
        refine (purPeak_any HP8.out).mono ?_
        rintro e w9 ⟨rfl, rfl⟩
        have hz : (n == n) = true := beq_self_eq_true _
        go_wp2_with fail
        clear hz
        refine (purGive_any 1 HP8.out (by omega)).mono ?_
        rintro e w9 ⟨rfl, hp, ho⟩
        rw [HG2.out] at hp ⊢
        have HO9 := Lib.hid (HO8.out.trans ho)
        clear hp ho
        go_wp2_with fail
        go_ret
        exact ⟨rfl, HB.out _ HO9.out⟩
  · exact absurd ⟨hn0, by omega⟩ h

end Go.Proofs.Ytcokdkhfnlhnlaa
