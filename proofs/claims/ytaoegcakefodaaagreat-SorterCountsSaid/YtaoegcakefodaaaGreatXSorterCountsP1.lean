/-
  Texts of this proof, merged.
-/
import Derived.Test.YtaoegcakefodaaaGreatZ1
import Derived.Test.YtaoegcakefodaaaGreatY1
import Derived.Test.YtaoegcakefodaaaGreatZ2
import Derived.Test.YtaoegcakefodaaaGreatZ3
import Derived.Test.YtaoegcakefodaaaGreatZ4
import Derived.Test.YtaoegcakefodaaaGreatZ5
import Derived.Test.YtaoegcakefodaaaGreatZ6
import Derived.Test.YtaoegcakefodaaaGreatZ7
import Derived.Test.YtaoegcakefodaaaGreatY2
import Derived.Test.YtaoegcakefodaaaGreatZ8
import Derived.Test.YtaoegcakefodaaaGreatZ9
import Derived.Test.YtaoegcakefodaaaGreatZ10
import Derived.Test.YtaoegcakefodaaaGreatZ11
import Derived.Test.YtaoegcakefodaaaGreatZ12
import Derived.Test.YtaoegcakefodaaaGreatZ13
import Derived.Test.YtaoegcakefodaaaGreatZ14
import Derived.Test.YtaoegcakefodaaaGreatZ15
import Derived.Test.YtaoegcakefodaaaGreatZ16
import Derived.Test.YtaoegcakefodaaaGreatZ17
import Derived.Test.YtaoegcakefodaaaGreatZ18
import Derived.Test.YtaoegcakefodaaaGreatZ19
import Derived.Test.YtaoegcakefodaaaGreatZ20
import Derived.Test.YtaoegcakefodaaaGreatZ21
import Derived.Test.YtaoegcakefodaaaGreatZ22
import Derived.Test.YtaoegcakefodaaaGreatZ23
import Derived.Test.YtaoegcakefodaaaGreatZ24
namespace Go.Proofs.YtaoegcakefodaaaGreat
def passN (fan : Nat) (runs : Nat) : Nat :=
  if h : fan < runs ∧ 2 ≤ fan then passN fan ((runs - 1) / fan + 1) + 1 else if 1 < runs then 1 else 0
termination_by runs
decreasing_by
  have h1 : (runs - 1) / fan ≤ (runs - 1) / 2 := Nat.div_le_div_left h.2 (by decide)
  omega
def passR (runs fan : Int) : Int := if runs < 1 ∨ fan < 2 then 0 else (passN fan.toNat runs.toNat : Nat)
theorem passN_more {fan runs : Nat} (h : fan < runs) (h2 : 2 ≤ fan) : passN fan runs = passN fan ((runs - 1) / fan + 1) + 1 := by
  conv => lhs; rw [passN]
  rw [dif_pos ⟨h, h2⟩]
theorem passN_last {fan runs : Nat} (h : ¬ fan < runs) : passN fan runs = if 1 < runs then 1 else 0 := by
  rw [passN, dif_neg (fun h2 => h h2.1)]
theorem passN_le (fan : Nat) : ∀ n runs, runs = n → passN fan runs ≤ runs := by
  intro n
  induction n using Nat.strongRecOn with
  | _ n ih =>
    intro runs hn
    by_cases h : fan < runs ∧ 2 ≤ fan
    · rw [passN_more h.1 h.2]
      have h1 : (runs - 1) / fan ≤ (runs - 1) / 2 := Nat.div_le_div_left h.2 (by decide)
      have := ih ((runs - 1) / fan + 1) (by omega) _ rfl
      omega
    · rw [passN, dif_neg h]
      split <;> omega
end Go.Proofs.YtaoegcakefodaaaGreat

namespace Go.Proofs.YtaoegcakefodaaaGreat
open Go.RowKit Go.BigFrame
set_option maxRecDepth 100000 in
set_option maxHeartbeats 1000000 in
theorem pPasses18_any (runs fan : Int) (w : World) (hr : -9223372036854775808 ≤ runs ∧ runs ≤ 9223372036854775807) (hf : -9223372036854775808 ≤ fan ∧ fan ≤ 9223372036854775807) :
    Calls Tryz.prog 27 #[.int .i64 runs, .int .i64 fan] w fun e w' => e = .returned (.int .i64 (passR runs fan)) ∧ Ext w w' := by
  by_cases h1 : runs < 1
  · have d1 : decide (runs < 1) = true := decide_eq_true h1
    have hp : passR runs fan = 0 := if_pos (.inl h1)
    rw [hp]
    clear h1 hp
    go_enter Tryz.func27, Tryz.ntmps27
    go_wp2_with fail
    go_ret
    exact ⟨rfl, Ext.keeps.refl _⟩
  · have d1 : decide (runs < 1) = false := decide_eq_false h1
    by_cases h2 : fan < 2
    · have d2 : decide (fan < 2) = true := decide_eq_true h2
      have hp : passR runs fan = 0 := if_pos (.inr h2)
      rw [hp]
      clear h1 h2 hp
      go_enter Tryz.func27, Tryz.ntmps27
      go_wp2_with fail
      go_ret
      exact ⟨rfl, Ext.keeps.refl _⟩
    · have d2 : decide (fan < 2) = false := decide_eq_false h2
      have hp : passR runs fan = (passN fan.toNat runs.toNat : Nat) := if_neg (fun h => h.elim h1 h2)
      rw [hp]
      obtain ⟨R, rfl⟩ := Int.eq_ofNat_of_zero_le (show 0 ≤ runs by omega)
      obtain ⟨F, rfl⟩ := Int.eq_ofNat_of_zero_le (show 0 ≤ fan by omega)
      rw [Int.toNat_natCast, Int.toNat_natCast]
      have hF2 : 2 ≤ F := by omega
      have hRp : 1 ≤ R := by omega
      have hle := passN_le F R R rfl
      obtain ⟨T, hT⟩ : ∃ T, passN F R = T := ⟨_, rfl⟩
      have HT := Lib.hid hT
      rw [hT] at hle ⊢
      have hF0 : ((F : Int) == 0) = false := by simp; omega
      clear hp h1 h2 hT
      go_enter Tryz.func27, Tryz.ntmps27
      go_wp2_with fail
      go_loopw [0, 5] (fun rv nv wr => ∃ R' n : Nat, rv = .int .i64 R' ∧ nv = .int .i64 n ∧ R' ≤ R ∧ 1 ≤ R' ∧ T = passN F R' + n ∧ wr = w) (fun rv _ _ => (intOf rv).toNat)
      case atStart => exact ⟨R, 0, rfl, rfl, Nat.le_refl _, hRp, HT.out.symm, rfl⟩
      case round =>
        obtain ⟨R', n, rfl, rfl, hR', hR1, hTn, rfl⟩ := hrel
        have HTN := Lib.hid hTn
        have hnT : n ≤ T := by omega
        clear hTn
        by_cases hgt : F < R'
        · have e1 : decide ((R' : Int) > (F : Int)) = true := decide_eq_true (by omega)
          have e1' : decide (F < R') = true := decide_eq_true hgt
          have hdiv : ((R' : Int) - 1) / (F : Int) = (((R' - 1) / F : Nat) : Int) := by
            rw [Int.natCast_ediv]
            congr 1
            omega
          have hdiv2 : ((R' : Int) - 1).tdiv (F : Int) = (((R' - 1) / F : Nat) : Int) := by
            rw [Int.tdiv_eq_ediv_of_nonneg (by omega)]
            exact hdiv
          have hq : (R' - 1) / F ≤ (R' - 1) / 2 := Nat.div_le_div_left hF2 (by decide)
          have HMORE := Lib.hid (passN_more hgt hF2)
          obtain ⟨q, hqq⟩ : ∃ q, (R' - 1) / F = q := ⟨_, rfl⟩
          rw [hqq] at hdiv hdiv2 hq HMORE
          have HHT := Lib.hid HTN.out
          rw [HMORE.out] at HHT
          have hqR : q + 1 < R' := by omega
          have hn2 : n + 1 ≤ T := by have := HHT.out; omega
          clear hqq hgt
          go_wp2_with fail
          go_roundw
          case rel => exact ⟨q + 1, n + 1, by go_num, by go_num, by omega, by omega, by have := HHT.out; omega, by first | rfl | trivial⟩
          case measure => simp [intOf]; omega
        · have e1 : decide ((R' : Int) > (F : Int)) = false := decide_eq_false (by omega)
          have e1' : decide (F < R') = false := decide_eq_false hgt
          have hlast := passN_last (fan := F) hgt
          have HE := Lib.hid HTN.out
          rw [hlast] at HE
          by_cases h1r : 1 < R'
          · have e2 : decide ((R' : Int) > 1) = true := decide_eq_true (by omega)
            have e2' : decide (1 < R') = true := decide_eq_true h1r
            rw [if_pos h1r] at HE
            have hn2 : n + 1 = T := by have := HE.out; omega
            have HN2 := Lib.hid hn2
            have hn3 : n + 1 ≤ T := by omega
            clear hlast hgt h1r hn2
            go_wp2_with fail
            go_ret
            exact ⟨(congrArg (fun x : Nat => Ending.returned (Value.int .i64 (x : Int))) HN2.out), Ext.keeps.refl _⟩
          · have e2 : decide ((R' : Int) > 1) = false := decide_eq_false (by omega)
            have e2' : decide (1 < R') = false := decide_eq_false h1r
            rw [if_neg h1r] at HE
            have HN2 := Lib.hid (show n = T from by have := HE.out; omega)
            clear hlast hgt h1r
            go_wp2_with fail
            go_ret
            exact ⟨congrArg (fun x : Nat => Ending.returned (Value.int .i64 (x : Int))) HN2.out, Ext.keeps.refl _⟩
end Go.Proofs.YtaoegcakefodaaaGreat

namespace Go.Proofs.YtaoegcakefodaaaGreat
open Go.RowKit Go.BigFrame
set_option maxRecDepth 100000 in
set_option maxHeartbeats 1000000 in
theorem refPasses18_any (runs fan : Int) (w : World) (hr : -9223372036854775808 ≤ runs ∧ runs ≤ 9223372036854775807) (hf : -9223372036854775808 ≤ fan ∧ fan ≤ 9223372036854775807) :
    Calls Tryz.prog 28 #[.int .i64 runs, .int .i64 fan] w fun e w' => e = .returned (.int .i64 (passR runs fan)) ∧ Ext w w' := by
  by_cases h1 : runs < 1
  · have d1 : decide (runs < 1) = true := decide_eq_true h1
    have hp : passR runs fan = 0 := if_pos (.inl h1)
    rw [hp]
    clear h1 hp
    go_enter Tryz.func28, Tryz.ntmps28
    go_wp2_with fail
    go_ret
    exact ⟨rfl, Ext.keeps.refl _⟩
  · have d1 : decide (runs < 1) = false := decide_eq_false h1
    by_cases h2 : fan < 2
    · have d2 : decide (fan < 2) = true := decide_eq_true h2
      have hp : passR runs fan = 0 := if_pos (.inr h2)
      rw [hp]
      clear h1 h2 hp
      go_enter Tryz.func28, Tryz.ntmps28
      go_wp2_with fail
      go_ret
      exact ⟨rfl, Ext.keeps.refl _⟩
    · have d2 : decide (fan < 2) = false := decide_eq_false h2
      have hp : passR runs fan = (passN fan.toNat runs.toNat : Nat) := if_neg (fun h => h.elim h1 h2)
      rw [hp]
      obtain ⟨R, rfl⟩ := Int.eq_ofNat_of_zero_le (show 0 ≤ runs by omega)
      obtain ⟨F, rfl⟩ := Int.eq_ofNat_of_zero_le (show 0 ≤ fan by omega)
      rw [Int.toNat_natCast, Int.toNat_natCast]
      have hF2 : 2 ≤ F := by omega
      have hRp : 1 ≤ R := by omega
      have hle := passN_le F R R rfl
      obtain ⟨T, hT⟩ : ∃ T, passN F R = T := ⟨_, rfl⟩
      have HT := Lib.hid hT
      rw [hT] at hle ⊢
      have hF0 : ((F : Int) == 0) = false := by simp; omega
      clear hp h1 h2 hT
      go_enter Tryz.func28, Tryz.ntmps28
      go_wp2_with fail
      go_loopw [0, 5] (fun rv nv wr => ∃ R' n : Nat, rv = .int .i64 R' ∧ nv = .int .i64 n ∧ R' ≤ R ∧ 1 ≤ R' ∧ T = passN F R' + n ∧ wr = w) (fun rv _ _ => (intOf rv).toNat)
      case atStart => exact ⟨R, 0, rfl, rfl, Nat.le_refl _, hRp, HT.out.symm, rfl⟩
      case round =>
        obtain ⟨R', n, rfl, rfl, hR', hR1, hTn, rfl⟩ := hrel
        have HTN := Lib.hid hTn
        have hnT : n ≤ T := by omega
        clear hTn
        by_cases hgt : F < R'
        · have e1 : decide ((R' : Int) > (F : Int)) = true := decide_eq_true (by omega)
          have e1' : decide (F < R') = true := decide_eq_true hgt
          have hdiv : ((R' : Int) - 1) / (F : Int) = (((R' - 1) / F : Nat) : Int) := by
            rw [Int.natCast_ediv]
            congr 1
            omega
          have hdiv2 : ((R' : Int) - 1).tdiv (F : Int) = (((R' - 1) / F : Nat) : Int) := by
            rw [Int.tdiv_eq_ediv_of_nonneg (by omega)]
            exact hdiv
          have hq : (R' - 1) / F ≤ (R' - 1) / 2 := Nat.div_le_div_left hF2 (by decide)
          have HMORE := Lib.hid (passN_more hgt hF2)
          obtain ⟨q, hqq⟩ : ∃ q, (R' - 1) / F = q := ⟨_, rfl⟩
          rw [hqq] at hdiv hdiv2 hq HMORE
          have HHT := Lib.hid HTN.out
          rw [HMORE.out] at HHT
          have hqR : q + 1 < R' := by omega
          have hn2 : n + 1 ≤ T := by have := HHT.out; omega
          clear hqq hgt
          go_wp2_with fail
          go_roundw
          case rel => exact ⟨q + 1, n + 1, by go_num, by go_num, by omega, by omega, by have := HHT.out; omega, by first | rfl | trivial⟩
          case measure => simp [intOf]; omega
        · have e1 : decide ((R' : Int) > (F : Int)) = false := decide_eq_false (by omega)
          have e1' : decide (F < R') = false := decide_eq_false hgt
          have hlast := passN_last (fan := F) hgt
          have HE := Lib.hid HTN.out
          rw [hlast] at HE
          by_cases h1r : 1 < R'
          · have e2 : decide ((R' : Int) > 1) = true := decide_eq_true (by omega)
            have e2' : decide (1 < R') = true := decide_eq_true h1r
            rw [if_pos h1r] at HE
            have hn2 : n + 1 = T := by have := HE.out; omega
            have HN2 := Lib.hid hn2
            have hn3 : n + 1 ≤ T := by omega
            clear hlast hgt h1r hn2
            go_wp2_with fail
            go_ret
            exact ⟨(congrArg (fun x : Nat => Ending.returned (Value.int .i64 (x : Int))) HN2.out), Ext.keeps.refl _⟩
          · have e2 : decide ((R' : Int) > 1) = false := decide_eq_false (by omega)
            have e2' : decide (1 < R') = false := decide_eq_false h1r
            rw [if_neg h1r] at HE
            have HN2 := Lib.hid (show n = T from by have := HE.out; omega)
            clear hlast hgt h1r
            go_wp2_with fail
            go_ret
            exact ⟨congrArg (fun x : Nat => Ending.returned (Value.int .i64 (x : Int))) HN2.out, Ext.keeps.refl _⟩
end Go.Proofs.YtaoegcakefodaaaGreat

namespace Go.Proofs.YtaoegcakefodaaaGreat
open Go.RowKit Go.BigFrame
set_option maxRecDepth 100000 in
set_option maxHeartbeats 2000000 in
theorem sorterCounts_walk (u : Value) (rs : List (List V)) (most runs fan : Int) (w : World) (hu0 : RdRows w u rs) (hf : ∀ r ∈ rs, ∀ v ∈ r, v.fits ∧ v.s.length ≤ maxLen) (hz : ∀ n c, u = .slice none n c → n = 0 ∧ c = 0) (hm : 0 ≤ most ∧ most ≤ 4294967295) (hr : 0 ≤ runs ∧ runs ≤ 4294967295) (hfan : -9223372036854775808 ≤ fan ∧ fan ≤ 9223372036854775807) :
    Calls Tryz.prog 5 #[u, .int .u32 most, .int .u32 runs, .int .i64 fan] w fun e w' => e = .returned (.bool true) ∧ Below w.heap.size w w' := by
  have hu := RdRV.of_rows hu0 hz
  clear hu0 hz
  obtain ⟨hm0, hm1⟩ := hm
  obtain ⟨hr0, hr1⟩ := hr
  obtain ⟨hf0, hf1⟩ := hfan
  obtain ⟨n, hn⟩ : ∃ n : Int, n = most % 1073741824 := ⟨_, rfl⟩
  have hn0 : 0 ≤ n := by omega
  have hn1 : n ≤ 1073741823 := by omega
  obtain ⟨m, hmm⟩ : ∃ m : Int, m = runs % 1073741824 := ⟨_, rfl⟩
  have h0m : 0 ≤ m := by omega
  have h1m : m ≤ 1073741823 := by omega
  have HF := Lib.hid hf
  have HU := Lib.hid hu
  have HN := Lib.hid hn
  have HM := Lib.hid hmm
  have HFAN := Lib.hid (show -9223372036854775808 ≤ fan ∧ fan ≤ 9223372036854775807 from ⟨hf0, hf1⟩)
  clear hu hf hn hmm
  go_enter Tryz.func5, Tryz.ntmps5
  go_wp2_with fail
  refine (few18_any _ rs w w HU.out (Ext.keeps.refl _) HF.out).mono ?_
  rintro e w1 ⟨⟨v, M, rfl, hv, hfw⟩, x1⟩
  generalize rs.take M = xs at hv hfw
  have HV := Lib.hid hv
  have HW := Lib.hid hfw
  have X1 := Lib.hid x1
  have HC := Lib.hid (fun r hr => Int.le_trans (cost_few hfw r hr) (show (100000 : Int) ≤ 1000000000 by decide))
  clear hv hfw x1
  go_wp2_with fail
  rw [← HN.out]
  refine (pRuns18_any v xs n w1 (HV.out.mono X1.out).rd (Nat.le_trans HW.out.1 (by decide)) HC.out (by omega)).mono ?_
  rintro e w2 ⟨rfl, x2⟩
  have X2 := Lib.hid (Ext.trans X1.out x2)
  clear x2
  go_wp2_with fail
  refine (refRuns18_any v xs n w2 (HV.out.mono X2.out).rd (Nat.le_trans HW.out.1 (by decide)) HC.out (by omega)).mono ?_
  rintro e w3 ⟨rfl, x3⟩
  have X3 := Lib.hid (Ext.trans X2.out x3)
  clear x3
  generalize (runsR xs n).1 = RN
  generalize (runsR xs n).2 = RE
  have d1 : ((RN : Int) == (RN : Int)) = true := by simp
  have d2 : (RE == RE) = true := by simp
  go_wp2_with fail
  refine (shown18_any _).mono ?_
  rintro e w4 ⟨rfl, x4⟩
  have X4 := Lib.hid (Ext.trans X3.out x4)
  clear x4
  go_wp2_with fail
  rw [← HM.out]
  refine (pPasses18_any m fan _ (by omega) HFAN.out).mono ?_
  rintro e w5 ⟨rfl, x5⟩
  have X5 := Lib.hid (Ext.trans X4.out x5)
  clear x5
  go_wp2_with fail
  refine (refPasses18_any m fan _ (by omega) HFAN.out).mono ?_
  rintro e w6 ⟨rfl, x6⟩
  have X6 := Lib.hid (Ext.trans X5.out x6)
  clear x6
  generalize passR m fan = P
  have d3 : (P == P) = true := by simp
  have hneg : passR (-m) fan = 0 := if_pos (.inl (by omega))
  go_wp2_with fail
  refine (pPasses18_any (-m) fan _ (by omega) HFAN.out).mono ?_
  rw [hneg]
  rintro e w7 ⟨rfl, x7⟩
  have X7 := Lib.hid (Ext.trans X6.out x7)
  clear x7 hneg
  go_wp2_with fail
  go_ret
  exact ⟨rfl, X7.out⟩
end Go.Proofs.YtaoegcakefodaaaGreat

