/-
  The walk of the law CrcBursts.
-/
import Derived.Test.YtljcbnninipnhaaCrcBack
import Derived.Test.YtljcbnninipnhaaCrcXors
import Derived.Test.YtljcbnninipnhaaCrcTurn
import Derived.RegionTactic
import Derived.ChangeAlike
namespace Go.Proofs.Ytljcbnninipnhaa
open Go.RowKit Go.BigFrame

theorem wrap64_in {n : Int} (h0 : -9223372036854775808 ≤ n) (h1 : n ≤ 9223372036854775807) : wrap64 n = n := by unfold wrap64; omega
theorem wrap_both (A k : Nat) (h : A ≤ 40031) (hk : k ≤ 32) : wrap64 (A : Int) = A ∧ wrap64 ((A : Int) + k) = A + k := by
  constructor <;> exact wrap64_in (by omega) (by omega)
theorem xor_place (c : UInt8) (i : Nat) (h : i < 8) : Value.int .u8 (bits BinOp.xor IntKind.u8 (c.toNat : Int) (128 / 2 ^ i)) = bv (c ^^^ UInt8.ofNat (2 ^ (7 - i))) := by
  have e : ((128 : Int) / 2 ^ i) = ((2 ^ (7 - i) : Nat) : Int) := by
    match i, h with
    | 0, _ | 1, _ | 2, _ | 3, _ | 4, _ | 5, _ | 6, _ | 7, _ => rfl
  have h2 : 2 ^ (7 - i) < 256 := Nat.pow_lt_pow_right (n := 8) (by decide) (by omega)
  unfold bv
  rw [e, u8_xorN _ _ c.toNat_lt h2, UInt8.toNat_xor, UInt8.toNat_ofNat_of_lt' h2]
theorem and_one (W k : Nat) (h : W ≤ 4294967295) : bits BinOp.and IntKind.u32 ((W : Int) / 2 ^ k) 1 = ((W / 2 ^ k % 2 : Nat) : Int) := by
  have h1 : W / 2 ^ k ≤ W := Nat.div_le_self _ _
  have e : ((W : Int) / 2 ^ k) = ((W / 2 ^ k : Nat) : Int) := by rw [Int.natCast_ediv, Int.natCast_pow]; rfl
  have := (bits_nat .u32 32 (by decide) (fun n h0 h1 => IntWalk.u32_in n ⟨h0, by omega⟩) (W / 2 ^ k) 1 (by omega) (by decide)).1
  rw [e, ← Nat.and_one_is_mod]
  exact this
theorem turn_stay (A k j W : Nat) (h : j ≠ A + k ∨ W.testBit k = false) : (decide (A ≤ j ∧ j < A + (k + 1)) && W.testBit (j - A)) = (decide (A ≤ j ∧ j < A + k) && W.testBit (j - A)) := by
  by_cases hj : j = A + k
  · rcases h with h | h
    · exact absurd hj h
    · subst hj
      rw [Nat.add_sub_cancel_left, h, Bool.and_false, Bool.and_false]
  · congr 1
    exact decide_eq_decide.2 (by omega)
theorem turn_next (A k j W : Nat) (h : W.testBit k = true) : (decide (A ≤ j ∧ j < A + (k + 1)) && W.testBit (j - A)) = ((decide (A ≤ j ∧ j < A + k) && W.testBit (j - A)) ^^ decide (j = A + k)) := by
  by_cases hj : j = A + k
  · subst hj
    rw [Nat.add_sub_cancel_left, h, decide_eq_true (by omega), decide_eq_false (by omega)]
    simp
  · rw [decide_eq_false hj, Bool.xor_false]
    congr 1
    exact decide_eq_decide.2 (by omega)

set_option maxRecDepth 100000 in
set_option maxHeartbeats 1000000 in
theorem crcBursts_walk (v : Value) (l : List UInt8) (p : Int) (q : Int) (w : World) (hr : Rd w v l) (hp : 0 ≤ p ∧ p ≤ 18446744073709551615) (hq : 0 ≤ q ∧ q ≤ 4294967295) :
    Calls Try.prog 7 #[v, .int .u64 p, .int .u32 q] w fun e w' => e = .returned (.bool true) ∧ Below w.heap.size w w' := by
  obtain ⟨P, rfl⟩ := Int.eq_ofNat_of_zero_le hp.1
  obtain ⟨W, rfl⟩ := Int.eq_ofNat_of_zero_le hq.1
  have hP : P ≤ 18446744073709551615 := by omega
  have hW : W ≤ 4294967295 := by omega
  have HR := Lib.hid hr
  clear hr hp hq
  have hx5 : (l.take 5000).length ≤ 5000 := by rw [List.length_take]; omega
  have HF := Lib.hid (few_any v l)
  generalize l.take 5000 = x at HF hx5
  obtain ⟨n, hn⟩ : ∃ n, n = x.length := ⟨_, rfl⟩
  have hn5 : n ≤ 5000 := by omega
  have HN := Lib.hid hn
  have hsl : ((sealed x).map bv).length = n + 4 := by rw [List.length_map, sealed_length, hn]
  clear hx5 hn
  go_enter Try.func7, Try.ntmps7
  go_wp2_with fail
  refine (shown_any _).mono ?_
  rintro e w1 ⟨rfl, hb1⟩
  have H1 := Lib.hid (show Ext w w1 from hb1)
  clear hb1
  go_wp2_with fail
  refine (HF.out _ (HR.out.mono H1.out)).mono ?_
  rintro e w' ⟨⟨xv, rfl, hrx⟩, rfl⟩
  have HX := Lib.hid hrx
  clear hrx
  go_wp2_with fail
  refine (Seal_any _ x _ HX.out (by have := HN.out; omega)).mono ?_
  rintro e w2 ⟨sv, rfl, hos, hb2⟩
  rw [hsl] at hos
  obtain ⟨g, cs, rfl, hg1, hg2, hc1, hc2⟩ := owns_shape hos (by omega)
  have H2 := Lib.hid (show Ext w1 w2 from hb2)
  have HOS := Lib.hid hos
  clear hos hb2 hsl
  go_wp2_with fail
  refine (HF.out _ (HR.out.mono (Ext.trans H1.out H2.out))).mono ?_
  rintro e w' ⟨⟨xv2, rfl, hrx⟩, rfl⟩
  obtain ⟨a2, cap2, rfl, _, _⟩ := hrx.shape
  rw [← HN.out]
  clear hrx
  go_wp2_with fail
  obtain ⟨A, hA⟩ : ∃ A : Nat, A = P % (8 * (n + 4)) := ⟨_, rfl⟩
  have hA2 : A < 8 * (n + 4) := by rw [hA]; exact Nat.mod_lt _ (by omega)
  rw [show ((P : Int) % (8 * ((n : Int) + 4))) = (A : Int) by rw [hA, Int.natCast_emod, Int.natCast_mul, Int.natCast_add]; rfl]
  have hA3 : A ≤ 40031 := by omega
  obtain ⟨s0, hs0⟩ : ∃ s0, s0 = sealed x := ⟨_, rfl⟩
  have hl0 : s0.length = n + 4 := by rw [hs0, sealed_length, ← HN.out]
  have HZ0 := Lib.hid (show sumOf s0 = 0#32 by rw [hs0]; exact sealed_zero x)
  rw [← hs0] at HOS
  have HST := Lib.hid (show ∃ ls : List UInt8, w2.ownsRow w1.heap.size 5 1 (.slice (some ⟨g, 0, none⟩) (n + 4) cs) (n + 4) (ls.map bv) ∧ ls.length = s0.length ∧ ∀ j, j < 8 * s0.length → (bitsOf ls)[j]? = (bitsOf s0)[j]?.map fun b => b ^^ (decide (A ≤ j ∧ j < A + 0) && W.testBit (j - A)) from ⟨s0, HOS.out, rfl, fun j _ => by rw [decide_eq_false (by omega)]; simp⟩)
  try rw [(wrap_both A 0 hA3 (by omega)).1]
  clear hA hs0
  go_loopw [10, 33] (fun t i wr => ∃ k : Nat, k ≤ 32 ∧ i = .int .i64 k ∧ (∃ tb : Bool, t = .bool tb ∧ (tb = true ↔ ∃ i, i < k ∧ A + i < 8 * s0.length ∧ W.testBit i = true)) ∧
    (∃ ls : List UInt8, wr.ownsRow w1.heap.size 5 1 (.slice (some ⟨g, 0, none⟩) (n + 4) cs) (n + 4) (ls.map bv) ∧ ls.length = s0.length ∧ ∀ j, j < 8 * s0.length → (bitsOf ls)[j]? = (bitsOf s0)[j]?.map fun b => b ^^ (decide (A ≤ j ∧ j < A + k) && W.testBit (j - A))) ∧ Below w1.heap.size w1 wr) (fun _ i _ => 32 - (intOf i).toNat)
  case atStart => exact ⟨0, Nat.zero_le _, rfl, ⟨false, rfl, by simp⟩, HST.out, H2.out⟩
  case round =>
    obtain ⟨k, hk, rfl, ⟨tb, rfl, htb⟩, hls, hbe⟩ := hrel
    have HTB := Lib.hid htb
    have HLS := Lib.hid hls
    have HBE := Lib.hid hbe
    clear htb hls hbe
    by_cases hlt : k < 32
    · have HAO := Lib.hid (and_one W k hW)
      have HTE := Lib.hid (Nat.testBit_eq_decide_div_mod_eq (x := W) (i := k))
      by_cases hbt : W / 2 ^ k % 2 = 1
      · have hb1 : (bits BinOp.and IntKind.u32 ((W : Int) / 2 ^ k) 1 == 1) = true := by rw [HAO.out, hbt]; rfl
        have HBT := Lib.hid (show W.testBit k = true by rw [HTE.out, hbt]; rfl)
        clear hbt
        by_cases hin : A + k < 8 * (n + 4)
        · have hin2 : decide ((A : Int) + k < 8 * ((n : Int) + 4)) = true := decide_eq_true (by omega)
          obtain ⟨ls, hls1, hls2, hls3⟩ := HLS.out
          obtain ⟨c, hc⟩ : ∃ c, ls[(A + k) / 8]? = some c := ⟨_, List.getElem?_eq_getElem (by omega)⟩
          have hcell : wr.cell? ⟨g, (A + k) / 8, none⟩ = some (.int .u8 (c.toNat : Int)) := by
            rw [hls1.cellAt _ (by omega), List.getElem?_map, hc]; rfl
          have hfree := hls1.frozenAt ((A + k) / 8)
          have HLS1 := Lib.hid hls1
          have HLS2 := Lib.hid hls2
          have HLS3 := Lib.hid hls3
          have HC := Lib.hid hc
          clear hls1 hls2 hls3 hc HLS
          go_wp2_with fail
          obtain ⟨M, hM⟩ : ∃ M, M = A + k := ⟨_, rfl⟩
          rw [← hM] at hcell hfree HC
          rw [show ((A : Int) + k) = (M : Int) by rw [hM, Int.natCast_add]]
          have hM2 : M < 8 * (n + 4) := by omega
          have hsh : M % 8 < 8 := Nat.mod_lt _ (by decide)
          have hd8 : M / 8 < n + 4 := by omega
          have HM := Lib.hid hM
          clear hM
          go_region
          go_wp2_with fail
          go_roundw
          case rel =>
            have hm := HM.out
            have h2 := HLS2.out
            refine ⟨k + 1, by omega, by go_num, ⟨true, rfl, fun _ => ⟨k, by omega, by omega, HBT.out⟩, fun _ => rfl⟩, ?_, (HBE.out.setCell hg1 _).drew⟩
            refine ⟨ls.set (M / 8) (c ^^^ UInt8.ofNat (2 ^ (7 - M % 8))), ?_, by rw [List.length_set, h2], fun j hj => ?_⟩
            · rw [xor_place c (M % 8) hsh]
              have := (HLS1.out.stored (M / 8) (bv (c ^^^ UInt8.ofNat (2 ^ (7 - M % 8))))).1
              rw [← List.map_set] at this
              exact this
            · rw [turn_bit ls M c HC.out, HLS3.out j hj, turn_next A k j W HBT.out, hm, Option.map_map]
              congr 1
              funext b
              simp
          case measure => simp [intOf]; omega
        · have hin2 : decide ((A : Int) + k < 8 * ((n : Int) + 4)) = false := decide_eq_false (by omega)
          go_wp2_with fail
          go_roundw
          case rel =>
            refine ⟨k + 1, by omega, by go_num, ⟨tb, rfl, ?_⟩, ?_, HBE.out⟩
            · rw [HTB.out]
              exact ⟨fun ⟨i, h1, h2, h3⟩ => ⟨i, by omega, h2, h3⟩, fun ⟨i, h1, h2, h3⟩ => ⟨i, by omega, h2, h3⟩⟩
            · obtain ⟨ls, h1, h2, h3⟩ := HLS.out
              exact ⟨ls, h1, h2, fun j hj => by rw [h3 j hj, turn_stay A k j W (.inl (by omega))]⟩
          case measure => simp [intOf]; omega
      · have hb1 : (bits BinOp.and IntKind.u32 ((W : Int) / 2 ^ k) 1 == 1) = false := by rw [HAO.out, beq_eq_false_iff_ne]; omega
        have HBT := Lib.hid (show W.testBit k = false by rw [HTE.out]; exact decide_eq_false hbt)
        clear hbt
        go_wp2_with fail
        go_roundw
        case rel =>
          refine ⟨k + 1, by omega, by go_num, ⟨tb, rfl, ?_⟩, ?_, HBE.out⟩
          · rw [HTB.out]
            refine ⟨fun ⟨i, h1, h2, h3⟩ => ⟨i, by omega, h2, h3⟩, fun ⟨i, h1, h2, h3⟩ => ⟨i, ?_, h2, h3⟩⟩
            have : i ≠ k := fun e => by rw [e, HBT.out] at h3; cases h3
            omega
          · obtain ⟨ls, h1, h2, h3⟩ := HLS.out
            exact ⟨ls, h1, h2, fun j hj => by rw [h3 j hj, turn_stay A k j W (.inr HBT.out)]⟩
        case measure => simp [intOf]; omega
    · have hk32 : k = 32 := by omega
      subst hk32
      obtain ⟨ls, hls1, hls2, hls3⟩ := HLS.out
      have HB := Lib.hid (burst_sum s0 ls A W hls2 (by omega) hls3 HZ0.out)
      have HRD := Lib.hid (show Rd wr (.slice (some ⟨g, 0, none⟩) (n + 4) cs) ls from RdV.of_owns hls1)
      have HO := Lib.hid (show opens ls = !tb by
        unfold opens
        rw [decide_eq_true (show 4 ≤ ls.length by omega), Bool.true_and]
        cases tb with
        | false =>
          refine decide_eq_true (HB.out.2 fun i h1 h2 => ?_)
          by_cases h3 : W.testBit i = true
          · exact absurd (HTB.out.2 ⟨i, h1, h2, h3⟩) (by decide)
          · simpa using h3
        | true =>
          refine decide_eq_false fun h => ?_
          obtain ⟨i, h1, h2, h3⟩ := HTB.out.1 rfl
          rw [HB.out.1 h i h1 h2] at h3
          cases h3)
      have HL := Lib.hid (show ls.length ≤ 5004 by omega)
      clear hls1 hls2 hls3 HLS
      go_wp2_with fail
      refine (Open_any _ ls _ HRD.out (by have := HL.out; omega)).mono ?_
      rintro e w3 ⟨cv, rfl, hoc, hb3⟩
      have HX3 := Lib.hid (Ext.trans H1.out (Ext.trans HBE.out hb3))
      have hoc0 : tb = true → ∃ a cap, cv = .slice a 0 cap := fun ht => by
        have hr := RdV.of_owns hoc
        unfold opened at hr
        rw [HO.out, ht] at hr
        obtain ⟨a, cap, h, _⟩ := Rd.shape (l := []) hr
        exact ⟨a, cap, h⟩
      rw [HO.out]
      clear hoc hb3
      cases tb with
      | false =>
        clear hoc0
        go_wp2_with fail
        go_ret
        exact ⟨rfl, HX3.out⟩
      | true =>
        obtain ⟨a, cap, rfl⟩ := hoc0 rfl
        go_wp2_with fail
        go_ret
        exact ⟨rfl, HX3.out⟩

end Go.Proofs.Ytljcbnninipnhaa
