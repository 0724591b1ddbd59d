/-
  The contracts of the document's own encoders: warpref01.Num, Int, Text.
-/
import Derived.Test.YtlbilmmjcfiokaaOct
import Derived.Test.YtlbilmmjcfiokaaCan
namespace Go.Proofs.Ytlbilmmjcfiokaa
open Go.RowKit

theorem refZig_any (n : Int) (w : World) (h0 : -9223372036854775808 ≤ n) (h1 : n ≤ 9223372036854775807) :
    Calls Try.prog 71 #[.int .i64 n] w fun e w' => e = .returned (.int .u64 (zig n)) ∧ w = w' := by
  by_cases h : n < 0
  · have hz := zig_neg n h
    have HZ := Lib.hid hz
    clear hz
    go_enter Try.func71, Try.ntmps71
    go_wp2
    go_ret
    refine ⟨congrArg Ending.returned (congrArg (Value.int IntKind.u64) ?_), rfl⟩
    rw [HZ.out]
    omega
  · have hz := zig_pos n h
    have HZ := Lib.hid hz
    clear hz
    go_enter Try.func71, Try.ntmps71
    go_wp2
    go_ret
    refine ⟨congrArg Ending.returned (congrArg (Value.int IntKind.u64) ?_), rfl⟩
    rw [HZ.out]
    omega


set_option maxRecDepth 100000 in
set_option maxHeartbeats 400000 in
theorem refNum_small (v : Value) (l : List UInt8) (n : Nat) (w : World) (hr : Rd w v l) (hl : l.length + 9 ≤ 140737488355328) (hn : n < 248) :
    Calls Try.prog 70 #[v, .int .u64 n] w (Fresh 5 w ((l ++ enc n).map bv)) := by
  obtain ⟨i0, hi, hz0, hz1, hz2⟩ := info_parts Try.info5
  have HR := Lib.hid (hr.mono ((Below.refl _ w).alloc (Nat.le_refl _) (.cells #[] 5)))
  have HO := Lib.hid (empty_owned w)
  have HB := Lib.hid (bv_oneCell l)
  have hlm : (l.map bv).length = l.length := List.length_map _
  have HLM := Lib.hid hlm
  have hd : decide ((n : Int) < 248) = true := decide_eq_true (by omega)
  clear hr hlm
  go_enter Try.func70, Try.ntmps70
  go_wp2_with (first
    | (at_builtin; go_loud (refine wpList_append_rd rfl (.tmp 8) (.tmp 9) 33 rfl w.heap.size 5 i0 (.int .u8 0) 1 Try.underlying33 hi hz0 hz1 hz2 rfl _ _ _ rfl HO.out _ _ rfl HR.out HB.out (by rw [HLM.out]; unfold maxLen; omega) (by rw [HLM.out]; omega) (by simp) ?_); intro v2 w2 hown2 hgrow2)
    | (at_builtin; go_loud (refine wpList_append_own _ rfl (.tmp 13) (.tmp 16) 33 rfl w.heap.size 5 i0 (.int .u8 0) 1 1 Try.underlying33 hi hz0 hz1 hz2 rfl (by decide) _ _ _ rfl (hown2.alloc _) ⟨w2.heap.size, 0, none⟩ 1 1 [_] rfl rfl (cell_one_new _ _ _) (by simp [Value.oneCell']) (by rw [HLM.out]; unfold maxLen; omega) (by rw [HLM.out]; omega) (by have := hgrow2.size; simp at this ⊢; omega) ?_); intro v3 w3 hown3 hgrow3 _))
  go_ret
  refine ⟨_, rfl, ?_, (((Below.refl _ w).alloc (Nat.le_refl _) _).grown hgrow2 (by simp) (fun k hk => by cases hk; exact Nat.le_refl _)).trans (((Below.refl _ w2).alloc (by have := hgrow2.size; simp at this; omega) _).grown hgrow3 (by have := hgrow2.size; simp at this ⊢; omega) (fun k hk => (hown2.lt k hk).1))⟩
  have e : enc n = [UInt8.ofNat n] := by unfold enc; rw [if_pos hn]
  rw [e, List.map_append]
  simpa [bv, Nat.mod_eq_of_lt (show n < 256 by omega)] using hown3


theorem div_more (n j : Nat) : n / 256 ^ j / 256 = n / 256 ^ (j + 1) := by rw [Nat.div_div_eq_div_mul, Nat.pow_succ]

/-- All bytes of n have been taken when nothing is left of it. -/
theorem all_taken (n j : Nat) (_hn : n < 2 ^ 64) (h0 : n ≠ 0) (hj : j ≤ nb n) (hq : n / 256 ^ j = 0) : j = nb n := by
  have h1 := nb_ge n h0
  by_cases h : j = nb n
  · exact h
  · have h2 := Nat.pow_le_pow_right (show 0 < 256 by decide) (show j ≤ nb n - 1 by omega)
    have := Nat.div_eq_zero_iff.1 hq
    have hp : 0 < 256 ^ j := Nat.pow_pos (by decide)
    omega

theorem more_left (n j : Nat) (hn : n < 2 ^ 64) (hj : j ≤ nb n) (hq : n / 256 ^ j ≠ 0) : j + 1 ≤ nb n := by
  have h1 := nb_lt n hn
  by_cases h : j = nb n
  · subst h; exact absurd (Nat.div_eq_of_lt h1) hq
  · omega


set_option maxRecDepth 100000 in
set_option maxHeartbeats 1000000 in
theorem refNum_big (v : Value) (l : List UInt8) (n : Nat) (w : World) (hr : Rd w v l) (hl : l.length + 9 ≤ 140737488355328) (hn : 248 ≤ n) (hn2 : n ≤ 18446744073709551615) :
    Calls Try.prog 70 #[v, .int .u64 n] w (Fresh 5 w ((l ++ enc n).map bv)) := by
  obtain ⟨i0, hi, hz0, hz1, hz2⟩ := info_parts Try.info5
  have HR := Lib.hid (hr.mono ((Below.refl _ w).alloc (Nat.le_refl _) (.cells #[] 5)))
  have HO := Lib.hid (empty_owned w)
  have HB := Lib.hid (bv_oneCell l)
  have hlm : (l.map bv).length = l.length := List.length_map _
  have HLM := Lib.hid hlm
  have hd : decide ((n : Int) < 248) = false := decide_eq_false (by omega)
  clear hr hlm
  go_enter Try.func70, Try.ntmps70
  go_wp2_with (at_builtin; go_loud (refine wpList_append_rd rfl (.tmp 8) (.tmp 9) 33 rfl w.heap.size 5 i0 (.int .u8 0) 1 Try.underlying33 hi hz0 hz1 hz2 rfl _ _ _ rfl HO.out _ _ rfl HR.out HB.out (by rw [HLM.out]; unfold maxLen; omega) (by rw [HLM.out]; omega) (by simp) ?_); intro v2 w2 hown2 hgrow2)
  have hbel2 : Below w.heap.size w w2 := ((Below.refl _ w).alloc (Nat.le_refl _) _).grown hgrow2 (by simp) (fun k hk => by cases hk; exact Nat.le_refl _)
  simp only [Nat.zero_add, List.nil_append] at hown2
  have HB2 := Lib.hid hbel2
  have HO2 := Lib.hid hown2
  clear hbel2 hown2 hgrow2
  go_loopw [1, 6] (fun q vl wr => ∃ j : Nat, j ≤ nb n ∧ q = .int .u64 ((n / 256 ^ j : Nat) : Int) ∧ Rd wr vl (be j n) ∧ (∀ k, vl.ownBlock = some k → v2.ownBlock ≠ some k) ∧ wr.ownsRow w.heap.size 5 1 v2 (l.map bv).length (l.map bv) ∧ Below w.heap.size w wr) (fun q _ _ => (intOf q).toNat)
  case atStart => exact ⟨0, Nat.zero_le _, by simp, Rd.nil _, (fun k hk => by cases hk), HO2.out, HB2.out⟩
  case round =>
    obtain ⟨j, hj, rfl, hrd, hdis, hown, hbel⟩ := hrel
    have HDIS := Lib.hid hdis
    clear hdis
    have hq64 : n / 256 ^ j ≤ 18446744073709551615 := Nat.le_trans (Nat.div_le_self _ _) hn2
    have hdm := div_more n j
    have hle := nb_le n
    by_cases hq : n / 256 ^ j = 0
    · have hjk := all_taken n j (by omega) (by omega) hj hq
      subst hjk
      rw [hq]
      have hsh := Rd.shape hrd
      rw [be_length] at hsh
      obtain ⟨a, cap, rfl, _, _⟩ := hsh
      have HRD := Lib.hid hrd
      have HOW := Lib.hid hown
      have HBE := Lib.hid hbel
      have HSZ := hbel.size
      have hlb : ((be (nb n) n).map bv).length = nb n := by rw [List.length_map, be_length]
      have HLB := Lib.hid hlb
      clear hrd hown hbel hdm hq hq64 hlb
      go_wp2_with (first
        | (at_builtin; go_loud (refine wpList_append_own _ rfl (.tmp 29) (.tmp 34) 33 rfl w.heap.size 5 i0 (.int .u8 0) 1 1 Try.underlying33 hi hz0 hz1 hz2 rfl (by decide) _ _ _ rfl (HOW.out.alloc _) ⟨wr.heap.size, 0, none⟩ 1 1 [_] rfl rfl (cell_one_new _ _ _) (by simp [Value.oneCell']) (by rw [HLM.out]; unfold maxLen; omega) (by rw [HLM.out]; omega) (by simp; omega) ?_); intro v4 w4 hown4 hgrow4 _)
        | (at_builtin; go_loud (refine wpList_append_rd rfl (.tmp 36) (.tmp 37) 33 rfl w.heap.size 5 i0 (.int .u8 0) 1 Try.underlying33 hi hz0 hz1 hz2 rfl _ _ _ rfl hown4 _ _ rfl (kept_owned hgrow4 HDIS.out HRD.out) (bv_oneCell _) (by rw [HLM.out, HLB.out]; unfold maxLen; omega) (by rw [HLM.out, HLB.out]; omega) (by have := hgrow4.size; simp at this; omega) ?_); intro v5 w5 hown5 hgrow5))
      go_ret
      have e : bv (UInt8.ofNat (247 + nb n)) = Value.int .u8 (247 + (nb n : Int)) := by
        unfold bv
        rw [UInt8.toNat_ofNat', Nat.mod_eq_of_lt (by omega), Int.natCast_add]
        rfl
      refine ⟨_, rfl, ?_, (((HBE.out.alloc HSZ _).grown hgrow4 (by simp; omega) (fun k hk => (HOW.out.lt k hk).1)).grown hgrow5 (by have := hgrow4.size; simp at this; omega) (fun k hk => (hown4.lt k hk).1))⟩
      rw [← e] at hown5
      unfold enc
      rw [if_neg (by omega)]
      simp only [List.map_append, List.map_cons, List.length_append, List.length_map, List.length_cons, List.append_assoc, List.cons_append, List.nil_append, Nat.add_assoc, Nat.add_comm 1] at hown5 ⊢
      exact hown5
    · have hmore := more_left n j (by omega) hj hq
      have hbe : be (j + 1) n = UInt8.ofNat (n / 256 ^ j) :: be j n := rfl
      have HQ := Lib.hid (show bv (UInt8.ofNat (n / 256 ^ j)) = .int .u8 (((n / 256 ^ j : Nat) : Int) % 256) by unfold bv; rw [UInt8.toNat_ofNat']; congr 1)
      have HBEQ := Lib.hid hbe
      have HDM := Lib.hid hdm
      clear hbe hdm
      generalize n / 256 ^ j = q at *
      have HRD := Lib.hid (hrd.mono ((Below.refl _ wr).alloc (Nat.le_refl _) (.cells #[.int .u8 ((q : Int) % 256)] 5)))
      have HOW := Lib.hid hown
      have HBE := Lib.hid hbel
      have HSZ := hbel.size
      have hq1 : 1 ≤ q := by omega
      have hlb : ((be j n).map bv).length = j := by rw [List.length_map, be_length]
      have HLB := Lib.hid hlb
      clear hrd hown hbel hlb
      go_wp2_with (at_builtin; go_loud (refine wpList_append_rd rfl (.tmp 24) (.tmp 25) 33 rfl wr.heap.size 5 i0 (.int .u8 0) 1 Try.underlying33 hi hz0 hz1 hz2 rfl _ _ _ rfl (one_owned wr wr.heap.size _ (Nat.le_refl _)) _ _ rfl HRD.out (bv_oneCell _) (by rw [HLB.out]; unfold maxLen; omega) (by rw [HLB.out]; omega) (by simp) ?_); intro v4 w4 hown4 hgrow4)
      go_roundw
      case rel =>
        refine ⟨j + 1, hmore, ?_, ?_, fun k hk hh => ?_, ?_, ?_⟩
        · rw [← HDM.out]; rfl
        · have := RdV.of_owns hown4
          rw [← HQ.out] at this
          rw [HBEQ.out]
          exact this
        · have h1 := (hown4.lt k hk).1
          have h2 := (HOW.out.lt k hh).2
          omega
        · refine (HOW.out.alloc _).kept hgrow4 (.inr fun hh => ?_)
          have := HOW.out.lt wr.heap.size (by rw [hh]; rfl)
          omega
        · exact (HBE.out.alloc HSZ _).grown hgrow4 (by simp; omega) (fun k hk => by cases hk; exact HSZ)
      case measure => simp [intOf]; omega

theorem refNum_any (v : Value) (l : List UInt8) (n : Nat) (w : World) (hr : Rd w v l) (hl : l.length + 9 ≤ 140737488355328) (hn : n ≤ 18446744073709551615) :
    Calls Try.prog 70 #[v, .int .u64 n] w (Fresh 5 w ((l ++ enc n).map bv)) := by
  by_cases h : n < 248
  · exact refNum_small v l n w hr hl h
  · exact refNum_big v l n w hr hl (by omega) hn

theorem refInt_any (v : Value) (l : List UInt8) (n : Int) (w : World) (hr : Rd w v l) (hl : l.length + 9 ≤ 140737488355328) (h0 : -9223372036854775808 ≤ n) (h1 : n ≤ 9223372036854775807) :
    Calls Try.prog 47 #[v, .int .i64 n] w (Fresh 5 w ((l ++ enc (zig n)).map bv)) := by
  have hz : zig n ≤ 18446744073709551615 := by unfold zig; split <;> omega
  go_enter Try.func47, Try.ntmps47
  go_wp2_with fail
  refine (refZig_any n _ h0 h1).mono ?_
  rintro e w1 ⟨rfl, rfl⟩
  go_wp2_with fail
  refine (refNum_any v l (zig n) _ hr hl hz).mono ?_
  rintro e w2 ⟨v2, rfl, hown2, hbel2⟩
  go_wp2_with fail
  go_ret
  exact ⟨_, rfl, hown2, hbel2⟩

set_option maxHeartbeats 400000 in
theorem refText_any (v : Value) (l : List UInt8) (s : ByteArray) (w : World) (hr : Rd w v l) (hl : l.length + 9 + s.size ≤ 140737488355328) :
    Calls Try.prog 69 #[v, .string s] w (Fresh 5 w ((l ++ enc s.size ++ s.data.toList).map bv)) := by
  obtain ⟨i0, hi, hz0, hz1, hz2⟩ := info_parts Try.info5
  go_enter Try.func69, Try.ntmps69
  go_wp2_with fail
  refine (refNum_any v l s.size _ hr (by omega) (by omega)).mono ?_
  rintro e w2 ⟨v2, rfl, hown2, hbel2⟩
  obtain ⟨u, w3, hcv, hru, hb3⟩ := bytes_of (P := Try.prog) w2 9 33 5 s Try.underlying9 Try.underlying33 Try.underlying5 (by unfold maxLen; omega)
  have hle := hbel2.size
  have hle3 := hb3.size
  have hown3 : w3.ownsRow w.heap.size 5 1 v2 ((l ++ enc s.size).map bv).length ((l ++ enc s.size).map bv) := hown2.kept (row := none) ⟨hb3.os, hb3.tape, hb3.output, hb3.size, fun k hk _ => hb3.block k hk⟩ (by cases v2.ownBlock <;> simp)
  have hn : ((l ++ enc s.size).map bv).length + (s.data.toList.map bv).length ≤ 140737488355328 := by
    have := enc_length s.size
    have h2 : s.data.toList.length = s.size := Array.length_toList
    rw [List.length_map, List.length_map, List.length_append, h2]
    omega
  have HN := Lib.hid hn
  have HO3 := Lib.hid hown3
  have HU := Lib.hid hru
  have HB3 := Lib.hid (hbel2.trans (hb3.mono hle))
  clear hown2 hown3 hru hb3 hbel2 hn
  go_wp2_with (at_builtin; go_loud (refine wpList_append_rd rfl (.tmp 11) (.tmp 13) 33 rfl w.heap.size 5 i0 (.int .u8 0) 1 Try.underlying33 hi hz0 hz1 hz2 rfl _ _ _ rfl HO3.out _ _ rfl HU.out (bv_oneCell _) (by have := HN.out; unfold maxLen; omega) (by have := HN.out; omega) (by omega) ?_); intro v4 w4 hown4 hgrow4)
  go_ret
  refine ⟨_, rfl, ?_, HB3.out.grown hgrow4 (by omega) (fun k hk => (HO3.out.lt k hk).1)⟩
  rw [List.map_append, List.length_append]
  exact hown4

end Go.Proofs.Ytlbilmmjcfiokaa
