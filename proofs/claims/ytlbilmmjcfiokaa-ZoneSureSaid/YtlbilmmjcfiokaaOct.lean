/-
  The contracts of octets' encoders: Num, Int, Text and what they call.
-/
import Derived.Test.YtlbilmmjcfiokaaSlices
import Derived.Test.YtlbilmmjcfiokaaPure
import Derived.Laws.AppendOwnNone
import Derived.Shelf.Strconv.Itoa0
import Derived.Lib.AppendStr
namespace Go.Proofs.Ytlbilmmjcfiokaa
open Go.RowKit


open Go.Shelf in
def lays64_ren : Go.Shelf.Ren := ⟨fun | 129 => 95 | n => n, fun | 53 => 74 | 3 => 3 | 4 => 4 | 46 => 89 | 5 => 5 | 9 => 9 | n => n, fun | n => n⟩
open Go.Shelf in
theorem lays64 : Go.Proofs.Lays.n129 Try.prog lays64_ren := {
  mixed := by kernel_rfl
  f129 := Try.func95.trans (congrArg some (by kernel_rfl))
  t3 := Try.underlying3
  a3 := Try.isAgg3
  z3 := Try.sizeOf3
  v3 := Try.zeroValue3
  t4 := Try.underlying4
  a4 := Try.isAgg4
  z4 := Try.sizeOf4
  v4 := Try.zeroValue4
  t5 := Try.underlying5
  a5 := Try.isAgg5
  z5 := Try.sizeOf5
  v5 := Try.zeroValue5
  t9 := Try.underlying9
  a9 := Try.isAgg9
  z9 := Try.sizeOf9
  v9 := Try.zeroValue9
  t46 := Try.underlying89
  a46 := Try.isAgg89
  z46 := Try.sizeOf89
  v46 := Try.zeroValue89
  t53 := Try.underlying74
  a53 := Try.isAgg74
  z53 := Try.sizeOf74
  v53 := Try.zeroValue74 }

theorem len64 (x : Nat) (w : World) (h1 : x ≤ 18446744073709551615) :
    Calls Try.prog 95 #[.int .u64 x] w fun e w' => e = .returned (.int .i64 (Lib.bitLen x)) ∧ w = w' :=
  (Any.bits_Len64 lays64 x w (by omega) (by omega)).mono fun e w' ⟨he, hw⟩ => ⟨by simpa using he, hw.symm⟩

theorem or_one (x : Int) (h0 : 0 ≤ x) (h1 : x ≤ 9223372036854775807) : bits BinOp.or IntKind.u64 (x * 2) 1 = x * 2 + 1 := u64_or_low x 1 1 h0 (by omega) (by omega) (by omega)

theorem fold_any (n : Int) (w : World) (h0 : -9223372036854775808 ≤ n) (h1 : n ≤ 9223372036854775807) :
    Calls Try.prog 68 #[.int .i64 n] w fun e w' => e = .returned (.int .u64 (zig n)) ∧ w = w' := by
  by_cases h : n < 0
  · go_enter Try.func68, Try.ntmps68
    go_wp2
    go_ret
    refine ⟨congrArg Ending.returned (congrArg (Value.int IntKind.u64) ?_), rfl⟩
    rw [zig_neg n h]
    exact or_one _ (by omega) (by omega)
  · go_enter Try.func68, Try.ntmps68
    go_wp2
    go_ret
    refine ⟨congrArg Ending.returned (congrArg (Value.int IntKind.u64) ?_), rfl⟩
    rw [zig_pos n (by omega)]



set_option maxHeartbeats 400000 in
theorem copyOf_nil (m : Int) (w : World) (h0 : 0 ≤ m) (h1 : m ≤ 140737488355328) :
    Calls Try.prog 88 #[.slice none 0 0, .int .i64 m] w (Fresh 5 w []) := by
  obtain ⟨i0, hi, hz0, hz1, hz2⟩ := info_parts Try.info5
  go_enter Try.func88, Try.ntmps88
  go_wp2_with (first | (at_make; refine wpList_make_own _ rfl _ _ 33 rfl w.heap.size 5 i0 (.int .u8 0) 1 Try.underlying33 hi hz0 hz1 _ _ _ m.toNat rfl rfl (by omega) (by rw [hz2]; omega) (by unfold maxLen; omega) (Nat.le_refl _) ?_; intro w1 hown1 hgrow1) | (at_builtin; go_loud (refine wpList_append_own_none rfl _ _ 33 rfl w.heap.size 5 i0 1 Try.underlying33 hi _ _ _ rfl hown1 rfl ?_)))
  go_ret
  exact ⟨_, rfl, hown1, (Below.refl _ _).grown hgrow1 (Nat.le_refl _) (fun k hk => by cases hk)⟩

set_option maxHeartbeats 400000 in
theorem copyOf_some (x : Addr) (L cap : Nat) (xs : List Value) (m : Int) (w : World) (hL : xs.length = L) (hc : ∀ i u, xs[i]? = some u → w.cell? (x.add i) = some u)
    (h1c : ∀ u ∈ xs, u.oneCell' = true) (h0 : 0 ≤ m) (h1 : L + m ≤ 140737488355328) :
    Calls Try.prog 88 #[.slice (some x) L cap, .int .i64 m] w (Fresh 5 w xs) := by
  obtain ⟨i0, hi, hz0, hz1, hz2⟩ := info_parts Try.info5
  have HL := Lib.hid hL
  have HC := Lib.hid hc
  have H1 := Lib.hid h1c
  clear hL hc h1c
  go_enter Try.func88, Try.ntmps88
  go_wp2_with (first | (at_make; go_loud (refine wpList_make_own _ rfl _ _ 33 rfl w.heap.size 5 i0 (.int .u8 0) 1 Try.underlying33 hi hz0 hz1 _ _ _ (L + m.toNat) rfl rfl (by omega) (by rw [hz2]; omega) (by unfold maxLen; omega) (Nat.le_refl _) ?_); intro w1 hown1 hgrow1) | (at_builtin; go_loud (refine wpList_append_own _ rfl _ _ 33 rfl w.heap.size 5 i0 (.int .u8 0) 1 1 Try.underlying33 hi hz0 hz1 hz2 rfl (by decide) _ _ _ rfl hown1 x L cap xs rfl (by rw [HL.out, Nat.mul_one]) (kept_cells hgrow1 HC.out) H1.out (by unfold maxLen; omega) (by omega) hgrow1.size ?_); intro v2 w2 hown2 hgrow2 _))
  go_ret
  refine ⟨_, rfl, ?_, ((Below.refl _ _).grown hgrow1 (Nat.le_refl _) (fun k hk => by cases hk)).grown hgrow2 hgrow1.size ?_⟩
  · rw [HL.out]; simpa using hown2
  · intro k hk; cases hk; exact Nat.le_refl _

theorem copyOf_any (v : Value) (l : List UInt8) (m : Int) (w : World) (hr : Rd w v l) (h0 : 0 ≤ m) (h1 : l.length + m ≤ 140737488355328) :
    Calls Try.prog 88 #[v, .int .i64 m] w (Fresh 5 w (l.map bv)) := by
  rcases hr with ⟨rfl, h2⟩ | ⟨x, cap, rfl, h2, h3, h4⟩
  · rw [h2]; exact copyOf_nil m w h0 (by omega)
  · exact copyOf_some x _ cap _ m w rfl h4 (bv_oneCell l) h0 (by simpa using h1)

set_option maxRecDepth 100000 in
set_option maxHeartbeats 400000 in
/-- putNum below 248. -/
theorem putNum_small (v : Value) (l : List UInt8) (n : Nat) (base : Nat) (w : World) (hown : w.ownsRow base 5 1 v l.length (l.map bv)) (hb : base ≤ w.heap.size) (hl : l.length + 9 ≤ 140737488355328) (hn : n < 248) :
    Calls Try.prog 87 #[v, .int .u64 n] w fun e w' => ∃ v', e = .returned v' ∧ w'.ownsRow base 5 1 v' (l ++ enc n).length ((l ++ enc n).map bv) ∧ Below base w w' := by
  obtain ⟨i0, hi, hz0, hz1, hz2⟩ := info_parts Try.info5
  go_enter Try.func87, Try.ntmps87
  go_wp2_with (first | (at_builtin; go_loud (refine wpList_append_own _ rfl _ _ 33 rfl base 5 i0 (.int .u8 0) 1 1 Try.underlying33 hi hz0 hz1 hz2 rfl (by decide) _ _ _ rfl (hown.alloc _) ⟨w.heap.size, 0, none⟩ 1 1 [.int .u8 n] rfl rfl (cell_one_new _ _ _) (by simp [Value.oneCell']) (by unfold maxLen; omega) (by omega) (by simp; omega) ?_); intro v2 w2 hown2 hgrow2 _))
  go_ret
  refine ⟨_, rfl, ?_, ((Below.refl _ _).alloc hb _).grown hgrow2 (by simp; omega) (fun k hk => (hown.lt k hk).1)⟩
  have e : enc n = [UInt8.ofNat n] := by unfold enc; rw [if_pos hn]
  rw [e, List.map_append, List.length_append]
  simpa [bv, Nat.mod_eq_of_lt (show n < 256 by omega)] using hown2

/-- What putNum has appended when j bytes are still to come. -/
def cur (l : List UInt8) (n j : Nat) : List UInt8 := l ++ UInt8.ofNat (247 + nb n) :: (be (nb n) n).take (nb n - j)

theorem bv_shift (n m : Nat) : bv (UInt8.ofNat (n / 256 ^ m)) = Value.int .u8 ((n : Int) / 2 ^ (8 * m) % 256) := by
  have e : (256 : Nat) ^ m = 2 ^ (8 * m) := by rw [Nat.pow_mul]
  unfold bv
  rw [e, UInt8.toNat_ofNat']
  congr 1

theorem cur_top (l : List UInt8) (n : Nat) : cur l n (nb n) = l ++ [UInt8.ofNat (247 + nb n)] := by simp [cur]
theorem cur_zero (l : List UInt8) (n : Nat) (h : 248 ≤ n) : cur l n 0 = l ++ enc n := by
  unfold cur enc
  rw [if_neg (by omega), List.take_of_length_le (by rw [be_length]; omega)]
theorem cur_snoc (l : List UInt8) (n j : Nat) (h : j < nb n) : cur l n j = cur l n (j + 1) ++ [UInt8.ofNat (n / 256 ^ j)] := by
  unfold cur
  rw [be_take_snoc (nb n) j n h]
  simp
theorem cur_length (l : List UInt8) (n j : Nat) (h : j ≤ nb n) : (cur l n j).length + j ≤ l.length + 9 := by
  have := nb_le n
  simp [cur, be_length]
  omega

set_option maxRecDepth 100000 in
set_option maxHeartbeats 1000000 in
/-- putNum from 248 on. -/
theorem putNum_big (v : Value) (l : List UInt8) (n : Nat) (base : Nat) (w : World) (hown : w.ownsRow base 5 1 v l.length (l.map bv)) (hb : base ≤ w.heap.size) (hl : l.length + 9 ≤ 140737488355328) (hn : 248 ≤ n) (hn2 : n ≤ 18446744073709551615) :
    Calls Try.prog 87 #[v, .int .u64 n] w fun e w' => ∃ v', e = .returned v' ∧ w'.ownsRow base 5 1 v' (l ++ enc n).length ((l ++ enc n).map bv) ∧ Below base w w' := by
  obtain ⟨i0, hi, hz0, hz1, hz2⟩ := info_parts Try.info5
  have hB := bitLen_le n
  have hn8 : decide ((n : Int) < 248) = false := by simp; omega
  have HN := Lib.hid (show nb n = (Lib.bitLen n + 7) / 8 from rfl)
  go_enter Try.func87, Try.ntmps87
  go_wp2_with fail
  refine (len64 n _ hn2).mono ?_
  rintro e w' ⟨rfl, rfl⟩
  go_wp2_with (first | (at_builtin; go_loud (refine wpList_append_own _ rfl _ _ 33 rfl base 5 i0 (.int .u8 0) 1 1 Try.underlying33 hi hz0 hz1 hz2 rfl (by decide) _ _ _ rfl (hown.alloc _) ⟨w.heap.size, 0, none⟩ 1 1 [_] rfl rfl (cell_one_new _ _ _) (by simp [Value.oneCell']) (by unfold maxLen; omega) (by omega) (by simp; omega) ?_); intro v2 w2 hown2 hgrow2 _))
  have hbel2 : Below base w w2 := ((Below.refl _ _).alloc hb _).grown hgrow2 (by simp; omega) (fun k hk => (hown.lt k hk).1)
  have hown2' : w2.ownsRow base 5 1 v2 (cur l n (nb n)).length ((cur l n (nb n)).map bv) := by
    rw [cur_top, List.map_append, List.length_append]
    have e : bv (UInt8.ofNat (247 + nb n)) = Value.int .u8 (247 + ((Lib.bitLen n : Int) + 7) / 8) := by
      unfold bv
      rw [UInt8.toNat_ofNat', HN.out, Nat.mod_eq_of_lt (by omega)]
      congr 1
    rw [List.map_singleton, e]
    simpa using hown2
  clear hown2 hgrow2
  go_loopw [0, 6] (fun v0 i wr => ∃ j : Nat, j ≤ nb n ∧ i = .int .i64 ((j : Int) - 1) ∧ wr.ownsRow base 5 1 v0 (cur l n j).length ((cur l n j).map bv) ∧ Below base w wr) (fun _ i _ => (intOf i + 1).toNat)
  case atStart =>
    refine ⟨nb n, Nat.le_refl _, ?_, ?_, ?_⟩
    · rw [HN.out]; congr 1
    · exact hown2'
    · exact hbel2
  case round =>
    obtain ⟨j, hj, rfl, hown, hbel⟩ := hrel
    have hK : nb n ≤ 8 := nb_le n
    by_cases hj0 : j = 0
    · subst hj0
      go_wp2
      go_ret
      rw [cur_zero l n hn] at hown
      exact ⟨_, rfl, hown, hbel⟩
    · have hcl := cur_length l n j hj
      have hj1 : 1 ≤ j := by omega
      have hs := hbel.size
      go_wp2_with (first | (at_builtin; go_loud (refine wpList_append_own _ rfl _ _ 33 rfl base 5 i0 (.int .u8 0) 1 1 Try.underlying33 hi hz0 hz1 hz2 rfl (by decide) _ _ _ rfl (hown.alloc _) ⟨wr.heap.size, 0, none⟩ 1 1 [_] rfl rfl (cell_one_new _ _ _) (by simp [Value.oneCell']) (by unfold maxLen; omega) (by omega) (by simp; omega) ?_); intro v3 w3 hown3 hgrow3 _))
      go_roundw
      case rel =>
        refine ⟨j - 1, by omega, by congr 1; omega, ?_, (hbel.alloc (by omega) _).grown hgrow3 (by simp; omega) (fun k hk => (hown.lt k hk).1)⟩
        rw [cur_snoc l n (j - 1) (by omega), Nat.sub_add_cancel hj1, List.map_append, List.map_singleton, bv_shift, List.length_append]
        exact hown3
      case measure => simp [intOf]; omega

theorem putNum_any (v : Value) (l : List UInt8) (n : Nat) (base : Nat) (w : World) (hown : w.ownsRow base 5 1 v (l.map bv).length (l.map bv)) (hb : base ≤ w.heap.size) (hl : l.length + 9 ≤ 140737488355328) (hn : n ≤ 18446744073709551615) :
    Calls Try.prog 87 #[v, .int .u64 n] w fun e w' => ∃ v', e = .returned v' ∧ w'.ownsRow base 5 1 v' ((l ++ enc n).map bv).length ((l ++ enc n).map bv) ∧ Below base w w' := by
  rw [List.length_map] at *
  by_cases h : n < 248
  · exact putNum_small v l n base w hown hb hl h
  · exact putNum_big v l n base w hown hb hl (by omega) hn

/-- Num: b followed by the encoding, in memory of its own. -/
theorem Num_any (v : Value) (l : List UInt8) (n : Nat) (w : World) (hr : Rd w v l) (hl : l.length + 9 ≤ 140737488355328) (hn : n ≤ 18446744073709551615) :
    Calls Try.prog 66 #[v, .int .u64 n] w (Fresh 5 w ((l ++ enc n).map bv)) := by
  go_enter Try.func66, Try.ntmps66
  go_wp2_with fail
  refine (copyOf_any v l 9 _ hr (by omega) (by omega)).mono ?_
  rintro e w1 ⟨v1, rfl, hown1, hbel1⟩
  go_wp2_with fail
  refine (putNum_any v1 l n w.heap.size _ hown1 hbel1.size hl hn).mono ?_
  rintro e w2 ⟨v2, rfl, hown2, hbel2⟩
  go_wp2_with fail
  go_ret
  exact ⟨_, rfl, hown2, hbel1.trans hbel2⟩

theorem Int_any (v : Value) (l : List UInt8) (n : Int) (w : World) (hr : Rd w v l) (hl : l.length + 9 ≤ 140737488355328) (h0 : -9223372036854775808 ≤ n) (h1 : n ≤ 9223372036854775807) :
    Calls Try.prog 45 #[v, .int .i64 n] w (Fresh 5 w ((l ++ enc (zig n)).map bv)) := by
  have hz : zig n ≤ 18446744073709551615 := by unfold zig; split <;> omega
  go_enter Try.func45, Try.ntmps45
  go_wp2_with fail
  refine (fold_any n _ h0 h1).mono ?_
  rintro e w1 ⟨rfl, rfl⟩
  go_wp2_with fail
  refine (Num_any v l (zig n) _ hr hl hz).mono ?_
  rintro e w2 ⟨v2, rfl, hown2, hbel2⟩
  go_wp2_with fail
  go_ret
  exact ⟨_, rfl, hown2, hbel2⟩

set_option maxHeartbeats 400000 in
theorem Text_any (v : Value) (l : List UInt8) (s : ByteArray) (w : World) (hr : Rd w v l) (hl : l.length + 9 + s.size ≤ 140737488355328) :
    Calls Try.prog 67 #[v, .string s] w (Fresh 5 w ((l ++ enc s.size ++ s.data.toList).map bv)) := by
  obtain ⟨i0, hi, hz0, hz1, hz2⟩ := info_parts Try.info5
  go_enter Try.func67, Try.ntmps67
  go_wp2_with fail
  refine (copyOf_any v l (9 + s.size) _ hr (by omega) (by omega)).mono ?_
  rintro e w1 ⟨v1, rfl, hown1, hbel1⟩
  go_wp2_with fail
  refine (putNum_any v1 l s.size w.heap.size _ hown1 hbel1.size (by omega) (by omega)).mono ?_
  rintro e w2 ⟨v2, rfl, hown2, hbel2⟩
  have hle : (List.map bv (l ++ enc s.size)).length + s.size ≤ 140737488355328 := by
    have := enc_length s.size
    simp
    omega
  go_wp2_with (first | (at_builtin; go_loud (refine Lib.wpList_append_own_string _ rfl _ _ 33 9 rfl w.heap.size 5 i0 Try.underlying33 Try.underlying9 hi hz0 hz1 hz2 _ _ _ rfl hown2 s rfl (by unfold maxLen; omega) hle (hbel1.trans hbel2).size ?_); intro v3 w3 hown3 hgrow3 _))
  go_ret
  refine ⟨_, rfl, ?_, (hbel1.trans hbel2).grown hgrow3 (hbel1.trans hbel2).size (fun k hk => (hown2.lt k hk).1)⟩
  have e : Lib.strCells s = s.data.toList.map bv := rfl
  rw [e] at hown3
  have hl3 : s.data.toList.length = s.size := Array.length_toList
  simpa [hl3, Nat.add_assoc] using hown3

end Go.Proofs.Ytlbilmmjcfiokaa
