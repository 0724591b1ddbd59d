/-
  Texts of this proof, merged: Oct, Ref, CellRefPut, Vals, Head.
-/
import Derived.Laws.AppendOwnNone
import Derived.Shelf.Strconv.Itoa0
import Derived.Lib.Small
import Derived.Lib.Walk
import Derived.Lib.AppendStr
import Derived.RegionTactic
import Derived.ChangeAlike
import Derived.Lib.SmallJoins
import Derived.Test.YtoagpaphghgkmaaZ1
import Derived.Test.YtoagpaphghgkmaaZ7
import Derived.Test.YtoagpaphghgkmaaZ2
import Derived.Test.YtoagpaphghgkmaaZ6
import Derived.Test.YtoagpaphghgkmaaZ3
/-
  The contracts of octets' encoders: Num, Int, Text and what they call.
-/
namespace Go.Proofs.Ytoagpaphghgkmaa
open Go.RowKit


open Go.Shelf in
def lays64_ren : Go.Shelf.Ren := ⟨fun | 129 => 103 | n => n, fun | 53 => 107 | 3 => 3 | 4 => 4 | 46 => 117 | 5 => 5 | 9 => 9 | n => n, fun | n => n⟩ -- 104
open Go.Shelf in
theorem lays64 : Go.Proofs.Lays.n129 Try.prog lays64_ren := {
  mixed := by kernel_rfl
  f129 := Try.func103.trans (congrArg some (by kernel_rfl))
  t3 := Try.underlying3
  a3 := Try.isAgg3
  z3 := Try.sizeOf3
  v3 := Try.zeroValue3
  t4 := Try.underlying4
  a4 := Try.isAgg4
  z4 := Try.sizeOf4
  v4 := Try.zeroValue4
  t5 := Try.underlying5
  a5 := Try.isAgg5
  z5 := Try.sizeOf5
  v5 := Try.zeroValue5
  t9 := Try.underlying9
  a9 := Try.isAgg9
  z9 := Try.sizeOf9
  v9 := Try.zeroValue9
  t46 := Try.underlying117
  a46 := Try.isAgg117
  z46 := Try.sizeOf117
  v46 := Try.zeroValue117
  t53 := Try.underlying107
  a53 := Try.isAgg107
  z53 := Try.sizeOf107
  v53 := Try.zeroValue107 }

theorem len64 (x : Nat) (w : World) (h1 : x ≤ 18446744073709551615) :
    Calls Try.prog 103 #[.int .u64 x] w fun e w' => e = .returned (.int .i64 (Lib.bitLen x)) ∧ w = w' :=
  (Any.bits_Len64 lays64 x w (by omega) (by omega)).mono fun e w' ⟨he, hw⟩ => ⟨by simpa using he, hw.symm⟩

theorem or_one (x : Int) (h0 : 0 ≤ x) (h1 : x ≤ 9223372036854775807) : bits BinOp.or IntKind.u64 (x * 2) 1 = x * 2 + 1 := u64_or_low x 1 1 h0 (by omega) (by omega) (by omega)

theorem fold_any (n : Int) (w : World) (h0 : -9223372036854775808 ≤ n) (h1 : n ≤ 9223372036854775807) :
    Calls Try.prog 104 #[.int .i64 n] w fun e w' => e = .returned (.int .u64 (zig n)) ∧ w = w' := by
  by_cases h : n < 0
  · go_enter Try.func104, Try.ntmps104
    go_wp2
    go_ret
    refine ⟨congrArg Ending.returned (congrArg (Value.int IntKind.u64) ?_), rfl⟩
    rw [zig_neg n h]
    exact or_one _ (by omega) (by omega)
  · go_enter Try.func104, Try.ntmps104
    go_wp2
    go_ret
    refine ⟨congrArg Ending.returned (congrArg (Value.int IntKind.u64) ?_), rfl⟩
    rw [zig_pos n (by omega)]



set_option maxHeartbeats 400000 in
theorem copyOf_nil (m : Int) (w : World) (h0 : 0 ≤ m) (h1 : m ≤ 140737488355328) :
    Calls Try.prog 86 #[.slice none 0 0, .int .i64 m] w (Fresh 5 w []) := by
  obtain ⟨i0, hi, hz0, hz1, hz2⟩ := info_parts Try.info5
  go_enter Try.func86, Try.ntmps86
  go_wp2_with (first | (at_make; refine wpList_make_own _ rfl _ _ 43 rfl w.heap.size 5 i0 (.int .u8 0) 1 Try.underlying43 hi hz0 hz1 _ _ _ m.toNat rfl rfl (by omega) (by rw [hz2]; omega) (by unfold maxLen; omega) (Nat.le_refl _) ?_; intro w1 hown1 hgrow1) | (at_builtin; go_loud (refine wpList_append_own_none rfl _ _ 43 rfl w.heap.size 5 i0 1 Try.underlying43 hi _ _ _ rfl hown1 rfl ?_)))
  go_ret
  exact ⟨_, rfl, hown1, (Below.refl _ _).grown hgrow1 (Nat.le_refl _) (fun k hk => by cases hk)⟩

set_option maxHeartbeats 400000 in
theorem copyOf_some (x : Addr) (L cap : Nat) (xs : List Value) (m : Int) (w : World) (hL : xs.length = L) (hc : ∀ i u, xs[i]? = some u → w.cell? (x.add i) = some u)
    (h1c : ∀ u ∈ xs, u.oneCell' = true) (h0 : 0 ≤ m) (h1 : L + m ≤ 140737488355328) :
    Calls Try.prog 86 #[.slice (some x) L cap, .int .i64 m] w (Fresh 5 w xs) := by
  obtain ⟨i0, hi, hz0, hz1, hz2⟩ := info_parts Try.info5
  have HL := Lib.hid hL
  have HC := Lib.hid hc
  have H1 := Lib.hid h1c
  clear hL hc h1c
  go_enter Try.func86, Try.ntmps86
  go_wp2_with (first | (at_make; go_loud (refine wpList_make_own _ rfl _ _ 43 rfl w.heap.size 5 i0 (.int .u8 0) 1 Try.underlying43 hi hz0 hz1 _ _ _ (L + m.toNat) rfl rfl (by omega) (by rw [hz2]; omega) (by unfold maxLen; omega) (Nat.le_refl _) ?_); intro w1 hown1 hgrow1) | (at_builtin; go_loud (refine wpList_append_own _ rfl _ _ 43 rfl w.heap.size 5 i0 (.int .u8 0) 1 1 Try.underlying43 hi hz0 hz1 hz2 rfl (by decide) _ _ _ rfl hown1 x L cap xs rfl (by rw [HL.out, Nat.mul_one]) (kept_cells hgrow1 HC.out) H1.out (by unfold maxLen; omega) (by omega) hgrow1.size ?_); intro v2 w2 hown2 hgrow2 _))
  go_ret
  refine ⟨_, rfl, ?_, ((Below.refl _ _).grown hgrow1 (Nat.le_refl _) (fun k hk => by cases hk)).grown hgrow2 hgrow1.size ?_⟩
  · rw [HL.out]; simpa using hown2
  · intro k hk; cases hk; exact Nat.le_refl _

theorem copyOf_any (v : Value) (l : List UInt8) (m : Int) (w : World) (hr : Rd w v l) (h0 : 0 ≤ m) (h1 : l.length + m ≤ 140737488355328) :
    Calls Try.prog 86 #[v, .int .i64 m] w (Fresh 5 w (l.map bv)) := by
  rcases hr with ⟨rfl, h2⟩ | ⟨x, cap, rfl, h2, h3, h4⟩
  · rw [h2]; exact copyOf_nil m w h0 (by omega)
  · exact copyOf_some x _ cap _ m w rfl h4 (bv_oneCell l) h0 (by simpa using h1)

set_option maxRecDepth 100000 in
set_option maxHeartbeats 400000 in
/-- putNum below 248. -/
theorem putNum_small (v : Value) (l : List UInt8) (n : Nat) (base : Nat) (w : World) (hown : w.ownsRow base 5 1 v l.length (l.map bv)) (hb : base ≤ w.heap.size) (hl : l.length + 9 ≤ 140737488355328) (hn : n < 248) :
    Calls Try.prog 85 #[v, .int .u64 n] w fun e w' => ∃ v', e = .returned v' ∧ w'.ownsRow base 5 1 v' (l ++ enc n).length ((l ++ enc n).map bv) ∧ Below base w w' := by
  obtain ⟨i0, hi, hz0, hz1, hz2⟩ := info_parts Try.info5
  go_enter Try.func85, Try.ntmps85
  go_wp2_with (first | (at_builtin; go_loud (refine wpList_append_own _ rfl _ _ 43 rfl base 5 i0 (.int .u8 0) 1 1 Try.underlying43 hi hz0 hz1 hz2 rfl (by decide) _ _ _ rfl (hown.alloc _) ⟨w.heap.size, 0, none⟩ 1 1 [.int .u8 n] rfl rfl (cell_one_new _ _ _) (by simp [Value.oneCell']) (by unfold maxLen; omega) (by omega) (by simp; omega) ?_); intro v2 w2 hown2 hgrow2 _))
  go_ret
  refine ⟨_, rfl, ?_, ((Below.refl _ _).alloc hb _).grown hgrow2 (by simp; omega) (fun k hk => (hown.lt k hk).1)⟩
  have e : enc n = [UInt8.ofNat n] := by unfold enc; rw [if_pos hn]
  rw [e, List.map_append, List.length_append]
  simpa [bv, Nat.mod_eq_of_lt (show n < 256 by omega)] using hown2

/-- What putNum has appended when j bytes are still to come. -/
def cur (l : List UInt8) (n j : Nat) : List UInt8 := l ++ UInt8.ofNat (247 + nb n) :: (be (nb n) n).take (nb n - j)

theorem bv_shift (n m : Nat) : bv (UInt8.ofNat (n / 256 ^ m)) = Value.int .u8 ((n : Int) / 2 ^ (8 * m) % 256) := by
  have e : (256 : Nat) ^ m = 2 ^ (8 * m) := by rw [Nat.pow_mul]
  unfold bv
  rw [e, UInt8.toNat_ofNat']
  congr 1

theorem cur_top (l : List UInt8) (n : Nat) : cur l n (nb n) = l ++ [UInt8.ofNat (247 + nb n)] := by simp [cur]
theorem cur_zero (l : List UInt8) (n : Nat) (h : 248 ≤ n) : cur l n 0 = l ++ enc n := by
  unfold cur enc
  rw [if_neg (by omega), List.take_of_length_le (by rw [be_length]; omega)]
theorem cur_snoc (l : List UInt8) (n j : Nat) (h : j < nb n) : cur l n j = cur l n (j + 1) ++ [UInt8.ofNat (n / 256 ^ j)] := by
  unfold cur
  rw [be_take_snoc (nb n) j n h]
  simp
theorem cur_length (l : List UInt8) (n j : Nat) (h : j ≤ nb n) : (cur l n j).length + j ≤ l.length + 9 := by
  have := nb_le n
  simp [cur, be_length]
  omega

set_option maxRecDepth 100000 in
set_option maxHeartbeats 1000000 in
/-- putNum from 248 on. -/
theorem putNum_big (v : Value) (l : List UInt8) (n : Nat) (base : Nat) (w : World) (hown : w.ownsRow base 5 1 v l.length (l.map bv)) (hb : base ≤ w.heap.size) (hl : l.length + 9 ≤ 140737488355328) (hn : 248 ≤ n) (hn2 : n ≤ 18446744073709551615) :
    Calls Try.prog 85 #[v, .int .u64 n] w fun e w' => ∃ v', e = .returned v' ∧ w'.ownsRow base 5 1 v' (l ++ enc n).length ((l ++ enc n).map bv) ∧ Below base w w' := by
  obtain ⟨i0, hi, hz0, hz1, hz2⟩ := info_parts Try.info5
  have hB := bitLen_le n
  have hn8 : decide ((n : Int) < 248) = false := by simp; omega
  have HN := Lib.hid (show nb n = (Lib.bitLen n + 7) / 8 from rfl)
  go_enter Try.func85, Try.ntmps85
  go_wp2_with fail
  refine (len64 n _ hn2).mono ?_
  rintro e w' ⟨rfl, rfl⟩
  go_wp2_with (first | (at_builtin; go_loud (refine wpList_append_own _ rfl _ _ 43 rfl base 5 i0 (.int .u8 0) 1 1 Try.underlying43 hi hz0 hz1 hz2 rfl (by decide) _ _ _ rfl (hown.alloc _) ⟨w.heap.size, 0, none⟩ 1 1 [_] rfl rfl (cell_one_new _ _ _) (by simp [Value.oneCell']) (by unfold maxLen; omega) (by omega) (by simp; omega) ?_); intro v2 w2 hown2 hgrow2 _))
  have hbel2 : Below base w w2 := ((Below.refl _ _).alloc hb _).grown hgrow2 (by simp; omega) (fun k hk => (hown.lt k hk).1)
  have hown2' : w2.ownsRow base 5 1 v2 (cur l n (nb n)).length ((cur l n (nb n)).map bv) := by
    rw [cur_top, List.map_append, List.length_append]
    have e : bv (UInt8.ofNat (247 + nb n)) = Value.int .u8 (247 + ((Lib.bitLen n : Int) + 7) / 8) := by
      unfold bv
      rw [UInt8.toNat_ofNat', HN.out, Nat.mod_eq_of_lt (by omega)]
      congr 1
    rw [List.map_singleton, e]
    simpa using hown2
  clear hown2 hgrow2
  go_loopw [0, 6] (fun v0 i wr => ∃ j : Nat, j ≤ nb n ∧ i = .int .i64 ((j : Int) - 1) ∧ wr.ownsRow base 5 1 v0 (cur l n j).length ((cur l n j).map bv) ∧ Below base w wr) (fun _ i _ => (intOf i + 1).toNat)
  case atStart =>
    refine ⟨nb n, Nat.le_refl _, ?_, ?_, ?_⟩
    · rw [HN.out]; congr 1
    · exact hown2'
    · exact hbel2
  case round =>
    obtain ⟨j, hj, rfl, hown, hbel⟩ := hrel
    have hK : nb n ≤ 8 := nb_le n
    by_cases hj0 : j = 0
    · subst hj0
      go_wp2
      go_ret
      rw [cur_zero l n hn] at hown
      exact ⟨_, rfl, hown, hbel⟩
    · have hcl := cur_length l n j hj
      have hj1 : 1 ≤ j := by omega
      have hs := hbel.size
      go_wp2_with (first | (at_builtin; go_loud (refine wpList_append_own _ rfl _ _ 43 rfl base 5 i0 (.int .u8 0) 1 1 Try.underlying43 hi hz0 hz1 hz2 rfl (by decide) _ _ _ rfl (hown.alloc _) ⟨wr.heap.size, 0, none⟩ 1 1 [_] rfl rfl (cell_one_new _ _ _) (by simp [Value.oneCell']) (by unfold maxLen; omega) (by omega) (by simp; omega) ?_); intro v3 w3 hown3 hgrow3 _))
      go_roundw
      case rel =>
        refine ⟨j - 1, by omega, by congr 1; omega, ?_, (hbel.alloc (by omega) _).grown hgrow3 (by simp; omega) (fun k hk => (hown.lt k hk).1)⟩
        rw [cur_snoc l n (j - 1) (by omega), Nat.sub_add_cancel hj1, List.map_append, List.map_singleton, bv_shift, List.length_append]
        exact hown3
      case measure => simp [intOf]; omega

theorem putNum_any (v : Value) (l : List UInt8) (n : Nat) (base : Nat) (w : World) (hown : w.ownsRow base 5 1 v (l.map bv).length (l.map bv)) (hb : base ≤ w.heap.size) (hl : l.length + 9 ≤ 140737488355328) (hn : n ≤ 18446744073709551615) :
    Calls Try.prog 85 #[v, .int .u64 n] w fun e w' => ∃ v', e = .returned v' ∧ w'.ownsRow base 5 1 v' ((l ++ enc n).map bv).length ((l ++ enc n).map bv) ∧ Below base w w' := by
  rw [List.length_map] at *
  by_cases h : n < 248
  · exact putNum_small v l n base w hown hb hl h
  · exact putNum_big v l n base w hown hb hl (by omega) hn

/-- Num: b followed by the encoding, in memory of its own. -/
theorem Num_any (v : Value) (l : List UInt8) (n : Nat) (w : World) (hr : Rd w v l) (hl : l.length + 9 ≤ 140737488355328) (hn : n ≤ 18446744073709551615) :
    Calls Try.prog 68 #[v, .int .u64 n] w (Fresh 5 w ((l ++ enc n).map bv)) := by
  go_enter Try.func68, Try.ntmps68
  go_wp2_with fail
  refine (copyOf_any v l 9 _ hr (by omega) (by omega)).mono ?_
  rintro e w1 ⟨v1, rfl, hown1, hbel1⟩
  go_wp2_with fail
  refine (putNum_any v1 l n w.heap.size _ hown1 hbel1.size hl hn).mono ?_
  rintro e w2 ⟨v2, rfl, hown2, hbel2⟩
  go_wp2_with fail
  go_ret
  exact ⟨_, rfl, hown2, hbel1.trans hbel2⟩

theorem Int_any (v : Value) (l : List UInt8) (n : Int) (w : World) (hr : Rd w v l) (hl : l.length + 9 ≤ 140737488355328) (h0 : -9223372036854775808 ≤ n) (h1 : n ≤ 9223372036854775807) :
    Calls Try.prog 87 #[v, .int .i64 n] w (Fresh 5 w ((l ++ enc (zig n)).map bv)) := by
  have hz : zig n ≤ 18446744073709551615 := by unfold zig; split <;> omega
  go_enter Try.func87, Try.ntmps87
  go_wp2_with fail
  refine (fold_any n _ h0 h1).mono ?_
  rintro e w1 ⟨rfl, rfl⟩
  go_wp2_with fail
  refine (Num_any v l (zig n) _ hr hl hz).mono ?_
  rintro e w2 ⟨v2, rfl, hown2, hbel2⟩
  go_wp2_with fail
  go_ret
  exact ⟨_, rfl, hown2, hbel2⟩

set_option maxHeartbeats 400000 in
theorem Text_any (v : Value) (l : List UInt8) (s : ByteArray) (w : World) (hr : Rd w v l) (hl : l.length + 9 + s.size ≤ 140737488355328) :
    Calls Try.prog 88 #[v, .string s] w (Fresh 5 w ((l ++ enc s.size ++ s.data.toList).map bv)) := by
  obtain ⟨i0, hi, hz0, hz1, hz2⟩ := info_parts Try.info5
  go_enter Try.func88, Try.ntmps88
  go_wp2_with fail
  refine (copyOf_any v l (9 + s.size) _ hr (by omega) (by omega)).mono ?_
  rintro e w1 ⟨v1, rfl, hown1, hbel1⟩
  go_wp2_with fail
  refine (putNum_any v1 l s.size w.heap.size _ hown1 hbel1.size (by omega) (by omega)).mono ?_
  rintro e w2 ⟨v2, rfl, hown2, hbel2⟩
  have hle : (List.map bv (l ++ enc s.size)).length + s.size ≤ 140737488355328 := by
    have := enc_length s.size
    simp
    omega
  go_wp2_with (first | (at_builtin; go_loud (refine Lib.wpList_append_own_string _ rfl _ _ 43 9 rfl w.heap.size 5 i0 Try.underlying43 Try.underlying9 hi hz0 hz1 hz2 _ _ _ rfl hown2 s rfl (by unfold maxLen; omega) hle (hbel1.trans hbel2).size ?_); intro v3 w3 hown3 hgrow3 _))
  go_ret
  refine ⟨_, rfl, ?_, (hbel1.trans hbel2).grown hgrow3 (hbel1.trans hbel2).size (fun k hk => (hown2.lt k hk).1)⟩
  have e : Lib.strCells s = s.data.toList.map bv := rfl
  rw [e] at hown3
  have hl3 : s.data.toList.length = s.size := Array.length_toList
  simpa [hl3, Nat.add_assoc] using hown3

end Go.Proofs.Ytoagpaphghgkmaa

/-
  The contracts of the document's own encoders: warpref01.Num, Int, Text.
-/
namespace Go.Proofs.Ytoagpaphghgkmaa
open Go.RowKit

theorem refZig_any (n : Int) (w : World) (h0 : -9223372036854775808 ≤ n) (h1 : n ≤ 9223372036854775807) :
    Calls Try.prog 97 #[.int .i64 n] w fun e w' => e = .returned (.int .u64 (zig n)) ∧ w = w' := by
  by_cases h : n < 0
  · have hz := zig_neg n h
    have HZ := Lib.hid hz
    clear hz
    go_enter Try.func97, Try.ntmps97
    go_wp2
    go_ret
    refine ⟨congrArg Ending.returned (congrArg (Value.int IntKind.u64) ?_), rfl⟩
    rw [HZ.out]
    omega
  · have hz := zig_pos n h
    have HZ := Lib.hid hz
    clear hz
    go_enter Try.func97, Try.ntmps97
    go_wp2
    go_ret
    refine ⟨congrArg Ending.returned (congrArg (Value.int IntKind.u64) ?_), rfl⟩
    rw [HZ.out]
    omega


set_option maxRecDepth 100000 in
set_option maxHeartbeats 400000 in
theorem refNum_small (v : Value) (l : List UInt8) (n : Nat) (w : World) (hr : Rd w v l) (hl : l.length + 9 ≤ 140737488355328) (hn : n < 248) :
    Calls Try.prog 54 #[v, .int .u64 n] w (Fresh 5 w ((l ++ enc n).map bv)) := by
  obtain ⟨i0, hi, hz0, hz1, hz2⟩ := info_parts Try.info5
  have HR := Lib.hid (hr.mono ((Below.refl _ w).alloc (Nat.le_refl _) (.cells #[] 5)))
  have HO := Lib.hid (empty_owned w)
  have HB := Lib.hid (bv_oneCell l)
  have hlm : (l.map bv).length = l.length := List.length_map _
  have HLM := Lib.hid hlm
  have hd : decide ((n : Int) < 248) = true := decide_eq_true (by omega)
  clear hr hlm
  go_enter Try.func54, Try.ntmps54
  go_wp2_with (first
    | (at_builtin; go_loud (refine wpList_append_rd rfl (.tmp 8) (.tmp 9) 43 rfl w.heap.size 5 i0 (.int .u8 0) 1 Try.underlying43 hi hz0 hz1 hz2 rfl _ _ _ rfl HO.out _ _ rfl HR.out HB.out (by rw [HLM.out]; unfold maxLen; omega) (by rw [HLM.out]; omega) (by simp) ?_); intro v2 w2 hown2 hgrow2)
    | (at_builtin; go_loud (refine wpList_append_own _ rfl (.tmp 13) (.tmp 16) 43 rfl w.heap.size 5 i0 (.int .u8 0) 1 1 Try.underlying43 hi hz0 hz1 hz2 rfl (by decide) _ _ _ rfl (hown2.alloc _) ⟨w2.heap.size, 0, none⟩ 1 1 [_] rfl rfl (cell_one_new _ _ _) (by simp [Value.oneCell']) (by rw [HLM.out]; unfold maxLen; omega) (by rw [HLM.out]; omega) (by have := hgrow2.size; simp at this ⊢; omega) ?_); intro v3 w3 hown3 hgrow3 _))
  go_ret
  refine ⟨_, rfl, ?_, (((Below.refl _ w).alloc (Nat.le_refl _) _).grown hgrow2 (by simp) (fun k hk => by cases hk; exact Nat.le_refl _)).trans (((Below.refl _ w2).alloc (by have := hgrow2.size; simp at this; omega) _).grown hgrow3 (by have := hgrow2.size; simp at this ⊢; omega) (fun k hk => (hown2.lt k hk).1))⟩
  have e : enc n = [UInt8.ofNat n] := by unfold enc; rw [if_pos hn]
  rw [e, List.map_append]
  simpa [bv, Nat.mod_eq_of_lt (show n < 256 by omega)] using hown3


theorem div_more (n j : Nat) : n / 256 ^ j / 256 = n / 256 ^ (j + 1) := by rw [Nat.div_div_eq_div_mul, Nat.pow_succ]

/-- All bytes of n have been taken when nothing is left of it. -/
theorem all_taken (n j : Nat) (_hn : n < 2 ^ 64) (h0 : n ≠ 0) (hj : j ≤ nb n) (hq : n / 256 ^ j = 0) : j = nb n := by
  have h1 := nb_ge n h0
  by_cases h : j = nb n
  · exact h
  · have h2 := Nat.pow_le_pow_right (show 0 < 256 by decide) (show j ≤ nb n - 1 by omega)
    have := Nat.div_eq_zero_iff.1 hq
    have hp : 0 < 256 ^ j := Nat.pow_pos (by decide)
    omega

theorem more_left (n j : Nat) (hn : n < 2 ^ 64) (hj : j ≤ nb n) (hq : n / 256 ^ j ≠ 0) : j + 1 ≤ nb n := by
  have h1 := nb_lt n hn
  by_cases h : j = nb n
  · subst h; exact absurd (Nat.div_eq_of_lt h1) hq
  · omega


set_option maxRecDepth 100000 in
set_option maxHeartbeats 1000000 in
theorem refNum_big (v : Value) (l : List UInt8) (n : Nat) (w : World) (hr : Rd w v l) (hl : l.length + 9 ≤ 140737488355328) (hn : 248 ≤ n) (hn2 : n ≤ 18446744073709551615) :
    Calls Try.prog 54 #[v, .int .u64 n] w (Fresh 5 w ((l ++ enc n).map bv)) := by
  obtain ⟨i0, hi, hz0, hz1, hz2⟩ := info_parts Try.info5
  have HR := Lib.hid (hr.mono ((Below.refl _ w).alloc (Nat.le_refl _) (.cells #[] 5)))
  have HO := Lib.hid (empty_owned w)
  have HB := Lib.hid (bv_oneCell l)
  have hlm : (l.map bv).length = l.length := List.length_map _
  have HLM := Lib.hid hlm
  have hd : decide ((n : Int) < 248) = false := decide_eq_false (by omega)
  clear hr hlm
  go_enter Try.func54, Try.ntmps54
  go_wp2_with (at_builtin; go_loud (refine wpList_append_rd rfl (.tmp 8) (.tmp 9) 43 rfl w.heap.size 5 i0 (.int .u8 0) 1 Try.underlying43 hi hz0 hz1 hz2 rfl _ _ _ rfl HO.out _ _ rfl HR.out HB.out (by rw [HLM.out]; unfold maxLen; omega) (by rw [HLM.out]; omega) (by simp) ?_); intro v2 w2 hown2 hgrow2)
  have hbel2 : Below w.heap.size w w2 := ((Below.refl _ w).alloc (Nat.le_refl _) _).grown hgrow2 (by simp) (fun k hk => by cases hk; exact Nat.le_refl _)
  simp only [Nat.zero_add, List.nil_append] at hown2
  have HB2 := Lib.hid hbel2
  have HO2 := Lib.hid hown2
  clear hbel2 hown2 hgrow2
  go_loopw [1, 6] (fun q vl wr => ∃ j : Nat, j ≤ nb n ∧ q = .int .u64 ((n / 256 ^ j : Nat) : Int) ∧ Rd wr vl (be j n) ∧ (∀ k, vl.ownBlock = some k → v2.ownBlock ≠ some k) ∧ wr.ownsRow w.heap.size 5 1 v2 (l.map bv).length (l.map bv) ∧ Below w.heap.size w wr) (fun q _ _ => (intOf q).toNat)
  case atStart => exact ⟨0, Nat.zero_le _, by simp, Rd.nil _, (fun k hk => by cases hk), HO2.out, HB2.out⟩
  case round =>
    obtain ⟨j, hj, rfl, hrd, hdis, hown, hbel⟩ := hrel
    have HDIS := Lib.hid hdis
    clear hdis
    have hq64 : n / 256 ^ j ≤ 18446744073709551615 := Nat.le_trans (Nat.div_le_self _ _) hn2
    have hdm := div_more n j
    have hle := nb_le n
    by_cases hq : n / 256 ^ j = 0
    · have hjk := all_taken n j (by omega) (by omega) hj hq
      subst hjk
      rw [hq]
      have hsh := Rd.shape hrd
      rw [be_length] at hsh
      obtain ⟨a, cap, rfl, _, _⟩ := hsh
      have HRD := Lib.hid hrd
      have HOW := Lib.hid hown
      have HBE := Lib.hid hbel
      have HSZ := hbel.size
      have hlb : ((be (nb n) n).map bv).length = nb n := by rw [List.length_map, be_length]
      have HLB := Lib.hid hlb
      clear hrd hown hbel hdm hq hq64 hlb
      go_wp2_with (first
        | (at_builtin; go_loud (refine wpList_append_own _ rfl (.tmp 29) (.tmp 34) 43 rfl w.heap.size 5 i0 (.int .u8 0) 1 1 Try.underlying43 hi hz0 hz1 hz2 rfl (by decide) _ _ _ rfl (HOW.out.alloc _) ⟨wr.heap.size, 0, none⟩ 1 1 [_] rfl rfl (cell_one_new _ _ _) (by simp [Value.oneCell']) (by rw [HLM.out]; unfold maxLen; omega) (by rw [HLM.out]; omega) (by simp; omega) ?_); intro v4 w4 hown4 hgrow4 _)
        | (at_builtin; go_loud (refine wpList_append_rd rfl (.tmp 36) (.tmp 37) 43 rfl w.heap.size 5 i0 (.int .u8 0) 1 Try.underlying43 hi hz0 hz1 hz2 rfl _ _ _ rfl hown4 _ _ rfl (kept_owned hgrow4 HDIS.out HRD.out) (bv_oneCell _) (by rw [HLM.out, HLB.out]; unfold maxLen; omega) (by rw [HLM.out, HLB.out]; omega) (by have := hgrow4.size; simp at this; omega) ?_); intro v5 w5 hown5 hgrow5))
      go_ret
      have e : bv (UInt8.ofNat (247 + nb n)) = Value.int .u8 (247 + (nb n : Int)) := by
        unfold bv
        rw [UInt8.toNat_ofNat', Nat.mod_eq_of_lt (by omega), Int.natCast_add]
        rfl
      refine ⟨_, rfl, ?_, (((HBE.out.alloc HSZ _).grown hgrow4 (by simp; omega) (fun k hk => (HOW.out.lt k hk).1)).grown hgrow5 (by have := hgrow4.size; simp at this; omega) (fun k hk => (hown4.lt k hk).1))⟩
      rw [← e] at hown5
      unfold enc
      rw [if_neg (by omega)]
      simp only [List.map_append, List.map_cons, List.length_append, List.length_map, List.length_cons, List.append_assoc, List.cons_append, List.nil_append, Nat.add_assoc, Nat.add_comm 1] at hown5 ⊢
      exact hown5
    · have hmore := more_left n j (by omega) hj hq
      have hbe : be (j + 1) n = UInt8.ofNat (n / 256 ^ j) :: be j n := rfl
      have HQ := Lib.hid (show bv (UInt8.ofNat (n / 256 ^ j)) = .int .u8 (((n / 256 ^ j : Nat) : Int) % 256) by unfold bv; rw [UInt8.toNat_ofNat']; congr 1)
      have HBEQ := Lib.hid hbe
      have HDM := Lib.hid hdm
      clear hbe hdm
      generalize n / 256 ^ j = q at *
      have HRD := Lib.hid (hrd.mono ((Below.refl _ wr).alloc (Nat.le_refl _) (.cells #[.int .u8 ((q : Int) % 256)] 5)))
      have HOW := Lib.hid hown
      have HBE := Lib.hid hbel
      have HSZ := hbel.size
      have hq1 : 1 ≤ q := by omega
      have hlb : ((be j n).map bv).length = j := by rw [List.length_map, be_length]
      have HLB := Lib.hid hlb
      clear hrd hown hbel hlb
      go_wp2_with (at_builtin; go_loud (refine wpList_append_rd rfl (.tmp 24) (.tmp 25) 43 rfl wr.heap.size 5 i0 (.int .u8 0) 1 Try.underlying43 hi hz0 hz1 hz2 rfl _ _ _ rfl (one_owned wr wr.heap.size _ (Nat.le_refl _)) _ _ rfl HRD.out (bv_oneCell _) (by rw [HLB.out]; unfold maxLen; omega) (by rw [HLB.out]; omega) (by simp) ?_); intro v4 w4 hown4 hgrow4)
      go_roundw
      case rel =>
        refine ⟨j + 1, hmore, ?_, ?_, fun k hk hh => ?_, ?_, ?_⟩
        · rw [← HDM.out]; rfl
        · have := RdV.of_owns hown4
          rw [← HQ.out] at this
          rw [HBEQ.out]
          exact this
        · have h1 := (hown4.lt k hk).1
          have h2 := (HOW.out.lt k hh).2
          omega
        · refine (HOW.out.alloc _).kept hgrow4 (.inr fun hh => ?_)
          have := HOW.out.lt wr.heap.size (by rw [hh]; rfl)
          omega
        · exact (HBE.out.alloc HSZ _).grown hgrow4 (by simp; omega) (fun k hk => by cases hk; exact HSZ)
      case measure => simp [intOf]; omega

theorem refNum_any (v : Value) (l : List UInt8) (n : Nat) (w : World) (hr : Rd w v l) (hl : l.length + 9 ≤ 140737488355328) (hn : n ≤ 18446744073709551615) :
    Calls Try.prog 54 #[v, .int .u64 n] w (Fresh 5 w ((l ++ enc n).map bv)) := by
  by_cases h : n < 248
  · exact refNum_small v l n w hr hl h
  · exact refNum_big v l n w hr hl (by omega) hn

theorem refInt_any (v : Value) (l : List UInt8) (n : Int) (w : World) (hr : Rd w v l) (hl : l.length + 9 ≤ 140737488355328) (h0 : -9223372036854775808 ≤ n) (h1 : n ≤ 9223372036854775807) :
    Calls Try.prog 73 #[v, .int .i64 n] w (Fresh 5 w ((l ++ enc (zig n)).map bv)) := by
  have hz : zig n ≤ 18446744073709551615 := by unfold zig; split <;> omega
  go_enter Try.func73, Try.ntmps73
  go_wp2_with fail
  refine (refZig_any n _ h0 h1).mono ?_
  rintro e w1 ⟨rfl, rfl⟩
  go_wp2_with fail
  refine (refNum_any v l (zig n) _ hr hl hz).mono ?_
  rintro e w2 ⟨v2, rfl, hown2, hbel2⟩
  go_wp2_with fail
  go_ret
  exact ⟨_, rfl, hown2, hbel2⟩

set_option maxHeartbeats 400000 in
theorem refText_any (v : Value) (l : List UInt8) (s : ByteArray) (w : World) (hr : Rd w v l) (hl : l.length + 9 + s.size ≤ 140737488355328) :
    Calls Try.prog 74 #[v, .string s] w (Fresh 5 w ((l ++ enc s.size ++ s.data.toList).map bv)) := by
  obtain ⟨i0, hi, hz0, hz1, hz2⟩ := info_parts Try.info5
  go_enter Try.func74, Try.ntmps74
  go_wp2_with fail
  refine (refNum_any v l s.size _ hr (by omega) (by omega)).mono ?_
  rintro e w2 ⟨v2, rfl, hown2, hbel2⟩
  obtain ⟨u, w3, hcv, hru, hb3⟩ := bytes_of (P := Try.prog) w2 9 43 5 s Try.underlying9 Try.underlying43 Try.underlying5 (by unfold maxLen; omega)
  have hle := hbel2.size
  have hle3 := hb3.size
  have hown3 : w3.ownsRow w.heap.size 5 1 v2 ((l ++ enc s.size).map bv).length ((l ++ enc s.size).map bv) := hown2.kept (row := none) ⟨hb3.os, hb3.tape, hb3.output, hb3.size, fun k hk _ => hb3.block k hk⟩ (by cases v2.ownBlock <;> simp)
  have hn : ((l ++ enc s.size).map bv).length + (s.data.toList.map bv).length ≤ 140737488355328 := by
    have := enc_length s.size
    have h2 : s.data.toList.length = s.size := Array.length_toList
    rw [List.length_map, List.length_map, List.length_append, h2]
    omega
  have HN := Lib.hid hn
  have HO3 := Lib.hid hown3
  have HU := Lib.hid hru
  have HB3 := Lib.hid (hbel2.trans (hb3.mono hle))
  clear hown2 hown3 hru hb3 hbel2 hn
  go_wp2_with (at_builtin; go_loud (refine wpList_append_rd rfl (.tmp 11) (.tmp 13) 43 rfl w.heap.size 5 i0 (.int .u8 0) 1 Try.underlying43 hi hz0 hz1 hz2 rfl _ _ _ rfl HO3.out _ _ rfl HU.out (bv_oneCell _) (by have := HN.out; unfold maxLen; omega) (by have := HN.out; omega) (by omega) ?_); intro v4 w4 hown4 hgrow4)
  go_ret
  refine ⟨_, rfl, ?_, HB3.out.grown hgrow4 (by omega) (fun k hk => (HO3.out.lt k hk).1)⟩
  rw [List.map_append, List.length_append]
  exact hown4

end Go.Proofs.Ytoagpaphghgkmaa

/-
  The contract of the document's own Put.
-/
namespace Go.Proofs.Ytoagpaphghgkmaa
open Go.RowKit Go.BigFrame

theorem own_low {b b' : Nat} {e : TypeId} {size : Nat} {w : World} {v : Value} {n : Nat} {xs : List Value} (h : w.ownsRow b e size v n xs) (hb : b' ≤ b) : w.ownsRow b' e size v n xs := by
  refine ⟨h.1, ?_⟩
  rcases h.2 with h | ⟨g, cap, cur, h1, h2, h3⟩
  · exact .inl h
  · exact .inr ⟨g, cap, cur, h1, by omega, h3⟩
theorem one_cell_new (w : World) (c : Value) : ∀ j u, ([c] : List Value)[j]? = some u → (w.alloc (.cells #[c] 5)).cell? ((⟨w.heap.size, 0, none⟩ : Addr).add j) = some u := by
  intro j u hj
  rw [add_at, Nat.zero_add]
  exact new_cell w [c] _ j u hj

theorem three_stored {w : World} {B : Nat} {a b c : Value} (h : ∀ j u, ([a, b, c] : List Value)[j]? = some u → w.cell? ⟨B, j, none⟩ = some u) (x y z : Value) :
    ∀ j u, ([x, y, z] : List Value)[j]? = some u → (((w.setCell ⟨B, 0, none⟩ x).setCell ⟨B, 1, none⟩ y).setCell ⟨B, 2, none⟩ z).cell? ⟨B, j, none⟩ = some u := by
  have k0 := h 0 _ rfl
  have k1 : (w.setCell ⟨B, 0, none⟩ x).cell? ⟨B, 1, none⟩ = some b := by
    rw [World.cell?_setCell_other]
    · exact h 1 _ rfl
    all_goals simp
  have k2 : ((w.setCell ⟨B, 0, none⟩ x).setCell ⟨B, 1, none⟩ y).cell? ⟨B, 2, none⟩ = some c := by
    rw [World.cell?_setCell_other, World.cell?_setCell_other]
    · exact h 2 _ rfl
    all_goals simp
  intro j u hj
  match j, hj with
  | 0, hj =>
    cases hj
    rw [World.cell?_setCell_other, World.cell?_setCell_other]
    · exact World.cell?_setCell_same _ _ _ k0
    all_goals simp
  | 1, hj =>
    cases hj
    rw [World.cell?_setCell_other]
    · exact World.cell?_setCell_same _ _ _ k1
    all_goals simp
  | 2, hj =>
    cases hj
    exact World.cell?_setCell_same _ _ _ k2

set_option maxRecDepth 100000 in
set_option maxHeartbeats 1000000 in
theorem refPut_any (b : Value) (l : List UInt8) (v : V) (w : World) (hr : Rd w b l) (hl : l.length ≤ 1000000) (hv : v.fits) (hs : v.s.length ≤ 5000) :
    Calls Try.prog 55 #[b, v.val] w (Fresh 5 w ((l ++ encV v).map bv)) := by
  obtain ⟨i0, hi, hz0, hz1, hz2⟩ := info_parts Try.info5
  have HR := Lib.hid (fun w => refRight_any v hv (by omega) w)
  have HE := Lib.hid (show ∀ x, x = encV v → x = encV v from fun _ h => h)
  cases hrv : rightV v with
  | false =>
    have hen : encV v = [0] := by unfold encV; rw [if_neg (by rw [hrv]; decide)]
    rw [hen]
    rw [hrv] at HR
    clear hen hrv hv HE
    obtain ⟨k, n, s⟩ := v
    unfold V.val at HR ⊢
    simp only at HR hs ⊢
    go_enter Try.func55, Try.ntmps55
    go_wp2_with fail
    refine (HR.out _).mono ?_
    rintro e w1 ⟨rfl, hb⟩
    have HZ0 := Lib.hid (kept_cell (new_cell w [.int .u8 k, .int .i64 n, .string ⟨s.toArray⟩] 59) hb)
    have HZ1 := Lib.hid (show (Ext w w1) from Ext.trans (ext_one _ _) hb)
    have c0 := HZ0.out 0 _ rfl
    have c1 := HZ0.out 1 _ rfl
    have c2 := HZ0.out 2 _ rfl
    have hf : ∀ j, w1.frozen? ⟨w.heap.size, j, none⟩ = false := fun j => by
      rw [frozen_ext hb (by simp)]
      unfold World.frozen?
      rw [heap_alloc_new]
      simp
    have f0 := hf 0
    have f1 := hf 1
    have f2 := hf 2
    clear hb hf
    have HZ := Lib.hid (three_stored HZ0.out (.int .u8 0) (.int .i64 0) (.string ⟨#[]⟩))
    have EX1 := Lib.hid (show Ext w (((w1.setCell ⟨w.heap.size, 0, none⟩ (.int .u8 0)).setCell ⟨w.heap.size, 1, none⟩ (.int .i64 0)).setCell ⟨w.heap.size, 2, none⟩ (.string ⟨#[]⟩)) from
      Below.setCell (Below.setCell (Below.setCell HZ1.out (Nat.le_refl _) _) (Nat.le_refl _) _) (Nat.le_refl _) _)
    have HA1 := Lib.hid (show Below w1.heap.size (((w1.setCell ⟨w.heap.size, 0, none⟩ (.int .u8 0)).setCell ⟨w.heap.size, 1, none⟩ (.int .i64 0)).setCell ⟨w.heap.size, 2, none⟩ (.string ⟨#[]⟩)) ((((w1.setCell ⟨w.heap.size, 0, none⟩ (.int .u8 0)).setCell ⟨w.heap.size, 1, none⟩ (.int .i64 0)).setCell ⟨w.heap.size, 2, none⟩ (.string ⟨#[]⟩)).alloc (.cells #[] 5)) from
      (Below.refl w1.heap.size _).alloc (by simp) _)
    have HO1 := Lib.hid (show ((((w1.setCell ⟨w.heap.size, 0, none⟩ (.int .u8 0)).setCell ⟨w.heap.size, 1, none⟩ (.int .i64 0)).setCell ⟨w.heap.size, 2, none⟩ (.string ⟨#[]⟩)).alloc (.cells #[] 5)).ownsRow w1.heap.size 5 1 (.slice (some ⟨w1.heap.size, 0, none⟩) 0 0) 0 [] from by
      have h := empty_owned (((w1.setCell ⟨w.heap.size, 0, none⟩ (.int .u8 0)).setCell ⟨w.heap.size, 1, none⟩ (.int .i64 0)).setCell ⟨w.heap.size, 2, none⟩ (.string ⟨#[]⟩))
      have hz : (((w1.setCell ⟨w.heap.size, 0, none⟩ (.int .u8 0)).setCell ⟨w.heap.size, 1, none⟩ (.int .i64 0)).setCell ⟨w.heap.size, 2, none⟩ (.string ⟨#[]⟩)).heap.size = w1.heap.size := by simp
      rw [hz] at h
      exact h)
    have HX1 := Lib.hid ((hr.mono EX1.out).mono (show Ext _ _ from (Below.refl _ _).alloc (Nat.le_refl _) (.cells #[] 5)))
    have HBV := Lib.hid (bv_oneCell l)
    have HLM := Lib.hid (show (l.map bv).length = l.length from List.length_map _)
    have HLE := Lib.hid (show w.heap.size ≤ w1.heap.size from HZ1.out.size)
    go_wp2_with (first
      | (at_builtin; go_loud (refine wpList_append_rd rfl (.tmp 10) (.tmp 11) 43 rfl w1.heap.size 5 i0 (.int .u8 0) 1 Try.underlying43 hi hz0 hz1 hz2 rfl _ _ _ rfl HO1.out _ _ rfl HX1.out HBV.out (by rw [HLM.out]; unfold maxLen; omega) (by rw [HLM.out]; omega) (by simp) ?_); intro v2 w2 hown2 hgrow2; have HB2 := Lib.hid (show Below w1.heap.size _ w2 from HA1.out.grown hgrow2 (by simp) (fun k hk => by cases hk; exact Nat.le_refl _)); have HE2 := Lib.hid (show Ext _ w2 from Below.mono HB2.out (by simp)); have HG2 := Lib.hid hgrow2; have d0 := kept_cell HZ.out HE2.out 0 _ rfl; clear hgrow2)
      | (at_builtin; go_loud (refine wpList_append_own _ rfl (.tmp 13) (.tmp 16) 43 rfl w1.heap.size 5 i0 (.int .u8 0) 1 1 Try.underlying43 hi hz0 hz1 hz2 rfl (by decide) _ _ _ rfl (hown2.alloc _) ⟨w2.heap.size, 0, none⟩ 1 1 [(.int .u8 0)] rfl rfl (one_cell_new _ _) (by simp [Value.oneCell']) (by rw [HLM.out]; unfold maxLen; omega) (by rw [HLM.out]; omega) (by have := HB2.out.size; simp at this; simp; omega) ?_); intro v3 w3 hown3 hgrow3 _; have HB3 := Lib.hid (show Below w1.heap.size _ w3 from (HB2.out.alloc (by have := HB2.out.size; simp at this; omega) _).grown hgrow3 (by have := HB2.out.size; simp at this; simp; omega) (fun k hk => (hown2.lt k hk).1)); have HE3 := Lib.hid (show Ext _ w3 from Below.mono HB3.out (by simp)); have HO3 := Lib.hid hown3; clear hgrow3 hown3; have d0 := kept_cell HZ.out HE3.out 0 _ rfl; have d1 := kept_cell HZ.out HE3.out 1 _ rfl; have d2 := kept_cell HZ.out HE3.out 2 _ rfl))
    go_ret
    refine ⟨_, rfl, ?_, Ext.trans EX1.out HE3.out⟩
    have h := HO3.out
    have e : ([] ++ l.map bv) ++ [(.int .u8 0)] = (l ++ [0]).map bv := by rw [List.nil_append, List.map_append]; rfl
    rw [e] at h
    have h2 : 0 + (l.map bv).length + 1 = ((l ++ [0]).map bv).length := by simp
    rw [h2] at h
    exact own_low h HLE.out
  | true =>
    rw [hrv] at HR
    have hcase := (rightV_iff v).1 hrv
    have hen : encV v = UInt8.ofNat v.k.toNat :: (if v.k = 1 ∨ v.k = 2 then enc (zig v.n) else if v.k = 3 then enc v.s.length ++ v.s else []) := by unfold encV; rw [if_pos hrv]
    rw [hen]
    have HLO := Lib.hid hv.lo
    have HHI := Lib.hid hv.hi
    clear hen hrv hv HE
    obtain ⟨k, n, s⟩ := v
    unfold V.val at HR ⊢
    simp only at HR hs hcase HLO HHI ⊢
    have hcase2 : k = 0 ∨ k = 1 ∨ k = 2 ∨ k = 3 := by rcases hcase with h | h | h | h <;> omega
    clear hcase
    rcases hcase2 with rfl | rfl | rfl | rfl
    · have henc : (UInt8.ofNat (Int.toNat 0) :: (if (0 : Int) = 1 ∨ (0 : Int) = 2 then enc (zig n) else if (0 : Int) = 3 then enc s.length ++ s else [])) = [0] := rfl
      rw [henc]
      clear henc
      go_enter Try.func55, Try.ntmps55
      go_wp2_with fail
      refine (HR.out _).mono ?_
      rintro e w1 ⟨rfl, hb⟩
      have HZ := Lib.hid (kept_cell (new_cell w [.int .u8 0, .int .i64 n, .string ⟨s.toArray⟩] 59) hb)
      have EX1 := Lib.hid (show Ext w w1 from Ext.trans (ext_one _ _) hb)
      clear hb
      have HA1 := Lib.hid ((Below.refl (w1).heap.size (w1)).alloc (Nat.le_refl _) (.cells #[] 5))
      have HO1 := Lib.hid (empty_owned (w1))
      have HX1 := Lib.hid ((hr.mono EX1.out).mono HA1.out)
      have HBV := Lib.hid (bv_oneCell l)
      have hlm : (l.map bv).length = l.length := List.length_map _
      have HLM := Lib.hid hlm
      clear hlm
      go_wp2_with (first
        | (at_builtin; go_loud (refine wpList_append_rd rfl (.tmp 10) (.tmp 11) 43 rfl (w1).heap.size 5 i0 (.int .u8 0) 1 Try.underlying43 hi hz0 hz1 hz2 rfl _ _ _ rfl HO1.out _ _ rfl HX1.out HBV.out (by rw [HLM.out]; unfold maxLen; omega) (by rw [HLM.out]; omega) (by simp) ?_); intro v2 w2 hown2 hgrow2; have HB2 := Lib.hid (show Below (w1).heap.size (w1) w2 from HA1.out.grown hgrow2 (by simp) (fun k hk => by cases hk; exact Nat.le_refl _)); have HG2 := Lib.hid hgrow2; have c0 := kept_cell HZ.out HB2.out 0 _ rfl; clear hgrow2)
        | (at_builtin; go_loud (refine wpList_append_own _ rfl (.tmp 13) (.tmp 16) 43 rfl (w1).heap.size 5 i0 (.int .u8 0) 1 1 Try.underlying43 hi hz0 hz1 hz2 rfl (by decide) _ _ _ rfl (hown2.alloc _) ⟨w2.heap.size, 0, none⟩ 1 1 [(.int .u8 0)] rfl rfl (one_cell_new _ _) (by simp [Value.oneCell']) (by rw [HLM.out]; unfold maxLen; omega) (by rw [HLM.out]; omega) (by have := HB2.out.size; simp; omega) ?_); intro v3 w3 hown3 hgrow3 _; have HB3 := Lib.hid (show Below (w1).heap.size (w1) w3 from (HB2.out.alloc HB2.out.size _).grown hgrow3 (by have := HB2.out.size; simp; omega) (fun k hk => (hown2.lt k hk).1)); have HO3 := Lib.hid hown3; clear hgrow3 hown3; have d0 := kept_cell HZ.out HB3.out 0 _ rfl; have d1 := kept_cell HZ.out HB3.out 1 _ rfl; have d2 := kept_cell HZ.out HB3.out 2 _ rfl))
      go_ret
      refine ⟨_, rfl, ?_, Ext.trans EX1.out HB3.out⟩
      have h := HO3.out
      have e : ([] ++ l.map bv) ++ [(.int .u8 0)] = (l ++ [0]).map bv := by rw [List.nil_append, List.map_append]; rfl
      rw [e] at h
      have h2 : 0 + (l.map bv).length + 1 = ((l ++ [0]).map bv).length := by simp
      rw [h2] at h
      exact own_low h EX1.out.size
    · have henc : (UInt8.ofNat (Int.toNat 1) :: (if (1 : Int) = 1 ∨ (1 : Int) = 2 then enc (zig n) else if (1 : Int) = 3 then enc s.length ++ s else [])) = (1 : UInt8) :: enc (zig n) := rfl
      rw [henc]
      clear henc
      go_enter Try.func55, Try.ntmps55
      go_wp2_with fail
      refine (HR.out _).mono ?_
      rintro e w1 ⟨rfl, hb⟩
      have HZ := Lib.hid (kept_cell (new_cell w [.int .u8 1, .int .i64 n, .string ⟨s.toArray⟩] 59) hb)
      have EX1 := Lib.hid (show Ext w w1 from Ext.trans (ext_one _ _) hb)
      clear hb
      have HA1 := Lib.hid ((Below.refl (w1).heap.size (w1)).alloc (Nat.le_refl _) (.cells #[] 5))
      have HO1 := Lib.hid (empty_owned (w1))
      have HX1 := Lib.hid ((hr.mono EX1.out).mono HA1.out)
      have HBV := Lib.hid (bv_oneCell l)
      have hlm : (l.map bv).length = l.length := List.length_map _
      have HLM := Lib.hid hlm
      clear hlm
      go_wp2_with (first
        | (at_builtin; go_loud (refine wpList_append_rd rfl (.tmp 10) (.tmp 11) 43 rfl (w1).heap.size 5 i0 (.int .u8 0) 1 Try.underlying43 hi hz0 hz1 hz2 rfl _ _ _ rfl HO1.out _ _ rfl HX1.out HBV.out (by rw [HLM.out]; unfold maxLen; omega) (by rw [HLM.out]; omega) (by simp) ?_); intro v2 w2 hown2 hgrow2; have HB2 := Lib.hid (show Below (w1).heap.size (w1) w2 from HA1.out.grown hgrow2 (by simp) (fun k hk => by cases hk; exact Nat.le_refl _)); have HG2 := Lib.hid hgrow2; have c0 := kept_cell HZ.out HB2.out 0 _ rfl; clear hgrow2)
        | (at_builtin; go_loud (refine wpList_append_own _ rfl (.tmp 13) (.tmp 16) 43 rfl (w1).heap.size 5 i0 (.int .u8 0) 1 1 Try.underlying43 hi hz0 hz1 hz2 rfl (by decide) _ _ _ rfl (hown2.alloc _) ⟨w2.heap.size, 0, none⟩ 1 1 [(.int .u8 1)] rfl rfl (one_cell_new _ _) (by simp [Value.oneCell']) (by rw [HLM.out]; unfold maxLen; omega) (by rw [HLM.out]; omega) (by have := HB2.out.size; simp; omega) ?_); intro v3 w3 hown3 hgrow3 _; have HB3 := Lib.hid (show Below (w1).heap.size (w1) w3 from (HB2.out.alloc HB2.out.size _).grown hgrow3 (by have := HB2.out.size; simp; omega) (fun k hk => (hown2.lt k hk).1)); have HO3 := Lib.hid hown3; clear hgrow3 hown3; have d0 := kept_cell HZ.out HB3.out 0 _ rfl; have d1 := kept_cell HZ.out HB3.out 1 _ rfl; have d2 := kept_cell HZ.out HB3.out 2 _ rfl))
      have HR3 := Lib.hid (show Rd w3 v3 (l ++ [1]) from by
        have h := RdV.of_owns HO3.out
        have e : ([] ++ l.map bv) ++ [(.int .u8 1)] = (l ++ [1]).map bv := by rw [List.nil_append, List.map_append]; rfl
        rw [e] at h
        exact h)
      refine (refInt_any v3 (l ++ [1]) n _ HR3.out (by rw [List.length_append]; simp; omega) HLO.out HHI.out).mono ?_
      rintro e w4 ⟨v4, rfl, ho4, hb4⟩
      have HO4 := Lib.hid ho4
      have HB4 := Lib.hid (Ext.trans EX1.out (Ext.trans HB3.out hb4))
      have HS4 := Lib.hid (show w.heap.size ≤ w3.heap.size by have := EX1.out.size; have := HB3.out.size; omega)
      clear ho4 hb4
      go_wp2_with fail
      go_ret
      refine ⟨_, rfl, ?_, HB4.out⟩
      have h := own_low HO4.out HS4.out
      have e : (l ++ [1] ++ enc (zig n)) = l ++ (1 :: enc (zig n)) := by simp [List.append_assoc]
      rw [e] at h
      exact h
    · have henc : (UInt8.ofNat (Int.toNat 2) :: (if (2 : Int) = 1 ∨ (2 : Int) = 2 then enc (zig n) else if (2 : Int) = 3 then enc s.length ++ s else [])) = (2 : UInt8) :: enc (zig n) := rfl
      rw [henc]
      clear henc
      go_enter Try.func55, Try.ntmps55
      go_wp2_with fail
      refine (HR.out _).mono ?_
      rintro e w1 ⟨rfl, hb⟩
      have HZ := Lib.hid (kept_cell (new_cell w [.int .u8 2, .int .i64 n, .string ⟨s.toArray⟩] 59) hb)
      have EX1 := Lib.hid (show Ext w w1 from Ext.trans (ext_one _ _) hb)
      clear hb
      have HA1 := Lib.hid ((Below.refl (w1).heap.size (w1)).alloc (Nat.le_refl _) (.cells #[] 5))
      have HO1 := Lib.hid (empty_owned (w1))
      have HX1 := Lib.hid ((hr.mono EX1.out).mono HA1.out)
      have HBV := Lib.hid (bv_oneCell l)
      have hlm : (l.map bv).length = l.length := List.length_map _
      have HLM := Lib.hid hlm
      clear hlm
      go_wp2_with (first
        | (at_builtin; go_loud (refine wpList_append_rd rfl (.tmp 10) (.tmp 11) 43 rfl (w1).heap.size 5 i0 (.int .u8 0) 1 Try.underlying43 hi hz0 hz1 hz2 rfl _ _ _ rfl HO1.out _ _ rfl HX1.out HBV.out (by rw [HLM.out]; unfold maxLen; omega) (by rw [HLM.out]; omega) (by simp) ?_); intro v2 w2 hown2 hgrow2; have HB2 := Lib.hid (show Below (w1).heap.size (w1) w2 from HA1.out.grown hgrow2 (by simp) (fun k hk => by cases hk; exact Nat.le_refl _)); have HG2 := Lib.hid hgrow2; have c0 := kept_cell HZ.out HB2.out 0 _ rfl; clear hgrow2)
        | (at_builtin; go_loud (refine wpList_append_own _ rfl (.tmp 13) (.tmp 16) 43 rfl (w1).heap.size 5 i0 (.int .u8 0) 1 1 Try.underlying43 hi hz0 hz1 hz2 rfl (by decide) _ _ _ rfl (hown2.alloc _) ⟨w2.heap.size, 0, none⟩ 1 1 [(.int .u8 2)] rfl rfl (one_cell_new _ _) (by simp [Value.oneCell']) (by rw [HLM.out]; unfold maxLen; omega) (by rw [HLM.out]; omega) (by have := HB2.out.size; simp; omega) ?_); intro v3 w3 hown3 hgrow3 _; have HB3 := Lib.hid (show Below (w1).heap.size (w1) w3 from (HB2.out.alloc HB2.out.size _).grown hgrow3 (by have := HB2.out.size; simp; omega) (fun k hk => (hown2.lt k hk).1)); have HO3 := Lib.hid hown3; clear hgrow3 hown3; have d0 := kept_cell HZ.out HB3.out 0 _ rfl; have d1 := kept_cell HZ.out HB3.out 1 _ rfl; have d2 := kept_cell HZ.out HB3.out 2 _ rfl))
      have HR3 := Lib.hid (show Rd w3 v3 (l ++ [2]) from by
        have h := RdV.of_owns HO3.out
        have e : ([] ++ l.map bv) ++ [(.int .u8 2)] = (l ++ [2]).map bv := by rw [List.nil_append, List.map_append]; rfl
        rw [e] at h
        exact h)
      refine (refInt_any v3 (l ++ [2]) n _ HR3.out (by rw [List.length_append]; simp; omega) HLO.out HHI.out).mono ?_
      rintro e w4 ⟨v4, rfl, ho4, hb4⟩
      have HO4 := Lib.hid ho4
      have HB4 := Lib.hid (Ext.trans EX1.out (Ext.trans HB3.out hb4))
      have HS4 := Lib.hid (show w.heap.size ≤ w3.heap.size by have := EX1.out.size; have := HB3.out.size; omega)
      clear ho4 hb4
      go_wp2_with fail
      go_ret
      refine ⟨_, rfl, ?_, HB4.out⟩
      have h := own_low HO4.out HS4.out
      have e : (l ++ [2] ++ enc (zig n)) = l ++ (2 :: enc (zig n)) := by simp [List.append_assoc]
      rw [e] at h
      exact h
    · have henc : (UInt8.ofNat (Int.toNat 3) :: (if (3 : Int) = 1 ∨ (3 : Int) = 2 then enc (zig n) else if (3 : Int) = 3 then enc s.length ++ s else [])) = (3 : UInt8) :: (enc s.length ++ s) := rfl
      rw [henc]
      clear henc
      go_enter Try.func55, Try.ntmps55
      go_wp2_with fail
      refine (HR.out _).mono ?_
      rintro e w1 ⟨rfl, hb⟩
      have HZ := Lib.hid (kept_cell (new_cell w [.int .u8 3, .int .i64 n, .string ⟨s.toArray⟩] 59) hb)
      have EX1 := Lib.hid (show Ext w w1 from Ext.trans (ext_one _ _) hb)
      clear hb
      have HA1 := Lib.hid ((Below.refl (w1).heap.size (w1)).alloc (Nat.le_refl _) (.cells #[] 5))
      have HO1 := Lib.hid (empty_owned (w1))
      have HX1 := Lib.hid ((hr.mono EX1.out).mono HA1.out)
      have HBV := Lib.hid (bv_oneCell l)
      have hlm : (l.map bv).length = l.length := List.length_map _
      have HLM := Lib.hid hlm
      clear hlm
      go_wp2_with (first
        | (at_builtin; go_loud (refine wpList_append_rd rfl (.tmp 10) (.tmp 11) 43 rfl (w1).heap.size 5 i0 (.int .u8 0) 1 Try.underlying43 hi hz0 hz1 hz2 rfl _ _ _ rfl HO1.out _ _ rfl HX1.out HBV.out (by rw [HLM.out]; unfold maxLen; omega) (by rw [HLM.out]; omega) (by simp) ?_); intro v2 w2 hown2 hgrow2; have HB2 := Lib.hid (show Below (w1).heap.size (w1) w2 from HA1.out.grown hgrow2 (by simp) (fun k hk => by cases hk; exact Nat.le_refl _)); have HG2 := Lib.hid hgrow2; have c0 := kept_cell HZ.out HB2.out 0 _ rfl; clear hgrow2)
        | (at_builtin; go_loud (refine wpList_append_own _ rfl (.tmp 13) (.tmp 16) 43 rfl (w1).heap.size 5 i0 (.int .u8 0) 1 1 Try.underlying43 hi hz0 hz1 hz2 rfl (by decide) _ _ _ rfl (hown2.alloc _) ⟨w2.heap.size, 0, none⟩ 1 1 [(.int .u8 3)] rfl rfl (one_cell_new _ _) (by simp [Value.oneCell']) (by rw [HLM.out]; unfold maxLen; omega) (by rw [HLM.out]; omega) (by have := HB2.out.size; simp; omega) ?_); intro v3 w3 hown3 hgrow3 _; have HB3 := Lib.hid (show Below (w1).heap.size (w1) w3 from (HB2.out.alloc HB2.out.size _).grown hgrow3 (by have := HB2.out.size; simp; omega) (fun k hk => (hown2.lt k hk).1)); have HO3 := Lib.hid hown3; clear hgrow3 hown3; have d0 := kept_cell HZ.out HB3.out 0 _ rfl; have d1 := kept_cell HZ.out HB3.out 1 _ rfl; have d2 := kept_cell HZ.out HB3.out 2 _ rfl))
      have HR3 := Lib.hid (show Rd w3 v3 (l ++ [3]) from by
        have h := RdV.of_owns HO3.out
        have e : ([] ++ l.map bv) ++ [(.int .u8 3)] = (l ++ [3]).map bv := by rw [List.nil_append, List.map_append]; rfl
        rw [e] at h
        exact h)
      refine (refText_any v3 (l ++ [3]) ⟨s.toArray⟩ _ HR3.out (by rw [List.length_append]; show l.length + 1 + 9 + s.length ≤ _; omega)).mono ?_
      rintro e w4 ⟨v4, rfl, ho4, hb4⟩
      have HO4 := Lib.hid ho4
      have HB4 := Lib.hid (Ext.trans EX1.out (Ext.trans HB3.out hb4))
      have HS4 := Lib.hid (show w.heap.size ≤ w3.heap.size by have := EX1.out.size; have := HB3.out.size; omega)
      clear ho4 hb4
      go_wp2_with fail
      go_ret
      refine ⟨_, rfl, ?_, HB4.out⟩
      have h := own_low HO4.out HS4.out
      have e : (l ++ [3] ++ enc (ByteArray.size ⟨s.toArray⟩) ++ (ByteArray.mk s.toArray).data.toList) = l ++ (3 :: (enc s.length ++ s)) := by simp [List.append_assoc, ByteArray.size]
      rw [e] at h
      exact h

end Go.Proofs.Ytoagpaphghgkmaa

/-
  Rows of values of one's own, the first ones of a row. Over any program.
-/
namespace Go.Proofs.Ytoagpaphghgkmaa
open Go.ChangeAt Go.RowKit

theorem Try.info_val : (Try.prog.info? 59).map (fun i => (i.zero, i.size, i.bytes)) = some (some (.agg #[.int .u8 0, .int .i64 0, .string ByteArray.empty]), 3, 32) := by kernel_rfl

theorem val_oneCell (v : V) : ∀ u ∈ v.cells, u.oneCell' = true := by
  intro u hu
  simp only [V.cells, List.mem_cons, List.not_mem_nil, or_false] at hu
  rcases hu with rfl | rfl | rfl <;> rfl
theorem valCells (l : List V) (j : Nat) (hj : j < l.length) (i : Nat) (hi : i < 3) : (l.flatMap V.cells)[j * 3 + i]? = (l[j].cells)[i]? := by
  induction l generalizing j with
  | nil => simp at hj
  | cons a t ih =>
    have hc : a.cells.length = 3 := rfl
    cases j with
    | zero =>
      rw [List.flatMap_cons, Nat.zero_mul, Nat.zero_add, List.getElem?_append_left (by omega)]
      rfl
    | succ j =>
      have h := ih j (by simpa using hj)
      rw [List.flatMap_cons, List.getElem?_append_right (by omega), hc, show (j + 1) * 3 + i - 3 = j * 3 + i by omega]
      exact h
theorem valCells_length (l : List V) : (l.flatMap V.cells).length = l.length * 3 := by
  induction l with
  | nil => rfl
  | cons a t ih => rw [List.flatMap_cons, List.length_append, ih, List.length_cons]; show 3 + _ = _; omega
theorem RdVals.of_owns {E : TypeId} {base : Nat} {w : World} {v : Value} {l : List V} (h : w.ownsRow base E 3 v l.length (l.flatMap V.cells)) : RdVals w v l := by
  rcases h.2 with ⟨h1, h2⟩ | ⟨g, cap, cur, rfl, h2, h3, h4, h5, _⟩
  · obtain rfl := List.length_eq_zero_iff.1 h2
    rw [h1]
    exact RdVals.nil w
  · have hc := fun i u hu => h.cells (g := g) rfl i u hu
    refine ⟨_, cap, rfl, h4, h5, fun j hj => ⟨g, 0, rfl, fun i y hy => ?_⟩⟩
    have hi : i < 3 := (List.getElem?_eq_some_iff.1 hy).1
    have c := hc _ _ ((valCells l j hj i hi).trans hy)
    rw [add_at] at c
    rw [Nat.add_assoc]
    exact c
/-- append(l, v) of a value. -/
theorem wpList_append_val {ops : Array Oper} {rest : List Oper} {o : Oper} {a : Act} {Q : Exit → Act → World → Prop} {w : World} (hgd : o.guard = none) (s x : Operand)
    (ho : o.op = .call { callee := .builtin .append, args := #[s, x], argTypes := #[53, 53] })
    (base : Nat) (v : Value) (ps : List V) (e : V) (hs : a.eval s = v) (hown : w.ownsRow base 59 3 v ps.length (ps.flatMap V.cells))
    (hx : a.eval x = .slice (some ⟨w.heap.size, 0, none⟩) 1 1) (hp : ps.length ≤ 100000000) (hbase : base ≤ w.heap.size)
    (h : ∀ v' w', w'.ownsRow base 59 3 v' (ps ++ [e]).length ((ps ++ [e]).flatMap V.cells) → Below base w w' → OnlyS (fun k => v.ownBlock = some k) w w' → wpList Try.prog ops Q rest (a.put o.dst v') w') :
    wpList Try.prog ops Q (o :: rest) a (w.alloc (.cells e.cells.toArray 59)) := by
  obtain ⟨i0, hi, hz0, hz1, hz2⟩ := info_parts Try.info_val
  have hc := row_new w e.cells 59
  refine wpList_append_own _ hgd s x 53 ho base 59 i0 _ 3 32 Try.underlying53 hi hz0 hz1 hz2 rfl (by decide) v ps.length _ hs (hown.alloc _) ⟨w.heap.size, 0, none⟩ 1 1 e.cells hx rfl hc (val_oneCell e) (by unfold maxLen; omega) (by omega) (by simp; omega) fun v' w' h1 h2 _ => h v' w' ?_ ?_ ?_
  · rw [List.length_append, List.flatMap_append]
    simpa using h1
  · exact (((Below.refl base w).alloc hbase _).grown h2 (by simp; omega) (fun b hb => (hown.lt b hb).1))
  · exact (OnlyS.of_ext (ext_new w _)).trans (OnlyS.of_grown h2) (fun _ _ h => h)
/-- The first ones. -/
theorem RdVals.take {w : World} {ao : Option Addr} {N cap : Nat} {l : List V} (h : RdVals w (.slice ao N cap) l) (K : Nat) (hK : K ≤ N) : RdVals w (.slice ao K cap) (l.take K) := by
  obtain ⟨a', cap', h1, h2, h3, h4⟩ := h
  simp only [Value.slice.injEq] at h1
  obtain ⟨rfl, rfl, rfl⟩ := h1
  have hl : (l.take K).length = K := by rw [List.length_take]; omega
  refine ⟨ao, cap, by rw [hl], by omega, h3, fun j hj => ?_⟩
  rw [List.getElem_take]
  exact h4 j (by omega)
/-- Each value's cells, with the address in parts. -/
theorem RdVals.plain {w : World} {ao : Option Addr} {N cap : Nat} {l : List V} (h : RdVals w (.slice ao N cap) l) : N = l.length ∧ N ≤ cap ∧ cap ≤ maxLen ∧ ∀ j, (hj : j < l.length) → ∃ g off, ao = some ⟨g, off, none⟩ ∧
    w.cell? ⟨g, off + j * 3, none⟩ = some (.int .u8 l[j].k) ∧ w.cell? ⟨g, off + j * 3 + 1, none⟩ = some (.int .i64 l[j].n) ∧ w.cell? ⟨g, off + j * 3 + 2, none⟩ = some (.string ⟨l[j].s.toArray⟩) := by
  obtain ⟨a', cap', h1, h2, h3, h4⟩ := h
  simp only [Value.slice.injEq] at h1
  obtain ⟨rfl, rfl, rfl⟩ := h1
  refine ⟨rfl, h2, h3, fun j hj => ?_⟩
  obtain ⟨g, off, e, hc⟩ := h4 j hj
  exact ⟨g, off, e, hc 0 _ rfl, hc 1 _ rfl, hc 2 _ rfl⟩

end Go.Proofs.Ytoagpaphghgkmaa

/-
  The first ones of a slice; how many these are; bytes as a text. Over any program.
-/
namespace Go.Proofs.Ytoagpaphghgkmaa
open Go.ChangeAt Go.RowKit

/-- The first ones of a slice. -/
theorem rdV_first {w : World} {ao : Option Addr} {N cap : Nat} {xs : List Value} (h : RdV w (.slice ao N cap) xs) (K : Nat) (hK : K ≤ N) : RdV w (.slice ao K cap) (xs.take K) := by
  rcases h with ⟨h1, h2⟩ | ⟨x, cap', h1, h2, h3, h4⟩
  · simp only [Value.slice.injEq] at h1
    obtain ⟨rfl, rfl, rfl⟩ := h1
    have hk : K = 0 := by omega
    subst hk
    subst h2
    exact .inl ⟨rfl, rfl⟩
  · simp only [Value.slice.injEq] at h1
    obtain ⟨rfl, rfl, rfl⟩ := h1
    exact RdV.takes h2 h3 h4 K K (by omega)
/-- How many of the first k there are: as a walk may show it. -/
theorem min_firstN (N k : Nat) : ∃ K : Nat, min (N : Int) (k : Int) = (K : Int) ∧ (if (k : Int) < (N : Int) then (k : Int) else (N : Int)) = (K : Int) ∧ K ≤ N ∧ K ≤ k ∧ K = min N k :=
  ⟨min N k, by omega, by split <;> omega, by omega, by omega, rfl⟩
theorem take_minN {α : Type} (l : List α) (k : Nat) : l.take (min l.length k) = l.take k := by
  rcases Nat.le_total l.length k with h | h
  · rw [Nat.min_eq_left h, List.take_of_length_le (Nat.le_refl _), List.take_of_length_le h]
  · rw [Nat.min_eq_right h]
/-- string(b), as a fact of the walk. -/
theorem str_of {w : World} {v : Value} {l : List UInt8} (h : Rd w v l) : (convert 43 9 v).run Try.prog w = .ok (.string ⟨l.toArray⟩) w :=
  h.string 43 9 5 Try.underlying43 Try.underlying5 Try.underlying9
/-- A row of ints that is read: where it lies. -/
theorem RdV.plain {w : World} {ao : Option Addr} {N cap : Nat} {xs : List Int} (h : RdV w (.slice ao N cap) (xs.map (Value.int .i64))) : N = xs.length ∧ N ≤ cap ∧ cap ≤ maxLen ∧ ∀ j, (hj : j < xs.length) → ∃ g off, ao = some ⟨g, off, none⟩ ∧ w.cell? ⟨g, off + j, none⟩ = some (.int .i64 xs[j]) := by
  obtain ⟨a', c', h0, h1, h2, h3⟩ := RdV.cellsAt h
  simp only [Value.slice.injEq, List.length_map] at h0 h1
  obtain ⟨rfl, rfl, rfl⟩ := h0
  refine ⟨rfl, h1, h2, fun j hj => ?_⟩
  obtain ⟨⟨g, off, sp⟩, rfl, hc⟩ := h3 j (.int .i64 xs[j]) (by rw [List.getElem?_map, List.getElem?_eq_getElem hj]; rfl)
  have hsp : sp = none := by
    obtain ⟨a0, ha0, hc0⟩ := h3 0 (.int .i64 xs[0]) (by rw [List.getElem?_map, List.getElem?_eq_getElem (by omega)]; rfl)
    obtain rfl := Option.some.inj ha0
    have h := World.cell?_spot hc0
    simpa [Addr.add] using h
  subst hsp
  rw [add_at] at hc
  exact ⟨g, off, rfl, hc⟩
/-- A row that is read: where it lies. -/
theorem RdV.plainV {w : World} {ao : Option Addr} {N cap : Nat} {xs : List Value} (h : RdV w (.slice ao N cap) xs) : N = xs.length ∧ N ≤ cap ∧ cap ≤ maxLen ∧ ∀ j u, xs[j]? = some u → ∃ g off, ao = some ⟨g, off, none⟩ ∧ w.cell? ⟨g, off + j, none⟩ = some u := by
  obtain ⟨a', c', h0, h1, h2, h3⟩ := RdV.cellsAt h
  simp only [Value.slice.injEq] at h0 h1
  obtain ⟨rfl, rfl, rfl⟩ := h0
  refine ⟨rfl, h1, h2, fun j u hj => ?_⟩
  obtain ⟨⟨g, off, sp⟩, rfl, hc⟩ := h3 j u hj
  have hsp : sp = none := by
    have hlt : 0 < xs.length := by
      have := (List.getElem?_eq_some_iff.1 hj).1
      omega
    obtain ⟨a0, ha0, hc0⟩ := h3 0 xs[0] (List.getElem?_eq_getElem hlt)
    obtain rfl := Option.some.inj ha0
    have h := World.cell?_spot hc0
    simpa [Addr.add] using h
  subst hsp
  rw [add_at] at hc
  exact ⟨g, off, rfl, hc⟩
/-- The rest of a row of bytes, as a fact of the walk. -/
theorem slice_rest {w : World} {ao : Option Addr} {N cap : Nat} {l : List UInt8} (h : Rd w (.slice ao N cap) l) (k : Nat) (hk : k ≤ N) :
    ∃ a c, Rd w (.slice a (N - k) c) (l.drop k) ∧ ∀ W, (Instr.slice 43 (.slice ao N cap) (some (.int .i64 (k : Int))) none none).run Try.prog W = .ok (.slice a (N - k) c) W := by
  obtain ⟨e, h2, h3, -⟩ := RdV.plainV h
  rw [List.length_map] at e
  subst e
  have hlo : (k : Int) ≤ (l.length : Int) := by omega
  rcases h with ⟨h1, h4⟩ | ⟨x, cap', h1, h4, h5, h6⟩
  · simp only [Value.slice.injEq] at h1
    obtain ⟨rfl, h7, rfl⟩ := h1
    have hl0 : l = [] := List.length_eq_zero_iff.1 h7
    subst hl0
    obtain rfl : k = 0 := by simpa using hk
    refine ⟨none, 0, Rd.nil w, fun W => ?_⟩
    simp [Instr.slice, Instr.sliceBounds, Instr.sliceBound, run_underlying Try.underlying43, go_sem]
  · simp only [Value.slice.injEq] at h1
    obtain ⟨rfl, -, rfl⟩ := h1
    by_cases hc : cap = k
    · refine ⟨some x, cap - k, ?_, fun W => ?_⟩
      · have hd : l.drop k = [] := List.drop_eq_nil_of_le (by omega)
        rw [hd, show l.length - k = 0 by omega]
        exact .inr ⟨x, _, rfl, Nat.zero_le _, by omega, fun i u hu => by simp at hu⟩
      · subst hc
        simp [Instr.slice, Instr.sliceBounds, Instr.sliceBound, run_underlying Try.underlying43, go_sem, hk]
    · refine ⟨some (x.add k), cap - k, ?_, fun W => ?_⟩
      · refine .inr ⟨x.add k, cap - k, by rw [List.length_map, List.length_drop], by rw [List.length_map, List.length_drop]; omega, by omega, fun i u hu => ?_⟩
        have e2 : (x.add k).add i = x.add (k + i) := by unfold Addr.add; simp; split <;> split <;> simp_all <;> omega
        rw [e2]
        exact h6 (k + i) u (by rw [List.map_drop, List.getElem?_drop] at hu; exact hu)
      · simp [Instr.slice, Instr.sliceBounds, Instr.sliceBound, run_underlying Try.underlying43, go_sem, hk, hc]
/-- The rest of a row of one-cell values, as a fact of the walk. -/
theorem slice_restV {P : Program} {t e : TypeId} (ht : P.underlying t = some (.slice e)) {i0 : TypeInfo} (hi : P.info? e = some i0) (hz : i0.size = 1) {w : World} {ao : Option Addr} {N cap : Nat} {l : List Value} (h : RdV w (.slice ao N cap) l) (k : Nat) (hk : k ≤ N) :
    ∃ a c, RdV w (.slice a (N - k) c) (l.drop k) ∧ ∀ W, (Instr.slice t (.slice ao N cap) (some (.int .i64 (k : Int))) none none).run P W = .ok (.slice a (N - k) c) W := by
  obtain ⟨e, h2, h3, -⟩ := RdV.plainV h
  subst e
  have hlo : (k : Int) ≤ (l.length : Int) := by omega
  rcases h with ⟨h1, h4⟩ | ⟨x, cap', h1, h4, h5, h6⟩
  · simp only [Value.slice.injEq] at h1
    obtain ⟨rfl, h7, rfl⟩ := h1
    have hl0 : l = [] := List.length_eq_zero_iff.1 h7
    subst hl0
    obtain rfl : k = 0 := by simpa using hk
    refine ⟨none, 0, RdV.nil w, fun W => ?_⟩
    simp [Instr.slice, Instr.sliceBounds, Instr.sliceBound, run_underlying ht, sizeOf, typeInfo, hi, go_sem]
  · simp only [Value.slice.injEq] at h1
    obtain ⟨rfl, -, rfl⟩ := h1
    by_cases hc : cap = k
    · refine ⟨some x, cap - k, ?_, fun W => ?_⟩
      · have hd : l.drop k = [] := List.drop_eq_nil_of_le (by omega)
        rw [hd, show l.length - k = 0 by omega]
        exact .inr ⟨x, _, rfl, Nat.zero_le _, by omega, fun i u hu => by simp at hu⟩
      · subst hc
        simp [Instr.slice, Instr.sliceBounds, Instr.sliceBound, run_underlying ht, sizeOf, typeInfo, hi, go_sem, hk]
    · refine ⟨some (x.add k), cap - k, ?_, fun W => ?_⟩
      · refine .inr ⟨x.add k, cap - k, by rw [List.length_drop], by rw [List.length_drop]; omega, by omega, fun i u hu => ?_⟩
        have e2 : (x.add k).add i = x.add (k + i) := by unfold Addr.add; simp; split <;> split <;> simp_all <;> omega
        rw [e2]
        exact h6 (k + i) u (by rw [List.getElem?_drop] at hu; exact hu)
      · simp [Instr.slice, Instr.sliceBounds, Instr.sliceBound, run_underlying ht, sizeOf, typeInfo, hi, hz, go_sem, hk, hc]
theorem int_one (l : List Int) : ∀ u ∈ l.map (Value.int .i64), u.oneCell' = true := by
  intro u hu
  obtain ⟨c, _, rfl⟩ := List.mem_map.1 hu
  rfl

theorem str_later {w : World} {v : Value} {l : List UInt8} (h : Rd w v l) : ∀ z : Later Ext w.drew, (convert 43 9 v).run Try.prog z.val = .ok (.string ⟨l.toArray⟩) z.val := fun z => str_of (h.mono (Ext.trans (Ext.drew w) z.ext))

end Go.Proofs.Ytoagpaphghgkmaa
