/-
  Texts of this proof, merged.
-/
import Derived.Test.YtaoegcakefodaaaGreatZ1
import Derived.Test.YtaoegcakefodaaaGreatY1
import Derived.Test.YtaoegcakefodaaaGreatZ2
import Derived.Test.YtaoegcakefodaaaGreatZ3
import Derived.Test.YtaoegcakefodaaaGreatZ4
import Derived.Test.YtaoegcakefodaaaGreatZ5
import Derived.Test.YtaoegcakefodaaaGreatZ6
import Derived.Test.YtaoegcakefodaaaGreatZ7
import Derived.Test.YtaoegcakefodaaaGreatY2
import Derived.Test.YtaoegcakefodaaaGreatZ8
import Derived.Test.YtaoegcakefodaaaGreatZ9
import Derived.Test.YtaoegcakefodaaaGreatZ10
import Derived.Test.YtaoegcakefodaaaGreatZ11
import Derived.Test.YtaoegcakefodaaaGreatZ12
import Derived.Test.YtaoegcakefodaaaGreatZ13
import Derived.Test.YtaoegcakefodaaaGreatZ14
import Derived.Test.YtaoegcakefodaaaGreatZ15
import Derived.Test.YtaoegcakefodaaaGreatZ16
import Derived.Test.YtaoegcakefodaaaGreatZ17
import Derived.Test.YtaoegcakefodaaaGreatZ18
import Derived.Test.YtaoegcakefodaaaGreatZ19
import Derived.Test.YtaoegcakefodaaaGreatZ20
import Derived.Test.YtaoegcakefodaaaGreatZ21
import Derived.Test.YtaoegcakefodaaaGreatZ22
import Derived.Test.YtaoegcakefodaaaGreatZ23
import Derived.Test.YtaoegcakefodaaaGreatZ24
namespace Go.Proofs.YtaoegcakefodaaaGreat
open Go.RowKit
theorem bytes_of {P : Program} (w : World) (src dst e : TypeId) (s : ByteArray) (hs : P.underlying src = some .string) (hd : P.underlying dst = some (.slice e)) (he : P.underlying e = some (.int .u8)) (hm : s.size ≤ maxLen) :
    ∃ u w', (convert src dst (.string s)).run P w = .ok u w' ∧ Rd w' u s.data.toList ∧ Below w.heap.size w w' := by
  refine ⟨_, _, run_bytes_of_string w src dst e s hs hd he, ?_, ?_⟩
  · have hl : s.data.toList.length = s.size := Array.length_toList
    refine .inr ⟨⟨w.heap.size, 0, none⟩, grownCap w s.size 0 e, by rw [List.length_map, hl], by rw [List.length_map, hl]; exact grownCap_ge w _ _ _, grownCap_le_maxLen w _ _ _ hm, fun i u hu => ?_⟩
    rw [add_at, Nat.zero_add]
    rw [List.getElem?_map] at hu
    obtain ⟨c, hc, rfl⟩ := Option.map_eq_some_iff.1 hu
    have hi : i < s.data.size := by
      have := (List.getElem?_eq_some_iff.1 hc).1
      simpa using this
    show ((w.drew.alloc _).cell? ⟨w.drew.heap.size, i, none⟩) = _
    unfold World.cell?
    rw [heap_alloc_new]
    simp only [Option.isSome_none, Bool.false_eq_true, if_false, bytesRow]
    rw [Array.getElem?_append_left (by simpa using hi), Array.getElem?_map]
    have : s.data[i]? = some c := by rw [← Array.getElem?_toList]; exact hc
    rw [this]
    rfl
  · exact ((Below.refl _ w).drew).alloc (Nat.le_refl _) _
end Go.Proofs.YtaoegcakefodaaaGreat

namespace Go.Proofs.YtaoegcakefodaaaGreat
open Go.RowKit
theorem one_owned (w : World) (base : Nat) (x : Value) (hb : base ≤ w.heap.size) : (w.alloc (.cells #[x] 5)).ownsRow base 5 1 (.slice (some ⟨w.heap.size, 0, none⟩) 1 1) 1 [x] :=
  ⟨rfl, .inr ⟨w.heap.size, 1, #[x], rfl, hb, heap_alloc_new w _, Nat.le_refl _, by simp [maxLen], rfl, rfl⟩⟩
theorem kept_owned {w w4 : World} {o : Obj} {v u : Value} {l : List UInt8} (hg : (w.alloc o).grownBy w4 v.ownBlock) (hd : ∀ k, u.ownBlock = some k → v.ownBlock ≠ some k) (hr : Rd w u l) : Rd w4 u l := by
  rcases hr with h | ⟨x, cap, rfl, h2, h3, h4⟩
  · exact .inl h
  · refine .inr ⟨x, cap, rfl, h2, h3, fun i y hy => ?_⟩
    have hc := h4 i y hy
    have hc' : (w.alloc o).cell? (x.add i) = some y := by
      rw [(((Below.refl _ w).alloc (Nat.le_refl _) o).cell (lt_of_cell hc))]; exact hc
    refine hg.cell hc' (fun hh => ?_)
    rw [add_block] at hh
    exact hd x.block rfl hh.symm
end Go.Proofs.YtaoegcakefodaaaGreat

namespace Go.Proofs.YtaoegcakefodaaaGreat
open Go.RowKit
theorem refNeed_any (n : Int) (w : World) (h0 : -9223372036854775808 ≤ n) (h1 : n ≤ 9223372036854775807) :
    Calls Tryz.prog 15 #[.int .i64 n] w fun e w' => e = .returned (.int .i64 (needS n)) ∧ w = w' := by
  unfold needS
  by_cases h : n < 1
  · rw [if_pos h]
    go_enter Tryz.func15, Tryz.ntmps15
    go_wp2_with fail
    go_ret
    exact ⟨rfl, rfl⟩
  · rw [if_neg h]
    obtain ⟨k, rfl⟩ := Int.eq_ofNat_of_zero_le (show 0 ≤ n by omega)
    go_enter Tryz.func15, Tryz.ntmps15
    go_wp2_with fail
    go_ret
    exact ⟨rfl, rfl⟩
end Go.Proofs.YtaoegcakefodaaaGreat

namespace Go.Proofs.YtaoegcakefodaaaGreat
open Go.RowKit
theorem refZig_any (n : Int) (w : World) (h0 : -9223372036854775808 ≤ n) (h1 : n ≤ 9223372036854775807) :
    Calls Tryz.prog 100 #[.int .i64 n] w fun e w' => e = .returned (.int .u64 (zig n)) ∧ w = w' := by
  by_cases h : n < 0
  · have hz := zig_neg n h
    have HZ := Lib.hid hz
    clear hz
    go_enter Tryz.func100, Tryz.ntmps100
    go_wp2
    go_ret
    refine ⟨congrArg Ending.returned (congrArg (Value.int IntKind.u64) ?_), rfl⟩
    rw [HZ.out]
    omega
  · have hz := zig_pos n h
    have HZ := Lib.hid hz
    clear hz
    go_enter Tryz.func100, Tryz.ntmps100
    go_wp2
    go_ret
    refine ⟨congrArg Ending.returned (congrArg (Value.int IntKind.u64) ?_), rfl⟩
    rw [HZ.out]
    omega
set_option maxRecDepth 100000 in
set_option maxHeartbeats 400000 in
theorem refNum_small (v : Value) (l : List UInt8) (n : Nat) (w : World) (hr : Rd w v l) (hl : l.length + 9 ≤ 140737488355328) (hn : n < 248) :
    Calls Tryz.prog 61 #[v, .int .u64 n] w (Fresh 5 w ((l ++ enc n).map bv)) := by
  obtain ⟨i0, hi, hz0, hz1, hz2⟩ := info_parts Tryz.info5
  have HR := Lib.hid (hr.mono ((Below.refl _ w).alloc (Nat.le_refl _) (.cells #[] 5)))
  have HO := Lib.hid (empty_owned w)
  have HB := Lib.hid (bv_oneCell l)
  have hlm : (l.map bv).length = l.length := List.length_map _
  have HLM := Lib.hid hlm
  have hd : decide ((n : Int) < 248) = true := decide_eq_true (by omega)
  clear hr hlm
  go_enter Tryz.func61, Tryz.ntmps61
  go_wp2_with (first
    | (at_builtin; go_loud (refine wpList_append_rd rfl (.tmp 8) (.tmp 9) 36 rfl w.heap.size 5 i0 (.int .u8 0) 1 Tryz.underlying36 hi hz0 hz1 hz2 rfl _ _ _ rfl HO.out _ _ rfl HR.out HB.out (by rw [HLM.out]; unfold maxLen; omega) (by rw [HLM.out]; omega) (by simp) ?_); intro v2 w2 hown2 hgrow2)
    | (at_builtin; go_loud (refine wpList_append_own _ rfl (.tmp 13) (.tmp 16) 36 rfl w.heap.size 5 i0 (.int .u8 0) 1 1 Tryz.underlying36 hi hz0 hz1 hz2 rfl (by decide) _ _ _ rfl (hown2.alloc _) ⟨w2.heap.size, 0, none⟩ 1 1 [_] rfl rfl (cell_one_new _ _ _) (by simp [Value.oneCell']) (by rw [HLM.out]; unfold maxLen; omega) (by rw [HLM.out]; omega) (by have := hgrow2.size; simp at this ⊢; omega) ?_); intro v3 w3 hown3 hgrow3 _))
  go_ret
  refine ⟨_, rfl, ?_, (((Below.refl _ w).alloc (Nat.le_refl _) _).grown hgrow2 (by simp) (fun k hk => by cases hk; exact Nat.le_refl _)).trans (((Below.refl _ w2).alloc (by have := hgrow2.size; simp at this; omega) _).grown hgrow3 (by have := hgrow2.size; simp at this ⊢; omega) (fun k hk => (hown2.lt k hk).1))⟩
  have e : enc n = [UInt8.ofNat n] := by unfold enc; rw [if_pos hn]
  rw [e, List.map_append]
  simpa [bv, Nat.mod_eq_of_lt (show n < 256 by omega)] using hown3
theorem div_more (n j : Nat) : n / 256 ^ j / 256 = n / 256 ^ (j + 1) := by rw [Nat.div_div_eq_div_mul, Nat.pow_succ]
theorem all_taken (n j : Nat) (_hn : n < 2 ^ 64) (h0 : n ≠ 0) (hj : j ≤ nb n) (hq : n / 256 ^ j = 0) : j = nb n := by
  have h1 := nb_ge n h0
  by_cases h : j = nb n
  · exact h
  · have h2 := Nat.pow_le_pow_right (show 0 < 256 by decide) (show j ≤ nb n - 1 by omega)
    have := Nat.div_eq_zero_iff.1 hq
    have hp : 0 < 256 ^ j := Nat.pow_pos (by decide)
    omega
theorem more_left (n j : Nat) (hn : n < 2 ^ 64) (hj : j ≤ nb n) (hq : n / 256 ^ j ≠ 0) : j + 1 ≤ nb n := by
  have h1 := nb_lt n hn
  by_cases h : j = nb n
  · subst h; exact absurd (Nat.div_eq_of_lt h1) hq
  · omega
set_option maxRecDepth 100000 in
set_option maxHeartbeats 1000000 in
theorem refNum_big (v : Value) (l : List UInt8) (n : Nat) (w : World) (hr : Rd w v l) (hl : l.length + 9 ≤ 140737488355328) (hn : 248 ≤ n) (hn2 : n ≤ 18446744073709551615) :
    Calls Tryz.prog 61 #[v, .int .u64 n] w (Fresh 5 w ((l ++ enc n).map bv)) := by
  obtain ⟨i0, hi, hz0, hz1, hz2⟩ := info_parts Tryz.info5
  have HR := Lib.hid (hr.mono ((Below.refl _ w).alloc (Nat.le_refl _) (.cells #[] 5)))
  have HO := Lib.hid (empty_owned w)
  have HB := Lib.hid (bv_oneCell l)
  have hlm : (l.map bv).length = l.length := List.length_map _
  have HLM := Lib.hid hlm
  have hd : decide ((n : Int) < 248) = false := decide_eq_false (by omega)
  clear hr hlm
  go_enter Tryz.func61, Tryz.ntmps61
  go_wp2_with (at_builtin; go_loud (refine wpList_append_rd rfl (.tmp 8) (.tmp 9) 36 rfl w.heap.size 5 i0 (.int .u8 0) 1 Tryz.underlying36 hi hz0 hz1 hz2 rfl _ _ _ rfl HO.out _ _ rfl HR.out HB.out (by rw [HLM.out]; unfold maxLen; omega) (by rw [HLM.out]; omega) (by simp) ?_); intro v2 w2 hown2 hgrow2)
  have hbel2 : Below w.heap.size w w2 := ((Below.refl _ w).alloc (Nat.le_refl _) _).grown hgrow2 (by simp) (fun k hk => by cases hk; exact Nat.le_refl _)
  simp only [Nat.zero_add, List.nil_append] at hown2
  have HB2 := Lib.hid hbel2
  have HO2 := Lib.hid hown2
  clear hbel2 hown2 hgrow2
  go_loopw [1, 6] (fun q vl wr => ∃ j : Nat, j ≤ nb n ∧ q = .int .u64 ((n / 256 ^ j : Nat) : Int) ∧ Rd wr vl (be j n) ∧ (∀ k, vl.ownBlock = some k → v2.ownBlock ≠ some k) ∧ wr.ownsRow w.heap.size 5 1 v2 (l.map bv).length (l.map bv) ∧ Below w.heap.size w wr) (fun q _ _ => (intOf q).toNat)
  case atStart => exact ⟨0, Nat.zero_le _, by simp, Rd.nil _, (fun k hk => by cases hk), HO2.out, HB2.out⟩
  case round =>
    obtain ⟨j, hj, rfl, hrd, hdis, hown, hbel⟩ := hrel
    have HDIS := Lib.hid hdis
    clear hdis
    have hq64 : n / 256 ^ j ≤ 18446744073709551615 := Nat.le_trans (Nat.div_le_self _ _) hn2
    have hdm := div_more n j
    have hle := nb_le n
    by_cases hq : n / 256 ^ j = 0
    · have hjk := all_taken n j (by omega) (by omega) hj hq
      subst hjk
      rw [hq]
      have hsh := Rd.shape hrd
      rw [be_length] at hsh
      obtain ⟨a, cap, rfl, _, _⟩ := hsh
      have HRD := Lib.hid hrd
      have HOW := Lib.hid hown
      have HBE := Lib.hid hbel
      have HSZ := hbel.size
      have hlb : ((be (nb n) n).map bv).length = nb n := by rw [List.length_map, be_length]
      have HLB := Lib.hid hlb
      clear hrd hown hbel hdm hq hq64 hlb
      go_wp2_with (first
        | (at_builtin; go_loud (refine wpList_append_own _ rfl (.tmp 29) (.tmp 34) 36 rfl w.heap.size 5 i0 (.int .u8 0) 1 1 Tryz.underlying36 hi hz0 hz1 hz2 rfl (by decide) _ _ _ rfl (HOW.out.alloc _) ⟨wr.heap.size, 0, none⟩ 1 1 [_] rfl rfl (cell_one_new _ _ _) (by simp [Value.oneCell']) (by rw [HLM.out]; unfold maxLen; omega) (by rw [HLM.out]; omega) (by simp; omega) ?_); intro v4 w4 hown4 hgrow4 _)
        | (at_builtin; go_loud (refine wpList_append_rd rfl (.tmp 36) (.tmp 37) 36 rfl w.heap.size 5 i0 (.int .u8 0) 1 Tryz.underlying36 hi hz0 hz1 hz2 rfl _ _ _ rfl hown4 _ _ rfl (kept_owned hgrow4 HDIS.out HRD.out) (bv_oneCell _) (by rw [HLM.out, HLB.out]; unfold maxLen; omega) (by rw [HLM.out, HLB.out]; omega) (by have := hgrow4.size; simp at this; omega) ?_); intro v5 w5 hown5 hgrow5))
      go_ret
      have e : bv (UInt8.ofNat (247 + nb n)) = Value.int .u8 (247 + (nb n : Int)) := by
        unfold bv
        rw [UInt8.toNat_ofNat', Nat.mod_eq_of_lt (by omega), Int.natCast_add]
        rfl
      refine ⟨_, rfl, ?_, (((HBE.out.alloc HSZ _).grown hgrow4 (by simp; omega) (fun k hk => (HOW.out.lt k hk).1)).grown hgrow5 (by have := hgrow4.size; simp at this; omega) (fun k hk => (hown4.lt k hk).1))⟩
      rw [← e] at hown5
      unfold enc
      rw [if_neg (by omega)]
      simp only [List.map_append, List.map_cons, List.length_append, List.length_map, List.length_cons, List.append_assoc, List.cons_append, List.nil_append, Nat.add_assoc, Nat.add_comm 1] at hown5 ⊢
      exact hown5
    · have hmore := more_left n j (by omega) hj hq
      have hbe : be (j + 1) n = UInt8.ofNat (n / 256 ^ j) :: be j n := rfl
      have HQ := Lib.hid (show bv (UInt8.ofNat (n / 256 ^ j)) = .int .u8 (((n / 256 ^ j : Nat) : Int) % 256) by unfold bv; rw [UInt8.toNat_ofNat']; congr 1)
      have HBEQ := Lib.hid hbe
      have HDM := Lib.hid hdm
      clear hbe hdm
      generalize n / 256 ^ j = q at *
      have HRD := Lib.hid (hrd.mono ((Below.refl _ wr).alloc (Nat.le_refl _) (.cells #[.int .u8 ((q : Int) % 256)] 5)))
      have HOW := Lib.hid hown
      have HBE := Lib.hid hbel
      have HSZ := hbel.size
      have hq1 : 1 ≤ q := by omega
      have hlb : ((be j n).map bv).length = j := by rw [List.length_map, be_length]
      have HLB := Lib.hid hlb
      clear hrd hown hbel hlb
      go_wp2_with (at_builtin; go_loud (refine wpList_append_rd rfl (.tmp 24) (.tmp 25) 36 rfl wr.heap.size 5 i0 (.int .u8 0) 1 Tryz.underlying36 hi hz0 hz1 hz2 rfl _ _ _ rfl (one_owned wr wr.heap.size _ (Nat.le_refl _)) _ _ rfl HRD.out (bv_oneCell _) (by rw [HLB.out]; unfold maxLen; omega) (by rw [HLB.out]; omega) (by simp) ?_); intro v4 w4 hown4 hgrow4)
      go_roundw
      case rel =>
        refine ⟨j + 1, hmore, ?_, ?_, fun k hk hh => ?_, ?_, ?_⟩
        · rw [← HDM.out]; rfl
        · have := RdV.of_owns hown4
          rw [← HQ.out] at this
          rw [HBEQ.out]
          exact this
        · have h1 := (hown4.lt k hk).1
          have h2 := (HOW.out.lt k hh).2
          omega
        · refine (HOW.out.alloc _).kept hgrow4 (.inr fun hh => ?_)
          have := HOW.out.lt wr.heap.size (by rw [hh]; rfl)
          omega
        · exact (HBE.out.alloc HSZ _).grown hgrow4 (by simp; omega) (fun k hk => by cases hk; exact HSZ)
      case measure => simp [intOf]; omega
theorem refNum_any (v : Value) (l : List UInt8) (n : Nat) (w : World) (hr : Rd w v l) (hl : l.length + 9 ≤ 140737488355328) (hn : n ≤ 18446744073709551615) :
    Calls Tryz.prog 61 #[v, .int .u64 n] w (Fresh 5 w ((l ++ enc n).map bv)) := by
  by_cases h : n < 248
  · exact refNum_small v l n w hr hl h
  · exact refNum_big v l n w hr hl (by omega) hn
theorem refInt_any (v : Value) (l : List UInt8) (n : Int) (w : World) (hr : Rd w v l) (hl : l.length + 9 ≤ 140737488355328) (h0 : -9223372036854775808 ≤ n) (h1 : n ≤ 9223372036854775807) :
    Calls Tryz.prog 77 #[v, .int .i64 n] w (Fresh 5 w ((l ++ enc (zig n)).map bv)) := by
  have hz : zig n ≤ 18446744073709551615 := by unfold zig; split <;> omega
  go_enter Tryz.func77, Tryz.ntmps77
  go_wp2_with fail
  refine (refZig_any n _ h0 h1).mono ?_
  rintro e w1 ⟨rfl, rfl⟩
  go_wp2_with fail
  refine (refNum_any v l (zig n) _ hr hl hz).mono ?_
  rintro e w2 ⟨v2, rfl, hown2, hbel2⟩
  go_wp2_with fail
  go_ret
  exact ⟨_, rfl, hown2, hbel2⟩
set_option maxHeartbeats 400000 in
theorem refText_any (v : Value) (l : List UInt8) (s : ByteArray) (w : World) (hr : Rd w v l) (hl : l.length + 9 + s.size ≤ 140737488355328) :
    Calls Tryz.prog 78 #[v, .string s] w (Fresh 5 w ((l ++ enc s.size ++ s.data.toList).map bv)) := by
  obtain ⟨i0, hi, hz0, hz1, hz2⟩ := info_parts Tryz.info5
  go_enter Tryz.func78, Tryz.ntmps78
  go_wp2_with fail
  refine (refNum_any v l s.size _ hr (by omega) (by omega)).mono ?_
  rintro e w2 ⟨v2, rfl, hown2, hbel2⟩
  obtain ⟨u, w3, hcv, hru, hb3⟩ := bytes_of (P := Tryz.prog) w2 9 36 5 s Tryz.underlying9 Tryz.underlying36 Tryz.underlying5 (by unfold maxLen; omega)
  have hle := hbel2.size
  have hle3 := hb3.size
  have hown3 : w3.ownsRow w.heap.size 5 1 v2 ((l ++ enc s.size).map bv).length ((l ++ enc s.size).map bv) := hown2.kept (row := none) ⟨hb3.os, hb3.tape, hb3.output, hb3.size, fun k hk _ => hb3.block k hk⟩ (by cases v2.ownBlock <;> simp)
  have hn : ((l ++ enc s.size).map bv).length + (s.data.toList.map bv).length ≤ 140737488355328 := by
    have := enc_length s.size
    have h2 : s.data.toList.length = s.size := Array.length_toList
    rw [List.length_map, List.length_map, List.length_append, h2]
    omega
  have HN := Lib.hid hn
  have HO3 := Lib.hid hown3
  have HU := Lib.hid hru
  have HB3 := Lib.hid (hbel2.trans (hb3.mono hle))
  clear hown2 hown3 hru hb3 hbel2 hn
  go_wp2_with (at_builtin; go_loud (refine wpList_append_rd rfl (.tmp 11) (.tmp 13) 36 rfl w.heap.size 5 i0 (.int .u8 0) 1 Tryz.underlying36 hi hz0 hz1 hz2 rfl _ _ _ rfl HO3.out _ _ rfl HU.out (bv_oneCell _) (by have := HN.out; unfold maxLen; omega) (by have := HN.out; omega) (by omega) ?_); intro v4 w4 hown4 hgrow4)
  go_ret
  refine ⟨_, rfl, ?_, HB3.out.grown hgrow4 (by omega) (fun k hk => (HO3.out.lt k hk).1)⟩
  rw [List.map_append, List.length_append]
  exact hown4
end Go.Proofs.YtaoegcakefodaaaGreat

namespace Go.Proofs.YtaoegcakefodaaaGreat
open Go.RowKit Go.BigFrame
theorem one_cell_new (w : World) (c : Value) : ∀ j u, ([c] : List Value)[j]? = some u → (w.alloc (.cells #[c] 5)).cell? ((⟨w.heap.size, 0, none⟩ : Addr).add j) = some u := by
  intro j u hj
  rw [add_at, Nat.zero_add]
  exact new_cell w [c] _ j u hj
set_option maxRecDepth 100000 in
set_option maxHeartbeats 1000000 in
theorem refPut_any (b : Value) (l : List UInt8) (v : V) (w : World) (hr : Rd w b l) (hl : l.length ≤ 1000000) (hv : v.fits) (hs : v.s.length ≤ 5000) :
    Calls Tryz.prog 62 #[b, v.val] w (Fresh 5 w ((l ++ encV v).map bv)) := by
  obtain ⟨i0, hi, hz0, hz1, hz2⟩ := info_parts Tryz.info5
  have HR := Lib.hid (fun w => refRight_any v hv (by omega) w)
  have HE := Lib.hid (show ∀ x, x = encV v → x = encV v from fun _ h => h)
  cases hrv : rightV v with
  | false =>
    have hen : encV v = [0] := by unfold encV; rw [if_neg (by rw [hrv]; decide)]
    rw [hen]
    rw [hrv] at HR
    clear hen hrv hv HE
    obtain ⟨k, n, s⟩ := v
    unfold V.val at HR ⊢
    simp only at HR hs ⊢
    go_enter Tryz.func62, Tryz.ntmps62
    go_wp2_with fail
    refine (HR.out _).mono ?_
    rintro e w1 ⟨rfl, hb⟩
    have HZ0 := Lib.hid (kept_cell (new_cell w [.int .u8 k, .int .i64 n, .string ⟨s.toArray⟩] 56) hb)
    have HZ1 := Lib.hid (show (Ext w w1) from Ext.trans (ext_one _ _) hb)
    have c0 := HZ0.out 0 _ rfl
    have c1 := HZ0.out 1 _ rfl
    have c2 := HZ0.out 2 _ rfl
    have hf : ∀ j, w1.frozen? ⟨w.heap.size, j, none⟩ = false := fun j => by
      rw [frozen_ext hb (by simp)]
      unfold World.frozen?
      rw [heap_alloc_new]
      simp
    have f0 := hf 0
    have f1 := hf 1
    have f2 := hf 2
    clear hb hf
    have HZ := Lib.hid (three_stored HZ0.out (.int .u8 0) (.int .i64 0) (.string ⟨#[]⟩))
    have EX1 := Lib.hid (show Ext w (((w1.setCell ⟨w.heap.size, 0, none⟩ (.int .u8 0)).setCell ⟨w.heap.size, 1, none⟩ (.int .i64 0)).setCell ⟨w.heap.size, 2, none⟩ (.string ⟨#[]⟩)) from
      Below.setCell (Below.setCell (Below.setCell HZ1.out (Nat.le_refl _) _) (Nat.le_refl _) _) (Nat.le_refl _) _)
    have HA1 := Lib.hid (show Below w1.heap.size (((w1.setCell ⟨w.heap.size, 0, none⟩ (.int .u8 0)).setCell ⟨w.heap.size, 1, none⟩ (.int .i64 0)).setCell ⟨w.heap.size, 2, none⟩ (.string ⟨#[]⟩)) ((((w1.setCell ⟨w.heap.size, 0, none⟩ (.int .u8 0)).setCell ⟨w.heap.size, 1, none⟩ (.int .i64 0)).setCell ⟨w.heap.size, 2, none⟩ (.string ⟨#[]⟩)).alloc (.cells #[] 5)) from
      (Below.refl w1.heap.size _).alloc (by simp) _)
    have HO1 := Lib.hid (show ((((w1.setCell ⟨w.heap.size, 0, none⟩ (.int .u8 0)).setCell ⟨w.heap.size, 1, none⟩ (.int .i64 0)).setCell ⟨w.heap.size, 2, none⟩ (.string ⟨#[]⟩)).alloc (.cells #[] 5)).ownsRow w1.heap.size 5 1 (.slice (some ⟨w1.heap.size, 0, none⟩) 0 0) 0 [] from by
      have h := empty_owned (((w1.setCell ⟨w.heap.size, 0, none⟩ (.int .u8 0)).setCell ⟨w.heap.size, 1, none⟩ (.int .i64 0)).setCell ⟨w.heap.size, 2, none⟩ (.string ⟨#[]⟩))
      have hz : (((w1.setCell ⟨w.heap.size, 0, none⟩ (.int .u8 0)).setCell ⟨w.heap.size, 1, none⟩ (.int .i64 0)).setCell ⟨w.heap.size, 2, none⟩ (.string ⟨#[]⟩)).heap.size = w1.heap.size := by simp
      rw [hz] at h
      exact h)
    have HX1 := Lib.hid ((hr.mono EX1.out).mono (show Ext _ _ from (Below.refl _ _).alloc (Nat.le_refl _) (.cells #[] 5)))
    have HBV := Lib.hid (bv_oneCell l)
    have HLM := Lib.hid (show (l.map bv).length = l.length from List.length_map _)
    have HLE := Lib.hid (show w.heap.size ≤ w1.heap.size from HZ1.out.size)
    go_wp2_with (first
      | (at_builtin; go_loud (refine wpList_append_rd rfl (.tmp 10) (.tmp 11) 36 rfl w1.heap.size 5 i0 (.int .u8 0) 1 Tryz.underlying36 hi hz0 hz1 hz2 rfl _ _ _ rfl HO1.out _ _ rfl HX1.out HBV.out (by rw [HLM.out]; unfold maxLen; omega) (by rw [HLM.out]; omega) (by simp) ?_); intro v2 w2 hown2 hgrow2; have HB2 := Lib.hid (show Below w1.heap.size _ w2 from HA1.out.grown hgrow2 (by simp) (fun k hk => by cases hk; exact Nat.le_refl _)); have HE2 := Lib.hid (show Ext _ w2 from Below.mono HB2.out (by simp)); have HG2 := Lib.hid hgrow2; have d0 := kept_cell HZ.out HE2.out 0 _ rfl; clear hgrow2)
      | (at_builtin; go_loud (refine wpList_append_own _ rfl (.tmp 13) (.tmp 16) 36 rfl w1.heap.size 5 i0 (.int .u8 0) 1 1 Tryz.underlying36 hi hz0 hz1 hz2 rfl (by decide) _ _ _ rfl (hown2.alloc _) ⟨w2.heap.size, 0, none⟩ 1 1 [(.int .u8 0)] rfl rfl (one_cell_new _ _) (by simp [Value.oneCell']) (by rw [HLM.out]; unfold maxLen; omega) (by rw [HLM.out]; omega) (by have := HB2.out.size; simp at this; simp; omega) ?_); intro v3 w3 hown3 hgrow3 _; have HB3 := Lib.hid (show Below w1.heap.size _ w3 from (HB2.out.alloc (by have := HB2.out.size; simp at this; omega) _).grown hgrow3 (by have := HB2.out.size; simp at this; simp; omega) (fun k hk => (hown2.lt k hk).1)); have HE3 := Lib.hid (show Ext _ w3 from Below.mono HB3.out (by simp)); have HO3 := Lib.hid hown3; clear hgrow3 hown3; have d0 := kept_cell HZ.out HE3.out 0 _ rfl; have d1 := kept_cell HZ.out HE3.out 1 _ rfl; have d2 := kept_cell HZ.out HE3.out 2 _ rfl))
    go_ret
    refine ⟨_, rfl, ?_, Ext.trans EX1.out HE3.out⟩
    have h := HO3.out
    have e : ([] ++ l.map bv) ++ [(.int .u8 0)] = (l ++ [0]).map bv := by rw [List.nil_append, List.map_append]; rfl
    rw [e] at h
    have h2 : 0 + (l.map bv).length + 1 = ((l ++ [0]).map bv).length := by simp
    rw [h2] at h
    exact own_low h HLE.out
  | true =>
    rw [hrv] at HR
    have hcase := (rightV_iff v).1 hrv
    have hen : encV v = UInt8.ofNat v.k.toNat :: (if v.k = 1 ∨ v.k = 2 then enc (zig v.n) else if v.k = 3 then enc v.s.length ++ v.s else []) := by unfold encV; rw [if_pos hrv]
    rw [hen]
    have HLO := Lib.hid hv.lo
    have HHI := Lib.hid hv.hi
    clear hen hrv hv HE
    obtain ⟨k, n, s⟩ := v
    unfold V.val at HR ⊢
    simp only at HR hs hcase HLO HHI ⊢
    have hcase2 : k = 0 ∨ k = 1 ∨ k = 2 ∨ k = 3 := by rcases hcase with h | h | h | h <;> omega
    clear hcase
    rcases hcase2 with rfl | rfl | rfl | rfl
    · have henc : (UInt8.ofNat (Int.toNat 0) :: (if (0 : Int) = 1 ∨ (0 : Int) = 2 then enc (zig n) else if (0 : Int) = 3 then enc s.length ++ s else [])) = [0] := rfl
      rw [henc]
      clear henc
      go_enter Tryz.func62, Tryz.ntmps62
      go_wp2_with fail
      refine (HR.out _).mono ?_
      rintro e w1 ⟨rfl, hb⟩
      have HZ := Lib.hid (kept_cell (new_cell w [.int .u8 0, .int .i64 n, .string ⟨s.toArray⟩] 56) hb)
      have EX1 := Lib.hid (show Ext w w1 from Ext.trans (ext_one _ _) hb)
      clear hb
      have HA1 := Lib.hid ((Below.refl (w1).heap.size (w1)).alloc (Nat.le_refl _) (.cells #[] 5))
      have HO1 := Lib.hid (empty_owned (w1))
      have HX1 := Lib.hid ((hr.mono EX1.out).mono HA1.out)
      have HBV := Lib.hid (bv_oneCell l)
      have hlm : (l.map bv).length = l.length := List.length_map _
      have HLM := Lib.hid hlm
      clear hlm
      go_wp2_with (first
        | (at_builtin; go_loud (refine wpList_append_rd rfl (.tmp 10) (.tmp 11) 36 rfl (w1).heap.size 5 i0 (.int .u8 0) 1 Tryz.underlying36 hi hz0 hz1 hz2 rfl _ _ _ rfl HO1.out _ _ rfl HX1.out HBV.out (by rw [HLM.out]; unfold maxLen; omega) (by rw [HLM.out]; omega) (by simp) ?_); intro v2 w2 hown2 hgrow2; have HB2 := Lib.hid (show Below (w1).heap.size (w1) w2 from HA1.out.grown hgrow2 (by simp) (fun k hk => by cases hk; exact Nat.le_refl _)); have HG2 := Lib.hid hgrow2; have c0 := kept_cell HZ.out HB2.out 0 _ rfl; clear hgrow2)
        | (at_builtin; go_loud (refine wpList_append_own _ rfl (.tmp 13) (.tmp 16) 36 rfl (w1).heap.size 5 i0 (.int .u8 0) 1 1 Tryz.underlying36 hi hz0 hz1 hz2 rfl (by decide) _ _ _ rfl (hown2.alloc _) ⟨w2.heap.size, 0, none⟩ 1 1 [(.int .u8 0)] rfl rfl (one_cell_new _ _) (by simp [Value.oneCell']) (by rw [HLM.out]; unfold maxLen; omega) (by rw [HLM.out]; omega) (by have := HB2.out.size; simp; omega) ?_); intro v3 w3 hown3 hgrow3 _; have HB3 := Lib.hid (show Below (w1).heap.size (w1) w3 from (HB2.out.alloc HB2.out.size _).grown hgrow3 (by have := HB2.out.size; simp; omega) (fun k hk => (hown2.lt k hk).1)); have HO3 := Lib.hid hown3; clear hgrow3 hown3; have d0 := kept_cell HZ.out HB3.out 0 _ rfl; have d1 := kept_cell HZ.out HB3.out 1 _ rfl; have d2 := kept_cell HZ.out HB3.out 2 _ rfl))
      go_ret
      refine ⟨_, rfl, ?_, Ext.trans EX1.out HB3.out⟩
      have h := HO3.out
      have e : ([] ++ l.map bv) ++ [(.int .u8 0)] = (l ++ [0]).map bv := by rw [List.nil_append, List.map_append]; rfl
      rw [e] at h
      have h2 : 0 + (l.map bv).length + 1 = ((l ++ [0]).map bv).length := by simp
      rw [h2] at h
      exact own_low h EX1.out.size
    · have henc : (UInt8.ofNat (Int.toNat 1) :: (if (1 : Int) = 1 ∨ (1 : Int) = 2 then enc (zig n) else if (1 : Int) = 3 then enc s.length ++ s else [])) = (1 : UInt8) :: enc (zig n) := rfl
      rw [henc]
      clear henc
      go_enter Tryz.func62, Tryz.ntmps62
      go_wp2_with fail
      refine (HR.out _).mono ?_
      rintro e w1 ⟨rfl, hb⟩
      have HZ := Lib.hid (kept_cell (new_cell w [.int .u8 1, .int .i64 n, .string ⟨s.toArray⟩] 56) hb)
      have EX1 := Lib.hid (show Ext w w1 from Ext.trans (ext_one _ _) hb)
      clear hb
      have HA1 := Lib.hid ((Below.refl (w1).heap.size (w1)).alloc (Nat.le_refl _) (.cells #[] 5))
      have HO1 := Lib.hid (empty_owned (w1))
      have HX1 := Lib.hid ((hr.mono EX1.out).mono HA1.out)
      have HBV := Lib.hid (bv_oneCell l)
      have hlm : (l.map bv).length = l.length := List.length_map _
      have HLM := Lib.hid hlm
      clear hlm
      go_wp2_with (first
        | (at_builtin; go_loud (refine wpList_append_rd rfl (.tmp 10) (.tmp 11) 36 rfl (w1).heap.size 5 i0 (.int .u8 0) 1 Tryz.underlying36 hi hz0 hz1 hz2 rfl _ _ _ rfl HO1.out _ _ rfl HX1.out HBV.out (by rw [HLM.out]; unfold maxLen; omega) (by rw [HLM.out]; omega) (by simp) ?_); intro v2 w2 hown2 hgrow2; have HB2 := Lib.hid (show Below (w1).heap.size (w1) w2 from HA1.out.grown hgrow2 (by simp) (fun k hk => by cases hk; exact Nat.le_refl _)); have HG2 := Lib.hid hgrow2; have c0 := kept_cell HZ.out HB2.out 0 _ rfl; clear hgrow2)
        | (at_builtin; go_loud (refine wpList_append_own _ rfl (.tmp 13) (.tmp 16) 36 rfl (w1).heap.size 5 i0 (.int .u8 0) 1 1 Tryz.underlying36 hi hz0 hz1 hz2 rfl (by decide) _ _ _ rfl (hown2.alloc _) ⟨w2.heap.size, 0, none⟩ 1 1 [(.int .u8 1)] rfl rfl (one_cell_new _ _) (by simp [Value.oneCell']) (by rw [HLM.out]; unfold maxLen; omega) (by rw [HLM.out]; omega) (by have := HB2.out.size; simp; omega) ?_); intro v3 w3 hown3 hgrow3 _; have HB3 := Lib.hid (show Below (w1).heap.size (w1) w3 from (HB2.out.alloc HB2.out.size _).grown hgrow3 (by have := HB2.out.size; simp; omega) (fun k hk => (hown2.lt k hk).1)); have HO3 := Lib.hid hown3; clear hgrow3 hown3; have d0 := kept_cell HZ.out HB3.out 0 _ rfl; have d1 := kept_cell HZ.out HB3.out 1 _ rfl; have d2 := kept_cell HZ.out HB3.out 2 _ rfl))
      have HR3 := Lib.hid (show Rd w3 v3 (l ++ [1]) from by
        have h := RdV.of_owns HO3.out
        have e : ([] ++ l.map bv) ++ [(.int .u8 1)] = (l ++ [1]).map bv := by rw [List.nil_append, List.map_append]; rfl
        rw [e] at h
        exact h)
      refine (refInt_any v3 (l ++ [1]) n _ HR3.out (by rw [List.length_append]; simp; omega) HLO.out HHI.out).mono ?_
      rintro e w4 ⟨v4, rfl, ho4, hb4⟩
      have HO4 := Lib.hid ho4
      have HB4 := Lib.hid (Ext.trans EX1.out (Ext.trans HB3.out hb4))
      have HS4 := Lib.hid (show w.heap.size ≤ w3.heap.size by have := EX1.out.size; have := HB3.out.size; omega)
      clear ho4 hb4
      go_wp2_with fail
      go_ret
      refine ⟨_, rfl, ?_, HB4.out⟩
      have h := own_low HO4.out HS4.out
      have e : (l ++ [1] ++ enc (zig n)) = l ++ (1 :: enc (zig n)) := by simp [List.append_assoc]
      rw [e] at h
      exact h
    · have henc : (UInt8.ofNat (Int.toNat 2) :: (if (2 : Int) = 1 ∨ (2 : Int) = 2 then enc (zig n) else if (2 : Int) = 3 then enc s.length ++ s else [])) = (2 : UInt8) :: enc (zig n) := rfl
      rw [henc]
      clear henc
      go_enter Tryz.func62, Tryz.ntmps62
      go_wp2_with fail
      refine (HR.out _).mono ?_
      rintro e w1 ⟨rfl, hb⟩
      have HZ := Lib.hid (kept_cell (new_cell w [.int .u8 2, .int .i64 n, .string ⟨s.toArray⟩] 56) hb)
      have EX1 := Lib.hid (show Ext w w1 from Ext.trans (ext_one _ _) hb)
      clear hb
      have HA1 := Lib.hid ((Below.refl (w1).heap.size (w1)).alloc (Nat.le_refl _) (.cells #[] 5))
      have HO1 := Lib.hid (empty_owned (w1))
      have HX1 := Lib.hid ((hr.mono EX1.out).mono HA1.out)
      have HBV := Lib.hid (bv_oneCell l)
      have hlm : (l.map bv).length = l.length := List.length_map _
      have HLM := Lib.hid hlm
      clear hlm
      go_wp2_with (first
        | (at_builtin; go_loud (refine wpList_append_rd rfl (.tmp 10) (.tmp 11) 36 rfl (w1).heap.size 5 i0 (.int .u8 0) 1 Tryz.underlying36 hi hz0 hz1 hz2 rfl _ _ _ rfl HO1.out _ _ rfl HX1.out HBV.out (by rw [HLM.out]; unfold maxLen; omega) (by rw [HLM.out]; omega) (by simp) ?_); intro v2 w2 hown2 hgrow2; have HB2 := Lib.hid (show Below (w1).heap.size (w1) w2 from HA1.out.grown hgrow2 (by simp) (fun k hk => by cases hk; exact Nat.le_refl _)); have HG2 := Lib.hid hgrow2; have c0 := kept_cell HZ.out HB2.out 0 _ rfl; clear hgrow2)
        | (at_builtin; go_loud (refine wpList_append_own _ rfl (.tmp 13) (.tmp 16) 36 rfl (w1).heap.size 5 i0 (.int .u8 0) 1 1 Tryz.underlying36 hi hz0 hz1 hz2 rfl (by decide) _ _ _ rfl (hown2.alloc _) ⟨w2.heap.size, 0, none⟩ 1 1 [(.int .u8 2)] rfl rfl (one_cell_new _ _) (by simp [Value.oneCell']) (by rw [HLM.out]; unfold maxLen; omega) (by rw [HLM.out]; omega) (by have := HB2.out.size; simp; omega) ?_); intro v3 w3 hown3 hgrow3 _; have HB3 := Lib.hid (show Below (w1).heap.size (w1) w3 from (HB2.out.alloc HB2.out.size _).grown hgrow3 (by have := HB2.out.size; simp; omega) (fun k hk => (hown2.lt k hk).1)); have HO3 := Lib.hid hown3; clear hgrow3 hown3; have d0 := kept_cell HZ.out HB3.out 0 _ rfl; have d1 := kept_cell HZ.out HB3.out 1 _ rfl; have d2 := kept_cell HZ.out HB3.out 2 _ rfl))
      have HR3 := Lib.hid (show Rd w3 v3 (l ++ [2]) from by
        have h := RdV.of_owns HO3.out
        have e : ([] ++ l.map bv) ++ [(.int .u8 2)] = (l ++ [2]).map bv := by rw [List.nil_append, List.map_append]; rfl
        rw [e] at h
        exact h)
      refine (refInt_any v3 (l ++ [2]) n _ HR3.out (by rw [List.length_append]; simp; omega) HLO.out HHI.out).mono ?_
      rintro e w4 ⟨v4, rfl, ho4, hb4⟩
      have HO4 := Lib.hid ho4
      have HB4 := Lib.hid (Ext.trans EX1.out (Ext.trans HB3.out hb4))
      have HS4 := Lib.hid (show w.heap.size ≤ w3.heap.size by have := EX1.out.size; have := HB3.out.size; omega)
      clear ho4 hb4
      go_wp2_with fail
      go_ret
      refine ⟨_, rfl, ?_, HB4.out⟩
      have h := own_low HO4.out HS4.out
      have e : (l ++ [2] ++ enc (zig n)) = l ++ (2 :: enc (zig n)) := by simp [List.append_assoc]
      rw [e] at h
      exact h
    · have henc : (UInt8.ofNat (Int.toNat 3) :: (if (3 : Int) = 1 ∨ (3 : Int) = 2 then enc (zig n) else if (3 : Int) = 3 then enc s.length ++ s else [])) = (3 : UInt8) :: (enc s.length ++ s) := rfl
      rw [henc]
      clear henc
      go_enter Tryz.func62, Tryz.ntmps62
      go_wp2_with fail
      refine (HR.out _).mono ?_
      rintro e w1 ⟨rfl, hb⟩
      have HZ := Lib.hid (kept_cell (new_cell w [.int .u8 3, .int .i64 n, .string ⟨s.toArray⟩] 56) hb)
      have EX1 := Lib.hid (show Ext w w1 from Ext.trans (ext_one _ _) hb)
      clear hb
      have HA1 := Lib.hid ((Below.refl (w1).heap.size (w1)).alloc (Nat.le_refl _) (.cells #[] 5))
      have HO1 := Lib.hid (empty_owned (w1))
      have HX1 := Lib.hid ((hr.mono EX1.out).mono HA1.out)
      have HBV := Lib.hid (bv_oneCell l)
      have hlm : (l.map bv).length = l.length := List.length_map _
      have HLM := Lib.hid hlm
      clear hlm
      go_wp2_with (first
        | (at_builtin; go_loud (refine wpList_append_rd rfl (.tmp 10) (.tmp 11) 36 rfl (w1).heap.size 5 i0 (.int .u8 0) 1 Tryz.underlying36 hi hz0 hz1 hz2 rfl _ _ _ rfl HO1.out _ _ rfl HX1.out HBV.out (by rw [HLM.out]; unfold maxLen; omega) (by rw [HLM.out]; omega) (by simp) ?_); intro v2 w2 hown2 hgrow2; have HB2 := Lib.hid (show Below (w1).heap.size (w1) w2 from HA1.out.grown hgrow2 (by simp) (fun k hk => by cases hk; exact Nat.le_refl _)); have HG2 := Lib.hid hgrow2; have c0 := kept_cell HZ.out HB2.out 0 _ rfl; clear hgrow2)
        | (at_builtin; go_loud (refine wpList_append_own _ rfl (.tmp 13) (.tmp 16) 36 rfl (w1).heap.size 5 i0 (.int .u8 0) 1 1 Tryz.underlying36 hi hz0 hz1 hz2 rfl (by decide) _ _ _ rfl (hown2.alloc _) ⟨w2.heap.size, 0, none⟩ 1 1 [(.int .u8 3)] rfl rfl (one_cell_new _ _) (by simp [Value.oneCell']) (by rw [HLM.out]; unfold maxLen; omega) (by rw [HLM.out]; omega) (by have := HB2.out.size; simp; omega) ?_); intro v3 w3 hown3 hgrow3 _; have HB3 := Lib.hid (show Below (w1).heap.size (w1) w3 from (HB2.out.alloc HB2.out.size _).grown hgrow3 (by have := HB2.out.size; simp; omega) (fun k hk => (hown2.lt k hk).1)); have HO3 := Lib.hid hown3; clear hgrow3 hown3; have d0 := kept_cell HZ.out HB3.out 0 _ rfl; have d1 := kept_cell HZ.out HB3.out 1 _ rfl; have d2 := kept_cell HZ.out HB3.out 2 _ rfl))
      have HR3 := Lib.hid (show Rd w3 v3 (l ++ [3]) from by
        have h := RdV.of_owns HO3.out
        have e : ([] ++ l.map bv) ++ [(.int .u8 3)] = (l ++ [3]).map bv := by rw [List.nil_append, List.map_append]; rfl
        rw [e] at h
        exact h)
      refine (refText_any v3 (l ++ [3]) ⟨s.toArray⟩ _ HR3.out (by rw [List.length_append]; show l.length + 1 + 9 + s.length ≤ _; omega)).mono ?_
      rintro e w4 ⟨v4, rfl, ho4, hb4⟩
      have HO4 := Lib.hid ho4
      have HB4 := Lib.hid (Ext.trans EX1.out (Ext.trans HB3.out hb4))
      have HS4 := Lib.hid (show w.heap.size ≤ w3.heap.size by have := EX1.out.size; have := HB3.out.size; omega)
      clear ho4 hb4
      go_wp2_with fail
      go_ret
      refine ⟨_, rfl, ?_, HB4.out⟩
      have h := own_low HO4.out HS4.out
      have e : (l ++ [3] ++ enc (ByteArray.size ⟨s.toArray⟩) ++ (ByteArray.mk s.toArray).data.toList) = l ++ (3 :: (enc s.length ++ s)) := by simp [List.append_assoc, ByteArray.size]
      rw [e] at h
      exact h
end Go.Proofs.YtaoegcakefodaaaGreat

namespace Go.Proofs.YtaoegcakefodaaaGreat
open Go.RowKit Go.BigFrame
set_option maxRecDepth 100000 in
set_option maxHeartbeats 1000000 in
theorem refRow17_any (u : Value) (r : List V) (w : World) (hu : RdVals w u r) (hf : ∀ v ∈ r, v.fits ∧ v.s.length ≤ 5000) (hl : r.length ≤ 400) :
    Calls Tryz.prog 38 #[u] w (Fresh 5 w ((rowB r).map bv)) := by
  obtain ⟨ao, cap, rfl, -, -⟩ := hu.shape
  obtain ⟨-, h1, h2, hrc⟩ := hu.plain
  have HRC := Lib.hid hrc
  have HF := Lib.hid hf
  unfold maxLen at h2
  obtain ⟨N, hN⟩ : ∃ N, r.length = N := ⟨_, rfl⟩
  have HN := Lib.hid hN
  have HRB := Lib.hid (show rowB r = enc N ++ r.flatMap encV by unfold rowB; rw [hN])
  have HVL := Lib.hid (fun j => vals_le (r.take j))
  have HEL := Lib.hid (enc_length N)
  rw [hN] at h1 hl ⊢
  have HNUM := Lib.hid (refNum_any (.slice none 0 0) [] N w (.inl ⟨rfl, rfl⟩) (by simp) (by omega))
  clear hu hrc hf hN
  go_enter Tryz.func38, Tryz.ntmps38
  go_wp2_with fail
  refine HNUM.out.mono ?_
  rintro e w1 ⟨v1, rfl, ho, hb⟩
  have HO := Lib.hid ho
  have HB := Lib.hid hb
  clear ho hb
  go_wp2_with fail
  go_loopw [3, 4] (fun bv' i wr => ∃ j : Nat, j ≤ N ∧ i = .int .i64 j ∧ wr.ownsRow w.heap.size 5 1 bv' ((enc N ++ (r.take j).flatMap encV).map bv).length ((enc N ++ (r.take j).flatMap encV).map bv) ∧ Ext w wr) (fun _ i _ => N - (intOf i).toNat)
  case atStart => exact ⟨0, Nat.zero_le _, rfl, by simpa using HO.out, HB.out⟩
  case round =>
    obtain ⟨j, hj, rfl, ho, hx⟩ := hrel
    have HO2 := Lib.hid ho
    have HX := Lib.hid hx
    clear ho hx
    by_cases hlt : j < N
    · have hjl : j < r.length := by have := HN.out; omega
      obtain ⟨g, off, rfl, c0, c1, c2⟩ := HRC.out j hjl
      have x0 := (HX.out.cell (lt_of_cell c0)).trans c0
      have x1 := (HX.out.cell (lt_of_cell c1)).trans c1
      have x2 := (HX.out.cell (lt_of_cell c2)).trans c2
      have HTS := Lib.hid (List.take_succ_eq_append_getElem hjl)
      have hlj : (r.take j).length ≤ 400 := by rw [List.length_take]; omega
      have hle : (enc N ++ (r.take j).flatMap encV).length ≤ 1000000 := by
        rw [List.length_append]
        have := HVL.out j
        have := HEL.out
        have := Nat.mul_le_mul_left 2000 hlj
        omega
      have HPUT := Lib.hid (refPut_any _ (enc N ++ (r.take j).flatMap encV) r[j] wr (RdV.of_owns HO2.out) hle (HF.out r[j] (List.getElem_mem hjl)).1 (HF.out r[j] (List.getElem_mem hjl)).2)
      generalize r[j] = v at x0 x1 x2 HTS HPUT
      obtain ⟨vk, vn, vs⟩ := v
      unfold V.val at HPUT
      simp only at x0 x1 x2 HPUT
      clear c0 c1 c2 hlj hle
      go_wp2_with fail
      refine HPUT.out.mono ?_
      rintro e w3 ⟨v3, rfl, ho3, hb3⟩
      have HO3 := Lib.hid ho3
      have HX3 := Lib.hid (Ext.trans HX.out hb3)
      have HWR := Lib.hid HX.out.size
      clear ho3 hb3
      go_wp2_with fail
      go_roundw
      case rel =>
        refine ⟨j + 1, by omega, by go_num, ?_, HX3.out⟩
        rw [HTS.out, List.flatMap_append, ← List.append_assoc]
        have h := Joins.ownsRow_le HO3.out HWR.out
        simpa using h
      case measure => simp [intOf]; omega
    · have HALL := Lib.hid (show r.take j = r from List.take_of_length_le (by have := HN.out; omega))
      go_wp2_with fail
      go_ret
      refine ⟨_, rfl, ?_, HX.out⟩
      rw [HRB.out]
      have h := HO2.out
      rwa [HALL.out] at h
end Go.Proofs.YtaoegcakefodaaaGreat

namespace Go.Proofs.YtaoegcakefodaaaGreat
open Go.RowKit Go.BigFrame
theorem bv_oneCellS (l : List UInt8) : ∀ x ∈ l.map bv, x.oneCell' = true := fun x hx => by
  obtain ⟨b, -, rfl⟩ := List.mem_map.1 hx
  rfl
set_option maxRecDepth 100000 in
set_option maxHeartbeats 1000000 in
theorem refBytes17_any (u : Value) (rows : List (List V)) (w : World) (hu : RdRows w u rows) (hf : FitB rows) :
    Calls Tryz.prog 16 #[u] w (Fresh 5 w ((rowsB rows).map bv)) := by
  obtain ⟨i0, hi, hz0, hz1, hz2⟩ := info_parts Tryz.info5
  obtain ⟨ao, ca, rfl, -, -⟩ := hu.shape
  obtain ⟨fh, hfh, -, h1, h2, hat⟩ := hu.heads
  have HAT := Lib.hid hat
  have HFH := Lib.hid hfh
  have HF := Lib.hid hf
  unfold maxLen at h2
  obtain ⟨N, hN⟩ : ∃ N, rows.length = N := ⟨_, rfl⟩
  have HN := Lib.hid hN
  rw [hN] at h1 ⊢
  clear hu hat hfh hf hN
  go_enter Tryz.func16, Tryz.ntmps16
  go_wp2_with fail
  go_loopw [3, 4] (fun bv' i wr => ∃ j : Nat, j ≤ N ∧ i = .int .i64 j ∧ wr.ownsRow w.heap.size 5 1 bv' ((rowsB (rows.take j)).map bv).length ((rowsB (rows.take j)).map bv) ∧ Ext w wr) (fun _ i _ => N - (intOf i).toNat)
  case atStart => exact ⟨0, Nat.zero_le _, rfl, owns_nil _ _ _ _, Ext.keeps.refl _⟩
  case round =>
    obtain ⟨j, hj, rfl, ho, hx⟩ := hrel
    have HO := Lib.hid ho
    have HX := Lib.hid hx
    clear ho hx
    by_cases hlt : j < N
    · have hjl : j < rows.length := by have := HN.out; omega
      obtain ⟨a1, a2, a3, ha, hra⟩ := HFH.out.get j hjl
      obtain ⟨g, off, rfl, c0⟩ := HAT.out j _ ha
      have x0 := (HX.out.cell (lt_of_cell c0)).trans c0
      have hfj := HF.out.2 rows[j] (List.getElem_mem hjl)
      have HROW := Lib.hid (refRow17_any _ rows[j] wr (hra.mono HX.out) hfj.2 hfj.1)
      have HTS := Lib.hid (List.take_succ_eq_append_getElem hjl)
      have hle := rowsB_le (rows := rows.take j) (fun r hr => (HF.out.2 r (List.mem_of_mem_take hr)).1)
      have hl2 := rowB_le rows[j]
      have h400 := hfj.1
      have hjn : (rows.take j).length ≤ 1000 := by rw [List.length_take]; have := HF.out.1; omega
      have HLEN := Lib.hid (show ((rowsB (rows.take j)).map bv).length + ((rowB rows[j]).map bv).length ≤ 1000000000 from by
        rw [List.length_map, List.length_map]
        have := Nat.mul_le_mul_left 900000 hjn
        have := Nat.mul_le_mul_left 2000 h400
        omega)
      generalize rows[j] = r at HROW HTS HLEN
      clear ha hra c0 hfj hle hl2 h400 hjn
      go_wp2_with fail
      refine HROW.out.mono ?_
      rintro e w1 ⟨v1, rfl, ho1, hb1⟩
      have HR1 := Lib.hid (RdV.of_owns ho1)
      have HX1 := Lib.hid (show Ext wr w1 from hb1)
      have HO1 := Lib.hid (owns_extS HO.out hb1)
      have HSZ := Lib.hid (Ext.trans HX.out hb1).size
      have HONE := Lib.hid (bv_oneCellS (rowB r))
      clear ho1 hb1 HROW
      go_wp2_with (at_builtin; go_must (refine wpList_append_rd rfl (.tmp 11) (.tmp 16) 36 rfl w.heap.size 5 i0 (.int .u8 0) 1 Tryz.underlying36 hi hz0 hz1 hz2 rfl _ _ _ rfl HO1.out _ _ rfl HR1.out HONE.out (by have := HLEN.out; unfold maxLen; omega) (by have := HLEN.out; omega) HSZ.out ?_); intro v5 w5 h5a h5b; have HO5 := Lib.hid h5a; have HB5 := Lib.hid ((Below.refl w.heap.size w1).grown h5b HSZ.out (fun b hb => (HO1.out.lt b hb).1)); clear h5a h5b)
      have HX5 := Lib.hid (show Ext w w5 from (show Below w.heap.size w w1 from Ext.trans HX.out HX1.out).trans HB5.out)
      go_roundw
      case rel =>
        refine ⟨j + 1, by omega, by go_num, ?_, HX5.out⟩
        rw [HTS.out, rowsB_snoc, List.map_append, List.length_append]
        exact HO5.out
      case measure => simp [intOf]; omega
    · have HALL := Lib.hid (show rows.take j = rows from List.take_of_length_le (by have := HN.out; omega))
      go_wp2_with fail
      go_ret
      refine ⟨_, rfl, ?_, HX.out⟩
      have h := HO.out
      rwa [HALL.out] at h
end Go.Proofs.YtaoegcakefodaaaGreat

namespace Go.Proofs.YtaoegcakefodaaaGreat
open Go.RowKit Go.BigFrame
set_option maxRecDepth 100000 in
set_option maxHeartbeats 4000000 in
theorem sorterSorts_walk (u : Value) (rs : List (List V)) (x : Value) (ks : List Ky) (fan more : Int) (w : World) (hu0 : RdRows w u rs) (hf : ∀ r ∈ rs, ∀ v ∈ r, v.fits ∧ v.s.length ≤ maxLen) (hz : ∀ n c, u = .slice none n c → n = 0 ∧ c = 0) (hx : RdKs w x ks) (_hk : ∀ k ∈ ks, k.fits) (hfan : 0 ≤ fan ∧ fan ≤ 255) (hmore : 0 ≤ more ∧ more ≤ 65535) :
    Calls Tryz.prog 3 #[u, x, .int .u8 fan, .int .u16 more] w fun e w' => e = .returned (.bool true) ∧ Below w.heap.size w w' := by
  have hu := RdRV.of_rows hu0 hz
  clear hu0 hz
  obtain ⟨hf0, hf1⟩ := hfan
  obtain ⟨hm0, hm1⟩ := hmore
  obtain ⟨F, hF⟩ : ∃ F : Int, F = fan % 15 + 2 := ⟨_, rfl⟩
  have hF2 : 2 ≤ F := by omega
  have hF16 : F ≤ 16 := by omega
  obtain ⟨m, hmm⟩ : ∃ m : Int, m = more % 1001 := ⟨_, rfl⟩
  have hm2 : 0 ≤ m := by omega
  have hm3 : m ≤ 1000 := by omega
  have HF := Lib.hid hf
  have HU := Lib.hid hu
  have HX := Lib.hid hx
  have HFF := Lib.hid hF
  have HMM := Lib.hid hmm
  clear hu hf hx hF hmm
  go_enter Tryz.func3, Tryz.ntmps3
  go_wp2_with fail
  refine (shown18_any _).mono ?_
  rintro e w1 ⟨rfl, x1⟩
  have X1 := Lib.hid x1
  clear x1
  go_wp2_with fail
  refine (few18_any _ rs w w1 HU.out X1.out HF.out).mono ?_
  rintro e w2 ⟨⟨v, M, rfl, hv, hfw⟩, x2⟩
  generalize rs.take M = xs at hv hfw
  have X2 := Lib.hid (Ext.trans X1.out x2)
  have HV := Lib.hid (hv.mono X2.out)
  have HW := Lib.hid hfw
  have HC := Lib.hid (cost_few hfw)
  have HC9 := Lib.hid (fun r hr => Int.le_trans (cost_few hfw r hr) (show (100000 : Int) ≤ 1000000000 by decide))
  obtain ⟨G, hG⟩ : ∃ G, greatR xs = G := ⟨_, rfl⟩
  have HGG := Lib.hid hG
  have hg := great_short hfw
  rw [hG] at hg
  obtain ⟨hg0, hg1⟩ := hg
  clear hv hfw x2 X1 hG
  go_wp2_with fail
  refine (some18_any x ks w2 (HX.out.mono X2.out)).mono ?_
  rintro e w3 ⟨⟨k, rfl, hk⟩, rfl⟩
  have HK := Lib.hid hk
  have hkl : (ks.take 10).length ≤ 10 := List.length_take_le _ _
  generalize ks.take 10 = kx at HK hkl
  clear hk
  have hFG0 : 0 ≤ F * G := Int.mul_nonneg (by omega) hg0
  have hFG1 : F * G ≤ 100224 := Int.le_trans (Int.mul_le_mul hF16 hg1 hg0 (by omega)) (by decide)
  have hGF : G ≤ F * G := by
    have h := Int.mul_le_mul_of_nonneg_right (show (1 : Int) ≤ F by omega) hg0
    rwa [Int.one_mul] at h
  go_wp2_with fail
  rw [← HFF.out]
  refine (greatest18_any v xs _ HV.out.rd HC.out).mono ?_
  rw [HGG.out]
  rintro e w4 ⟨rfl, x4⟩
  have X4 := Lib.hid x4
  clear x4
  obtain ⟨T, hT⟩ : ∃ T, F * G + m = T := ⟨_, rfl⟩
  have HT := Lib.hid hT
  have hT0 : 0 ≤ T := by omega
  have hT1 : T ≤ 101224 := by omega
  have hmin : min (F * G + m) 1048576 = T := by omega
  have HMIN := Lib.hid hmin
  clear hmin hT
  go_wp2_with fail
  rw [← HMM.out, HMIN.out]
  have HR0 := Lib.hid (show (runsR xs T).2 = 0 from runs_room (by rw [HGG.out]; have := HT.out; omega))
  have hrn := (runsG_le T xs 0 0).1
  have hx60 := HW.out.1
  refine (refRuns18_any v xs T w4 (HV.out.mono X4.out).rd (Nat.le_trans HW.out.1 (by decide)) HC9.out (by omega)).mono ?_
  rw [HR0.out]
  rintro e w5 ⟨rfl, x5⟩
  have X5 := Lib.hid (Ext.trans X4.out x5)
  obtain ⟨R, hR⟩ : ∃ R, (runsR xs T).1 = R := ⟨_, rfl⟩
  have HR := Lib.hid hR
  rw [show (runsG T xs 0 0).1 = R from hR] at hrn
  rw [hR]
  have hR60 : R ≤ 60 := by omega
  clear x5 hR hrn hx60
  go_wp2_with fail
  refine (refBytes17_any v xs _ (HV.out.mono X5.out).rd HW.out.fit).mono ?_
  rintro e w6 ⟨v6, rfl, own6, x6⟩
  have X6 := Lib.hid (Ext.trans X5.out x6)
  rw [List.length_map] at own6
  obtain ⟨ad, cp, rfl, -, -⟩ := own_shapeP own6
  have hbl := bytes18 HW.out
  obtain ⟨BL, hBL⟩ : ∃ BL, (rowsB xs).length = BL := ⟨_, rfl⟩
  have HBL := Lib.hid hBL
  rw [hBL] at hbl
  rw [hBL]
  clear own6 x6 hBL
  go_wp2_with fail
  refine (refNeed_any (BL : Int) _ (by omega) (by omega)).mono ?_
  rintro e w7 ⟨rfl, rfl⟩
  have hnd : 0 ≤ needS (BL : Int) ∧ needS (BL : Int) ≤ 460 := by unfold needS; split <;> omega
  obtain ⟨ND, hND⟩ : ∃ ND, needS (BL : Int) = ND := ⟨_, rfl⟩
  have HND := Lib.hid hND
  rw [hND] at hnd
  rw [hND]
  obtain ⟨hnd0, hnd1⟩ := hnd
  obtain ⟨C, hC⟩ : ∃ C : Int, 2 * ND + 2 * (R : Int) + 4 = C := ⟨_, rfl⟩
  have HMINP := Lib.hid (show min (2 * ND + 2 * (R : Int) + 4) 4096 = C by omega)
  have HCC := Lib.hid hC
  have hC0 : 0 ≤ C := by omega
  have hC1 : C ≤ 4096 := by omega
  clear hND hC
  go_wp2_with fail
  rw [HMINP.out]
  refine (pNew_any C (by omega)).mono ?_
  rintro e w8 hN
  unfold PNewed at hN
  rcases hN with ⟨_, _, p, O1, rfl, hp8, ho8, hx8⟩ | ⟨h, _⟩
  rotate_left
  · omega
  have HP8 := Lib.hid hp8
  have HO8 := Lib.hid ho8
  have HX8 := Lib.hid hx8
  clear hp8 ho8 hx8
  go_wp2_with fail
  refine (purNew_any T w8 (by omega)).mono ?_
  rintro e w9 hN
  unfold PurNewed at hN
  rcases hN with ⟨_, _, q, rfl, hq9, hg9, hx9⟩ | ⟨h, _⟩
  rotate_left
  · omega
  have HQ9 := Lib.hid hq9
  have HX9 := Lib.hid hx9
  have HG9 := Lib.hid hg9
  clear hq9 hx9 hg9
  have HOq := Lib.hid (show ¬ O1 q from fun h => by have := HP8.out.lt q h; have := HG9.out; omega)
  have HEX := Lib.hid (Ext.trans X6.out (Ext.trans HX8.out HX9.out))
  have HYB := Lib.hid (fun i (hi : O1 i ∨ i = q) => show w3.heap.size ≤ i from by
    have s1 := X6.out.size
    have s2 := HX8.out.size
    rcases hi with h | h
    · have := HO8.out i h
      omega
    · have := HG9.out
      omega)
  have HBEL := Lib.hid (fun W (hW : OnlyS (fun i => O1 i ∨ i = q) w9 W) => show Ext w3 W from (show Below w3.heap.size w3 w9 from HEX.out).trans (hW.below HEX.out.size HYB.out))
  have HFIT := Lib.hid (show ∀ r ∈ xs, mayR r = 0 ∧ FitR 5000 r from fun r hr => ⟨(HW.out.2.1 r hr).2.1, fun v hv => ⟨((HW.out.2.1 r hr).2.2 v hv).1, Nat.le_trans ((HW.out.2.1 r hr).2.2 v hv).2 (by decide)⟩⟩)
  have hx60 := HW.out.1
  go_wp2_with fail
  refine (pSort18_any (fun i => O1 i ∨ i = q) O1 p q (List.replicate C.toNat none) ⟨T, 0, 0⟩ v k xs kx F w9 (HP8.out.mono HX9.out) ⟨by rw [List.length_replicate]; omega, fun p hp => by simp at hp⟩ HQ9.out HOq.out (fun i h => h) (fun W hW => HV.out.mono (HBEL.out W hW)) (fun W hW => HK.out.mono (HBEL.out W hW)) (by omega) (by omega) HFIT.out (by omega)).mono ?_
  rintro e w10 ⟨out, E, O', pu', rfl, hp10, hq10, hm10, hn10, ho10, hO10, hq10', -, h2, h3, -⟩
  have h2' := h2 (by omega) (by omega)
  have hE : E = 0 := by
    have e1 := h2'.2.2.2.1 (show RoomM18 (T - 0) xs F by
      unfold RoomM18
      rw [HGG.out]
      have := HT.out
      omega)
    have e2 := h2'.2.2.2.2 (show RoomD18 _ (T - 0) xs from by
      rw [Int.sub_zero]
      refine ⟨fun _ => ?_, fun h => absurd HR0.out h⟩
      rw [HR.out, HBL.out, HND.out, List.length_replicate, used_none17]
      have := HCC.out
      omega)
    omega
  subst hE
  have HOUT := Lib.hid (h3 rfl w10 (OnlyS.refl _ _)).rd
  have HP10 := Lib.hid hp10
  have HQ10 := Lib.hid hq10
  have hn10' : pu'.now = 0 := hn10
  have hpk : pu'.peak ≤ T := by
    have h := hq10.ok.p1
    rw [hm10] at h
    exact h
  have HB10 := Lib.hid (show Ext w3 w10 from HBEL.out w10 ho10)
  clear h2 h2' h3 hp10 hq10 hm10 hn10 ho10 hO10 hq10'
  go_wp2_with fail
  refine (refSort15_any v k xs kx 5000 w10 (HV.out.mono HB10.out).rd (HK.out.mono HB10.out) (fun r hr => (HFIT.out r hr).2) (by omega)).mono ?_
  rintro e w11 ⟨⟨o11, rfl, h11⟩, x11⟩
  have HO11 := Lib.hid h11.rd
  have X11 := Lib.hid x11
  clear h11 x11
  go_wp2_with fail
  refine (refSameRows_any out o11 (sortS kx xs) (sortS kx xs) w11 (HOUT.out.mono X11.out) HO11.out).mono ?_
  rw [decide_eq_true rfl]
  rintro e w12 ⟨rfl, x12⟩
  have X12 := Lib.hid (Ext.trans X11.out x12)
  clear x12
  go_wp2_with fail
  refine (purPeak_any (HQ10.out.ext X12.out)).mono ?_
  rintro e w13 ⟨rfl, rfl⟩
  obtain ⟨PK, hPK⟩ : ∃ PK, pu'.peak = PK := ⟨_, rfl⟩
  rw [hPK] at hpk
  rw [hPK]
  have dpk : decide (PK ≤ T) = true := decide_eq_true hpk
  clear hPK
  go_wp2_with fail
  refine (purNow_any (HQ10.out.ext X12.out)).mono ?_
  rw [hn10']
  rintro e w14 ⟨rfl, rfl⟩
  clear hn10'
  go_wp2_with fail
  refine (pUsed_any (HP10.out.mono X12.out)).mono ?_
  rw [show ((usedS (List.replicate C.toNat none) : Nat) : Int) = 0 from by rw [used_none17]; rfl]
  rintro e w15 ⟨rfl, x15⟩
  have HFIN := Lib.hid (Ext.trans X2.out (Ext.trans HB10.out (Ext.trans X12.out x15)))
  clear x15
  go_wp2_with fail
  go_ret
  exact ⟨rfl, HFIN.out⟩
end Go.Proofs.YtaoegcakefodaaaGreat

