/-
  Contracts of the library's bytes.Clone, slices.Grow, slices.Concat over rows of bytes.
-/
import Derived.Test.YthelgjoobckbaaaSlices
import Derived.Lib.AppendZeros
namespace Go.Proofs.Ythelgjoobckbaaa
open Go.RowKit

set_option maxRecDepth 100000 in
set_option maxHeartbeats 400000 in
theorem Clone_any (v : Value) (l : List UInt8) (w : World) (hr : Rd w v l) (hl : l.length ≤ 140737488355328) :
    Calls Try.prog 38 #[v] w (Fresh 5 w (l.map bv)) := by
  obtain ⟨i0, hi, hz0, hz1, hz2⟩ := info_parts Try.info5
  have HB := Lib.hid (bv_oneCell l)
  have HLM := Lib.hid (show (l.map bv).length = l.length from List.length_map _)
  rcases hr with ⟨rfl, h1⟩ | ⟨x, cap, rfl, h2, h3, h4⟩
  · have HN := Lib.hid h1
    have hq : ∀ w, (binOp BinOp.eql 33 (.slice none 0 0) (.slice none 0 0)).run Try.prog w = .ok (.bool true) w := fun w => Lib.run_eql_slice_nil w _ _ none 0 0 0 0 Try.underlying33
    clear h1
    go_enter Try.func38, Try.ntmps38
    go_wp2_with fail
    go_ret
    rw [HN.out]
    exact ⟨_, rfl, World.ownsRow_nil _ _ _ _, Below.refl _ _⟩
  · have HR := Lib.hid (Rd.mono (show Rd w (.slice (some x) (l.map bv).length cap) l from .inr ⟨x, cap, rfl, h2, h3, h4⟩) ((Below.refl _ w).alloc (Nat.le_refl _) (.cells #[] 5)))
    have HO := Lib.hid (empty_owned w)
    clear h2 h3 h4
    have hq : ∀ w, (binOp BinOp.eql 33 (.slice (some x) (l.map bv).length cap) (.slice none 0 0)).run Try.prog w = .ok (.bool false) w := fun w => Lib.run_eql_slice_nil w _ _ (some x) _ _ 0 0 Try.underlying33
    generalize (l.map bv).length = L at HR HLM hq ⊢
    go_enter Try.func38, Try.ntmps38
    go_wp2_with (at_builtin; go_loud (refine wpList_append_rd rfl (.tmp 5) (.tmp 6) 33 rfl w.heap.size 5 i0 (.int .u8 0) 1 Try.underlying33 hi hz0 hz1 hz2 rfl _ _ _ rfl HO.out _ _ rfl HR.out HB.out (by rw [List.length_map]; unfold maxLen; omega) (by rw [List.length_map]; omega) (by simp) ?_); intro v2 w2 hown2 hgrow2)
    go_ret
    refine ⟨_, rfl, by simpa using hown2, (((Below.refl _ w).alloc (Nat.le_refl _) _).grown hgrow2 (by simp) (fun k hk => by cases hk; exact Nat.le_refl _))⟩

theorem size_zeroCells (n : Nat) : (Builtin.zeroCells #[Value.int .u8 0] n).size = n := by
  simp [Builtin.zeroCells]

set_option maxRecDepth 100000 in
set_option maxHeartbeats 400000 in
theorem Grow_any (n : Nat) (w : World) (hn : n ≤ 140737488355328) :
    Calls Try.prog 52 #[.slice none 0 0, .int .i64 n] w (Fresh 5 w []) := by
  obtain ⟨i0, hi, hz0, hz1, hz2⟩ := info_parts Try.info5
  by_cases h0 : n = 0
  · subst h0
    go_enter Try.func52, Try.ntmps52
    go_wp2_with fail
    go_ret
    exact ⟨_, rfl, World.ownsRow_nil _ _ _ _, Below.refl _ _⟩
  · have hz := Lib.run_append_nil_zeros (P := Try.prog) w 33 3 33 5 i0 (.int .u8 0) .i64 .i64 Try.underlying33 Try.underlying3 hi hz0 n (by omega) (by omega) (by omega) (by rw [hz2]; omega)
    have HZ := Lib.hid hz
    have hcap := Lib.hid (grownCap_ge w n 0 5)
    have hcap2 := Lib.hid (grownCap_le_maxLen w n 0 5 (by unfold maxLen; omega))
    have hpos : decide (0 < (n : Int)) = true := decide_eq_true (by omega)
    clear hz
    generalize grownCap w n 0 5 = C at HZ hcap hcap2
    go_enter Try.func52, Try.ntmps52
    go_wp2_with (at_builtin; go_loud (refine Lib.wpList_append_run _ rfl (.tmp 20) (.tmp 21) 33 3 rfl _ _ rfl rfl _ _ HZ.out ?_))
    go_ret
    have h1 := hcap.out
    refine ⟨_, rfl, ?_, ((Below.refl _ w).alloc (Nat.le_refl _) _).drew⟩
    refine ⟨rfl, .inr ⟨w.heap.size, C, _, rfl, Nat.le_refl _, heap_alloc_new w _, Nat.zero_le _, hcap2.out, ?_, by simp⟩⟩
    rw [Array.size_append, size_zeroCells, size_zeroCells]
    omega

/-- What the first so many lists hold together. -/
def tot (ls : List (List UInt8)) (k : Nat) : Nat := (ls.take k).flatten.length
theorem tot_step (ls : List (List UInt8)) (k : Nat) (h : k < ls.length) : tot ls (k + 1) = tot ls k + ls[k].length := by
  unfold tot
  rw [List.take_succ_eq_append_getElem h, List.flatten_append, List.length_append]
  simp
theorem flat_step (ls : List (List UInt8)) (k : Nat) (h : k < ls.length) : (ls.take (k + 1)).flatten = (ls.take k).flatten ++ ls[k] := by
  rw [List.take_succ_eq_append_getElem h, List.flatten_append]
  simp
theorem tot_le (ls : List (List UInt8)) (k : Nat) : tot ls k ≤ ls.flatten.length := by
  unfold tot
  conv => rhs; rw [← List.take_append_drop k ls]
  rw [List.flatten_append, List.length_append]
  omega

set_option maxRecDepth 100000 in
set_option maxHeartbeats 1000000 in
/-- Lists, one behind the other, as a row of the call's own. -/
theorem Concat_any (x : Addr) (N cap : Nat) (vs : List Value) (ls : List (List UInt8)) (w : World) (hN : N = ls.length) (hv : vs.length = ls.length) (hcap : N ≤ cap) (hcap2 : cap ≤ 9223372036854775807)
    (hc : ∀ (i : Nat) u, vs[i]? = some u → w.cell? (x.add i) = some u) (hr : ∀ (i : Nat) u l, vs[i]? = some u → ls[i]? = some l → Rd w u l) (hl : ls.flatten.length ≤ 140737488355328) :
    Calls Try.prog 49 #[.slice (some x) N cap] w (Fresh 5 w (ls.flatten.map bv)) := by
  obtain ⟨i0, hi, hz0, hz1, hz2⟩ := info_parts Try.info5
  have HC := Lib.hid hc
  have HR := Lib.hid hr
  have HV := Lib.hid hv
  have HN := Lib.hid hN
  have HL := Lib.hid hl
  clear hc hr hv hN hl
  go_enter Try.func49, Try.ntmps49
  go_wp2_with fail
  go_loop [3, 11] (fun n i => ∃ k : Nat, k ≤ N ∧ i = .int .i64 k ∧ n = .int .i64 (tot ls k)) (fun _ i => N - (intOf i).toNat)
  case atStart => exact ⟨0, Nat.zero_le _, rfl, rfl⟩
  case round =>
    obtain ⟨k, hk, rfl, rfl⟩ := hrel
    have htl := tot_le ls k
    have htl2 := HL.out
    by_cases hlt : k < N
    · have hkl : k < ls.length := by have := HN.out; omega
      have hkv : k < vs.length := by have := HV.out; omega
      have hc := HC.out k _ (List.getElem?_eq_getElem hkv)
      have hrd := HR.out k _ _ (List.getElem?_eq_getElem hkv) (List.getElem?_eq_getElem hkl)
      have HS := Lib.hid (tot_step ls k hkl)
      have hsl := tot_le ls (k + 1)
      rw [HS.out] at hsl
      generalize ls[k] = l at hrd HS hsl
      generalize vs[k] = u at hc hrd
      obtain ⟨a, cp, rfl, hs1, hs2⟩ := hrd.shape
      unfold maxLen at hs2
      have HRD := Lib.hid hrd
      generalize tot ls k = T at HS htl hsl ⊢
      have hneg : decide ((T : Int) + l.length < 0) = false := decide_eq_false (by omega)
      clear hrd
      go_wp2_with fail
      go_round
      case rel => exact ⟨k + 1, by omega, by go_num, by rw [HS.out]; go_num⟩
      case measure => simp [intOf]; omega
    · have hkN : k = N := by omega
      subst hkN
      have hT : tot ls k = ls.flatten.length := by unfold tot; rw [List.take_of_length_le (by have := HN.out; omega)]
      have HT := Lib.hid hT
      generalize tot ls k = T at HT htl ⊢
      clear hT hlt
      go_wp2_with fail
      refine (Grow_any T w (by omega)).mono ?_
      rintro e w1 ⟨v1, rfl, ho1, hb1⟩
      have HO1 := Lib.hid ho1
      have HB1 := Lib.hid hb1
      clear ho1 hb1
      go_wp2_with fail
      go_loopw [6, 27] (fun r i wr => ∃ j : Nat, j ≤ k ∧ i = .int .i64 j ∧ wr.ownsRow w.heap.size 5 1 r (tot ls j) (((ls.take j).flatten).map bv) ∧ Below w.heap.size w wr) (fun _ i _ => k - (intOf i).toNat)
      case atStart => exact ⟨0, Nat.zero_le _, rfl, HO1.out, HB1.out⟩
      case round =>
        obtain ⟨j, hj, rfl, hor, hbr⟩ := hrel
        have HOR := Lib.hid hor
        have HBR := Lib.hid hbr
        clear hor hbr
        by_cases hjlt : j < k
        · have hkl : j < ls.length := by have := HN.out; omega
          have hkv : j < vs.length := by have := HV.out; omega
          have hc0 := HC.out j _ (List.getElem?_eq_getElem hkv)
          have hc : wr.cell? (x.add j) = some vs[j] := (HBR.out.cell (lt_of_cell hc0)).trans hc0
          have hrd := (HR.out j _ _ (List.getElem?_eq_getElem hkv) (List.getElem?_eq_getElem hkl)).mono HBR.out
          have HS := Lib.hid (tot_step ls j hkl)
          have HFS := Lib.hid (flat_step ls j hkl)
          have hsl := tot_le ls (j + 1)
          rw [HS.out] at hsl
          clear hc0
          generalize ls[j] = l at hrd HS hsl HFS
          generalize vs[j] = u at hc hrd
          obtain ⟨a, cp, rfl, hs1, hs2⟩ := hrd.shape
          have HRD := Lib.hid hrd
          have HBV := Lib.hid (bv_oneCell l)
          have hsz := HBR.out.size
          have HLL := Lib.hid (show tot ls j + (l.map bv).length ≤ 140737488355328 by rw [List.length_map]; omega)
          generalize (ls.take j).flatten = pre at HOR HFS
          generalize tot ls j = T at HS hsl HLL HOR
          clear hrd
          go_wp2_with (at_builtin; go_loud (refine wpList_append_rd rfl (.tmp 31) (.tmp 32) 33 rfl w.heap.size 5 i0 (.int .u8 0) 1 Try.underlying33 hi hz0 hz1 hz2 rfl _ _ _ rfl HOR.out _ _ rfl HRD.out HBV.out (by have := HLL.out; unfold maxLen; omega) (by have := HLL.out; omega) hsz ?_); intro v2 w2 hown2 hgrow2; have HOW := Lib.hid hown2; have HGR := Lib.hid hgrow2; clear hown2 hgrow2)
          go_roundw
          case rel =>
            refine ⟨j + 1, by omega, by go_num, ?_, HBR.out.grown HGR.out hsz (fun b hb => (HOR.out.lt b hb).1)⟩
            rw [HS.out, HFS.out, List.map_append]
            have h2 := HOW.out
            rw [List.length_map] at h2
            exact h2
          case measure => simp [intOf]; omega
        · have hjk : j = k := by omega
          subst hjk
          have HFL := Lib.hid (show (ls.take j).flatten = ls.flatten ∧ tot ls j = (ls.flatten.map bv).length by
            unfold tot
            rw [List.take_of_length_le (by have := HN.out; omega), List.length_map]
            exact ⟨rfl, rfl⟩)
          clear hjlt
          go_wp2_with fail
          go_ret
          refine ⟨_, rfl, ?_, HBR.out⟩
          rw [← HFL.out.2, ← HFL.out.1]
          exact HOR.out

end Go.Proofs.Ythelgjoobckbaaa
