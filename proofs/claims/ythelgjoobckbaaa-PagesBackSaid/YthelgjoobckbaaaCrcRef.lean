/-
  The contracts of the document's own sums: warpref02.step, More, Of.
-/
import Derived.Test.YthelgjoobckbaaaSlices
import Derived.Test.YthelgjoobckbaaaSum
import Derived.Laws.BitsLemmas
namespace Go.Proofs.Ythelgjoobckbaaa
open Go.RowKit

theorem u32_xor (a b : Nat) (ha : a < 4294967296) (hb : b < 4294967296) : bits BinOp.xor IntKind.u32 (a : Int) (b : Int) = ((a ^^^ b : Nat) : Int) := by
  have h : a ^^^ b < 2 ^ 32 := Nat.xor_lt_two_pow ha hb
  have ha' : a % 2 ^ IntKind.u32.bits = a := Nat.mod_eq_of_lt ha
  have hb' : b % 2 ^ IntKind.u32.bits = b := Nat.mod_eq_of_lt hb
  simp only [bits, BitVec.ofInt_natCast, BitVec.toNat_xor, BitVec.toNat_ofNat, ha', hb']
  exact IntWalk.u32_in _ ⟨by omega, by omega⟩

theorem refStep_any (n b : Nat) (w : World) (hn : n < 4294967296) (_hb : b < 256) :
    Calls Try.prog 55 #[.int .u32 n, .int .u8 b] w fun e w' => e = .returned (.int .u32 (stN n b)) ∧ w = w' := by
  by_cases h : n / 2147483648 = b
  · have e : stN n b = n * 2 % 4294967296 := if_pos h
    have hd : (((n : Int) / 2147483648) == (b : Int)) = true := by rw [beq_iff_eq]; omega
    rw [e]
    clear h e
    go_enter Try.func55, Try.ntmps55
    go_wp2_with fail
    go_ret
    exact ⟨rfl, rfl⟩
  · have e : stN n b = (n * 2 % 4294967296) ^^^ 2168537515 := if_neg h
    have hd : (((n : Int) / 2147483648) == (b : Int)) = false := by rw [beq_eq_false_iff_ne]; omega
    have hx := u32_xor (n * 2 % 4294967296) 2168537515 (by omega) (by omega)
    have HX := Lib.hid hx
    rw [e]
    clear h e hx
    go_enter Try.func55, Try.ntmps55
    go_wp2_with fail
    go_ret
    refine ⟨congrArg Ending.returned (congrArg (Value.int IntKind.u32) ?_), rfl⟩
    rw [← HX.out]
    rfl

/-- A byte as its bits come up: what is left of it, and the bit. -/
theorem byte_turn : ∀ c < 256, ∀ k < 8, c * 2 ^ k % 256 / 128 = (c.testBit (7 - k)).toNat := by decide +kernel

theorem more_step (s : BitVec 32) (l : List UInt8) (j : Nat) (h : j < l.length) : more s (l.take (j + 1)) = feed (more s (l.take j)) (bits8 l[j]) := by
  rw [List.take_succ_eq_append_getElem h, more_append]
  unfold more bitsOf
  rw [List.flatMap_cons, List.flatMap_nil, List.append_nil]
theorem feed_step (s : BitVec 32) (c : UInt8) (k : Nat) (h : k < 8) : (feed s ((bits8 c).take (k + 1))).toNat = stN (feed s ((bits8 c).take k)).toNat (c.toNat * 2 ^ k % 256 / 128) := by
  have hk : k < (bits8 c).length := h
  have hb := bits8_get c k h
  rw [List.getElem?_eq_getElem hk, Option.some.injEq] at hb
  rw [byte_turn _ c.toNat_lt k h, stN_eq, List.take_succ_eq_append_getElem hk, feed_append, hb]
  rfl
theorem turn_more (c k : Nat) : c * 2 ^ k % 256 * 2 % 256 = c * 2 ^ (k + 1) % 256 := by
  rw [Nat.pow_succ, ← Nat.mul_assoc]; omega

set_option maxRecDepth 100000 in
set_option maxHeartbeats 1000000 in
theorem refMore_cells (s : BitVec 32) (ao : Option Addr) (l : List UInt8) (L cap : Nat) (w : World) (hL : L = l.length) (_h1 : L ≤ cap) (_h2 : cap ≤ 9223372036854775807)
    (ca : ∀ i u, (l.map bv)[i]? = some u → ∃ x, ao = some x ∧ w.cell? (x.add i) = some u) :
    Calls Try.prog 53 #[.int .u32 s.toNat, .slice ao L cap] w fun e w' => e = .returned (.int .u32 (more s l).toNat) ∧ w = w' := by
  have CA := Lib.hid ca
  have HL := Lib.hid hL
  obtain ⟨n, hn⟩ : ∃ n, n = s.toNat := ⟨_, rfl⟩
  rw [← hn]
  clear ca hL
  go_enter Try.func53, Try.ntmps53
  go_wp2_with fail
  go_loopw [0, 5] (fun m i wr => ∃ j : Nat, j ≤ L ∧ i = .int .i64 j ∧ m = .int .u32 (more s (l.take j)).toNat ∧ w = wr) (fun _ i _ => L - (intOf i).toNat)
  case atStart => exact ⟨0, Nat.zero_le _, rfl, by rw [List.take_zero, more_nil, hn], rfl⟩
  case round =>
    obtain ⟨j, hj, rfl, rfl, rfl⟩ := hrel
    by_cases hlt : j < L
    · have hjl : j < l.length := by have := HL.out; omega
      obtain ⟨x, rfl, hc⟩ := CA.out j (bv l[j]) (by rw [List.getElem?_map, List.getElem?_eq_getElem hjl]; rfl)
      have HST := Lib.hid (more_step s l j hjl)
      unfold bv at hc
      obtain ⟨c, hcd⟩ : ∃ c, c = l[j] := ⟨_, rfl⟩
      rw [← hcd] at hc HST
      have hc8 := c.toNat_lt
      obtain ⟨C, hC⟩ : ∃ C, C = c.toNat := ⟨_, rfl⟩
      rw [← hC] at hc hc8
      obtain ⟨S, hS⟩ : ∃ S, S = more s (l.take j) := ⟨_, rfl⟩
      rw [← hS] at HST ⊢
      have hS32 := S.isLt
      obtain ⟨m, hm⟩ : ∃ m, m = S.toNat := ⟨_, rfl⟩
      rw [← hm] at hS32 ⊢
      have HM := Lib.hid hm
      have HC := Lib.hid hC
      clear hcd hS hm hC
      go_wp2_with fail
      go_loopw [0, 6, 7] (fun m d i wr => ∃ k : Nat, k ≤ 8 ∧ i = .int .i64 k ∧ m = .int .u32 (feed S ((bits8 c).take k)).toNat ∧ d = .int .u8 ((C * 2 ^ k % 256 : Nat) : Int) ∧ w = wr) (fun _ _ i _ => 8 - (intOf i).toNat)
      case atStart => exact ⟨0, Nat.zero_le _, rfl, by rw [List.take_zero, feed_nil, HM.out], by rw [Nat.pow_zero, Nat.mul_one, Nat.mod_eq_of_lt hc8], rfl⟩
      case round =>
        obtain ⟨k, hk, rfl, rfl, rfl, rfl⟩ := hrel
        by_cases hk8 : k < 8
        · have HF := Lib.hid (feed_step S c k hk8)
          have hF32 := (feed S ((bits8 c).take k)).isLt
          have HT := Lib.hid (turn_more C k)
          generalize (feed S ((bits8 c).take k)).toNat = f at HF hF32 ⊢
          obtain ⟨d, hd⟩ : ∃ d, d = C * 2 ^ k % 256 := ⟨_, rfl⟩
          have hd8 : d < 256 := by omega
          have HD := Lib.hid hd
          rw [← hd]
          clear hd
          go_wp2_with fail
          refine (refStep_any f (d / 128) _ hF32 (by omega)).mono ?_
          rintro e w1 ⟨rfl, rfl⟩
          go_wp2_with fail
          go_roundw
          case rel =>
            refine ⟨k + 1, by omega, by go_num, ?_, ?_, trivial⟩
            · rw [HF.out, ← HC.out, ← HD.out]
            · have h1 := HT.out
              rw [← HD.out] at h1
              rw [← h1]
              go_num
          case measure => simp [intOf]; omega
        · have hk8' : k = 8 := by omega
          subst hk8'
          go_wp2_with fail
          go_roundw
          case rel =>
            refine ⟨j + 1, by omega, by go_num, ?_, trivial⟩
            rw [HST.out, List.take_of_length_le (Nat.le_of_eq (bits8_length c))]
          case measure => simp [intOf]; omega
    · have hjL : l.take j = l := List.take_of_length_le (by have := HL.out; omega)
      rw [hjL]
      go_wp2_with fail
      go_ret
      exact ⟨rfl, rfl⟩

theorem refMore_any (s : BitVec 32) (v : Value) (l : List UInt8) (w : World) (hr : Rd w v l) :
    Calls Try.prog 53 #[.int .u32 s.toNat, v] w fun e w' => e = .returned (.int .u32 (more s l).toNat) ∧ w = w' := by
  obtain ⟨ao, cap, rfl, h1, h2, ca⟩ := RdV.cellsAt hr
  unfold maxLen at h2
  exact refMore_cells s ao l _ cap w (by rw [List.length_map]) h1 (by omega) ca

theorem refOf_any (v : Value) (l : List UInt8) (w : World) (hr : Rd w v l) :
    Calls Try.prog 50 #[v] w fun e w' => e = .returned (.int .u32 (sumOf l).toNat) ∧ w = w' := by
  have HM := Lib.hid (refMore_any 0xFFFFFFFF#32 v l w hr)
  go_enter Try.func50, Try.ntmps50
  go_wp2_with fail
  refine HM.out.mono ?_
  rintro e w1 ⟨rfl, rfl⟩
  go_wp2_with fail
  go_ret
  exact ⟨rfl, rfl⟩

theorem cells_new (w : World) (xs : List Value) (t : TypeId) : ∀ j u, xs[j]? = some u → (w.alloc (.cells xs.toArray t)).cell? ((⟨w.heap.size, 0, none⟩ : Addr).add j) = some u := by
  intro j u hj
  rw [add_at, Nat.zero_add]
  unfold World.cell?
  rw [heap_alloc_new]
  simpa using hj

/-- The bytes of a sum, as values. -/
theorem be4_values (s : BitVec 32) : (be4 s).map bv = [Value.int .u8 ((s.toNat : Int) / 16777216), Value.int .u8 ((s.toNat : Int) / 65536 % 256), Value.int .u8 ((s.toNat : Int) / 256 % 256), Value.int .u8 ((s.toNat : Int) % 256)] := by
  have hs := s.isLt
  simp only [be4, bv, List.map_cons, List.map_nil, UInt8.toNat_ofNat', show (2 : Nat) ^ 8 = 256 by rfl, Nat.mod_mod]
  rw [Nat.mod_eq_of_lt (show s.toNat / 16777216 < 256 by omega)]
  simp

set_option maxRecDepth 100000 in
set_option maxHeartbeats 400000 in
theorem refSeal_any (v : Value) (l : List UInt8) (w : World) (hr : Rd w v l) (hl : l.length + 4 ≤ 140737488355328) :
    Calls Try.prog 45 #[v] w (Fresh 5 w ((sealed l).map bv)) := by
  obtain ⟨i0, hi, hz0, hz1, hz2⟩ := info_parts Try.info5
  have HOF := Lib.hid (refOf_any v l w hr)
  have HR := Lib.hid (hr.mono ((Below.refl _ w).alloc (Nat.le_refl _) (.cells #[] 5)))
  have HO := Lib.hid (empty_owned w)
  have HB := Lib.hid (bv_oneCell l)
  have HLM := Lib.hid (show (l.map bv).length = l.length from List.length_map _)
  have HBE := Lib.hid (be4_values (sumOf l))
  have hs32 := (sumOf l).isLt
  generalize (sumOf l).toNat = S at HOF HBE hs32
  clear hr
  go_enter Try.func45, Try.ntmps45
  go_wp2_with fail
  refine HOF.out.mono ?_
  rintro e w1 ⟨rfl, rfl⟩
  go_wp2_with (first
    | (at_builtin; go_loud (refine wpList_append_rd rfl (.tmp 7) (.tmp 8) 33 rfl w.heap.size 5 i0 (.int .u8 0) 1 Try.underlying33 hi hz0 hz1 hz2 rfl _ _ _ rfl HO.out _ _ rfl HR.out HB.out (by rw [HLM.out]; unfold maxLen; omega) (by rw [HLM.out]; omega) (by simp) ?_); intro v2 w2 hown2 hgrow2)
    | (at_builtin; go_loud (refine wpList_append_own _ rfl (.tmp 10) (.tmp 25) 33 rfl w.heap.size 5 i0 (.int .u8 0) 1 1 Try.underlying33 hi hz0 hz1 hz2 rfl (by decide) _ _ _ rfl (hown2.alloc _) ⟨w2.heap.size, 0, none⟩ 4 4 [_, _, _, _] rfl rfl (cells_new _ _ _) (by simp [Value.oneCell']) (by rw [HLM.out]; unfold maxLen; omega) (by rw [HLM.out]; omega) (by have := hgrow2.size; simp at this ⊢; omega) ?_); intro v3 w3 hown3 hgrow3 _))
  go_ret
  refine ⟨_, rfl, ?_, (((Below.refl _ w).alloc (Nat.le_refl _) _).grown hgrow2 (by simp) (fun k hk => by cases hk; exact Nat.le_refl _)).trans (((Below.refl _ w2).alloc (by have := hgrow2.size; simp at this; omega) _).grown hgrow3 (by have := hgrow2.size; simp at this ⊢; omega) (fun k hk => (hown2.lt k hk).1))⟩
  unfold sealed
  rw [List.map_append, HBE.out]
  simpa using hown3

end Go.Proofs.Ythelgjoobckbaaa
