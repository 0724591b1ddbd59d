/-
  Texts of this proof, merged: CrcRef, PagesRef, Only, PagesLay, PagesRefW, PagesFlip, PagesAlloc, Ints.
-/
import Derived.Laws.BitsLemmas
import Derived.BigQuiet
import Derived.RegionTactic
import Derived.ChangeAlike
import Derived.Test.YtoagpaphghgkmaaZ1
/-
  The contracts of the document's own sums: warpref02.step, More, Of.
-/
namespace Go.Proofs.Ytoagpaphghgkmaa
open Go.RowKit

theorem u32_xor (a b : Nat) (ha : a < 4294967296) (hb : b < 4294967296) : bits BinOp.xor IntKind.u32 (a : Int) (b : Int) = ((a ^^^ b : Nat) : Int) := by
  have h : a ^^^ b < 2 ^ 32 := Nat.xor_lt_two_pow ha hb
  have ha' : a % 2 ^ IntKind.u32.bits = a := Nat.mod_eq_of_lt ha
  have hb' : b % 2 ^ IntKind.u32.bits = b := Nat.mod_eq_of_lt hb
  simp only [bits, BitVec.ofInt_natCast, BitVec.toNat_xor, BitVec.toNat_ofNat, ha', hb']
  exact IntWalk.u32_in _ ⟨by omega, by omega⟩

theorem refStep_any (n b : Nat) (w : World) (hn : n < 4294967296) (_hb : b < 256) :
    Calls Try.prog 113 #[.int .u32 n, .int .u8 b] w fun e w' => e = .returned (.int .u32 (stN n b)) ∧ w = w' := by
  by_cases h : n / 2147483648 = b
  · have e : stN n b = n * 2 % 4294967296 := if_pos h
    have hd : (((n : Int) / 2147483648) == (b : Int)) = true := by rw [beq_iff_eq]; omega
    rw [e]
    clear h e
    go_enter Try.func113, Try.ntmps113
    go_wp2_with fail
    go_ret
    exact ⟨rfl, rfl⟩
  · have e : stN n b = (n * 2 % 4294967296) ^^^ 2168537515 := if_neg h
    have hd : (((n : Int) / 2147483648) == (b : Int)) = false := by rw [beq_eq_false_iff_ne]; omega
    have hx := u32_xor (n * 2 % 4294967296) 2168537515 (by omega) (by omega)
    have HX := Lib.hid hx
    rw [e]
    clear h e hx
    go_enter Try.func113, Try.ntmps113
    go_wp2_with fail
    go_ret
    refine ⟨congrArg Ending.returned (congrArg (Value.int IntKind.u32) ?_), rfl⟩
    rw [← HX.out]
    rfl

/-- A byte as its bits come up: what is left of it, and the bit. -/
theorem byte_turn : ∀ c < 256, ∀ k < 8, c * 2 ^ k % 256 / 128 = (c.testBit (7 - k)).toNat := by decide +kernel

theorem more_step (s : BitVec 32) (l : List UInt8) (j : Nat) (h : j < l.length) : more s (l.take (j + 1)) = feed (more s (l.take j)) (bits8 l[j]) := by
  rw [List.take_succ_eq_append_getElem h, more_append]
  unfold more bitsOf
  rw [List.flatMap_cons, List.flatMap_nil, List.append_nil]
theorem feed_step (s : BitVec 32) (c : UInt8) (k : Nat) (h : k < 8) : (feed s ((bits8 c).take (k + 1))).toNat = stN (feed s ((bits8 c).take k)).toNat (c.toNat * 2 ^ k % 256 / 128) := by
  have hk : k < (bits8 c).length := h
  have hb := bits8_get c k h
  rw [List.getElem?_eq_getElem hk, Option.some.injEq] at hb
  rw [byte_turn _ c.toNat_lt k h, stN_eq, List.take_succ_eq_append_getElem hk, feed_append, hb]
  rfl
theorem turn_more (c k : Nat) : c * 2 ^ k % 256 * 2 % 256 = c * 2 ^ (k + 1) % 256 := by
  rw [Nat.pow_succ, ← Nat.mul_assoc]; omega

set_option maxRecDepth 100000 in
set_option maxHeartbeats 1000000 in
theorem refMore_cells (s : BitVec 32) (ao : Option Addr) (l : List UInt8) (L cap : Nat) (w : World) (hL : L = l.length) (_h1 : L ≤ cap) (_h2 : cap ≤ 9223372036854775807)
    (ca : ∀ i u, (l.map bv)[i]? = some u → ∃ x, ao = some x ∧ w.cell? (x.add i) = some u) :
    Calls Try.prog 102 #[.int .u32 s.toNat, .slice ao L cap] w fun e w' => e = .returned (.int .u32 (more s l).toNat) ∧ w = w' := by
  have CA := Lib.hid ca
  have HL := Lib.hid hL
  obtain ⟨n, hn⟩ : ∃ n, n = s.toNat := ⟨_, rfl⟩
  rw [← hn]
  clear ca hL
  go_enter Try.func102, Try.ntmps102
  go_wp2_with fail
  go_loopw [0, 5] (fun m i wr => ∃ j : Nat, j ≤ L ∧ i = .int .i64 j ∧ m = .int .u32 (more s (l.take j)).toNat ∧ w = wr) (fun _ i _ => L - (intOf i).toNat)
  case atStart => exact ⟨0, Nat.zero_le _, rfl, by rw [List.take_zero, more_nil, hn], rfl⟩
  case round =>
    obtain ⟨j, hj, rfl, rfl, rfl⟩ := hrel
    by_cases hlt : j < L
    · have hjl : j < l.length := by have := HL.out; omega
      obtain ⟨x, rfl, hc⟩ := CA.out j (bv l[j]) (by rw [List.getElem?_map, List.getElem?_eq_getElem hjl]; rfl)
      have HST := Lib.hid (more_step s l j hjl)
      unfold bv at hc
      obtain ⟨c, hcd⟩ : ∃ c, c = l[j] := ⟨_, rfl⟩
      rw [← hcd] at hc HST
      have hc8 := c.toNat_lt
      obtain ⟨C, hC⟩ : ∃ C, C = c.toNat := ⟨_, rfl⟩
      rw [← hC] at hc hc8
      obtain ⟨S, hS⟩ : ∃ S, S = more s (l.take j) := ⟨_, rfl⟩
      rw [← hS] at HST ⊢
      have hS32 := S.isLt
      obtain ⟨m, hm⟩ : ∃ m, m = S.toNat := ⟨_, rfl⟩
      rw [← hm] at hS32 ⊢
      have HM := Lib.hid hm
      have HC := Lib.hid hC
      clear hcd hS hm hC
      go_wp2_with fail
      go_loopw [0, 6, 7] (fun m d i wr => ∃ k : Nat, k ≤ 8 ∧ i = .int .i64 k ∧ m = .int .u32 (feed S ((bits8 c).take k)).toNat ∧ d = .int .u8 ((C * 2 ^ k % 256 : Nat) : Int) ∧ w = wr) (fun _ _ i _ => 8 - (intOf i).toNat)
      case atStart => exact ⟨0, Nat.zero_le _, rfl, by rw [List.take_zero, feed_nil, HM.out], by rw [Nat.pow_zero, Nat.mul_one, Nat.mod_eq_of_lt hc8], rfl⟩
      case round =>
        obtain ⟨k, hk, rfl, rfl, rfl, rfl⟩ := hrel
        by_cases hk8 : k < 8
        · have HF := Lib.hid (feed_step S c k hk8)
          have hF32 := (feed S ((bits8 c).take k)).isLt
          have HT := Lib.hid (turn_more C k)
          generalize (feed S ((bits8 c).take k)).toNat = f at HF hF32 ⊢
          obtain ⟨d, hd⟩ : ∃ d, d = C * 2 ^ k % 256 := ⟨_, rfl⟩
          have hd8 : d < 256 := by omega
          have HD := Lib.hid hd
          rw [← hd]
          clear hd
          go_wp2_with fail
          refine (refStep_any f (d / 128) _ hF32 (by omega)).mono ?_
          rintro e w1 ⟨rfl, rfl⟩
          go_wp2_with fail
          go_roundw
          case rel =>
            refine ⟨k + 1, by omega, by go_num, ?_, ?_, trivial⟩
            · rw [HF.out, ← HC.out, ← HD.out]
            · have h1 := HT.out
              rw [← HD.out] at h1
              rw [← h1]
              go_num
          case measure => simp [intOf]; omega
        · have hk8' : k = 8 := by omega
          subst hk8'
          go_wp2_with fail
          go_roundw
          case rel =>
            refine ⟨j + 1, by omega, by go_num, ?_, trivial⟩
            rw [HST.out, List.take_of_length_le (Nat.le_of_eq (bits8_length c))]
          case measure => simp [intOf]; omega
    · have hjL : l.take j = l := List.take_of_length_le (by have := HL.out; omega)
      rw [hjL]
      go_wp2_with fail
      go_ret
      exact ⟨rfl, rfl⟩

theorem refMore_any (s : BitVec 32) (v : Value) (l : List UInt8) (w : World) (hr : Rd w v l) :
    Calls Try.prog 102 #[.int .u32 s.toNat, v] w fun e w' => e = .returned (.int .u32 (more s l).toNat) ∧ w = w' := by
  obtain ⟨ao, cap, rfl, h1, h2, ca⟩ := RdV.cellsAt hr
  unfold maxLen at h2
  exact refMore_cells s ao l _ cap w (by rw [List.length_map]) h1 (by omega) ca

theorem refOf_any (v : Value) (l : List UInt8) (w : World) (hr : Rd w v l) :
    Calls Try.prog 84 #[v] w fun e w' => e = .returned (.int .u32 (sumOf l).toNat) ∧ w = w' := by
  have HM := Lib.hid (refMore_any 0xFFFFFFFF#32 v l w hr)
  go_enter Try.func84, Try.ntmps84
  go_wp2_with fail
  refine HM.out.mono ?_
  rintro e w1 ⟨rfl, rfl⟩
  go_wp2_with fail
  go_ret
  exact ⟨rfl, rfl⟩

theorem cells_new (w : World) (xs : List Value) (t : TypeId) : ∀ j u, xs[j]? = some u → (w.alloc (.cells xs.toArray t)).cell? ((⟨w.heap.size, 0, none⟩ : Addr).add j) = some u := by
  intro j u hj
  rw [add_at, Nat.zero_add]
  unfold World.cell?
  rw [heap_alloc_new]
  simpa using hj

/-- The bytes of a sum, as values. -/
theorem be4_values (s : BitVec 32) : (be4 s).map bv = [Value.int .u8 ((s.toNat : Int) / 16777216), Value.int .u8 ((s.toNat : Int) / 65536 % 256), Value.int .u8 ((s.toNat : Int) / 256 % 256), Value.int .u8 ((s.toNat : Int) % 256)] := by
  have hs := s.isLt
  simp only [be4, bv, List.map_cons, List.map_nil, UInt8.toNat_ofNat', show (2 : Nat) ^ 8 = 256 by rfl, Nat.mod_mod]
  rw [Nat.mod_eq_of_lt (show s.toNat / 16777216 < 256 by omega)]
  simp

set_option maxRecDepth 100000 in
set_option maxHeartbeats 400000 in
theorem refSeal_any (v : Value) (l : List UInt8) (w : World) (hr : Rd w v l) (hl : l.length + 4 ≤ 140737488355328) :
    Calls Try.prog 65 #[v] w (Fresh 5 w ((sealed l).map bv)) := by
  obtain ⟨i0, hi, hz0, hz1, hz2⟩ := info_parts Try.info5
  have HOF := Lib.hid (refOf_any v l w hr)
  have HR := Lib.hid (hr.mono ((Below.refl _ w).alloc (Nat.le_refl _) (.cells #[] 5)))
  have HO := Lib.hid (empty_owned w)
  have HB := Lib.hid (bv_oneCell l)
  have HLM := Lib.hid (show (l.map bv).length = l.length from List.length_map _)
  have HBE := Lib.hid (be4_values (sumOf l))
  have hs32 := (sumOf l).isLt
  generalize (sumOf l).toNat = S at HOF HBE hs32
  clear hr
  go_enter Try.func65, Try.ntmps65
  go_wp2_with fail
  refine HOF.out.mono ?_
  rintro e w1 ⟨rfl, rfl⟩
  go_wp2_with (first
    | (at_builtin; go_loud (refine wpList_append_rd rfl (.tmp 7) (.tmp 8) 43 rfl w.heap.size 5 i0 (.int .u8 0) 1 Try.underlying43 hi hz0 hz1 hz2 rfl _ _ _ rfl HO.out _ _ rfl HR.out HB.out (by rw [HLM.out]; unfold maxLen; omega) (by rw [HLM.out]; omega) (by simp) ?_); intro v2 w2 hown2 hgrow2)
    | (at_builtin; go_loud (refine wpList_append_own _ rfl (.tmp 10) (.tmp 25) 43 rfl w.heap.size 5 i0 (.int .u8 0) 1 1 Try.underlying43 hi hz0 hz1 hz2 rfl (by decide) _ _ _ rfl (hown2.alloc _) ⟨w2.heap.size, 0, none⟩ 4 4 [_, _, _, _] rfl rfl (cells_new _ _ _) (by simp [Value.oneCell']) (by rw [HLM.out]; unfold maxLen; omega) (by rw [HLM.out]; omega) (by have := hgrow2.size; simp at this ⊢; omega) ?_); intro v3 w3 hown3 hgrow3 _))
  go_ret
  refine ⟨_, rfl, ?_, (((Below.refl _ w).alloc (Nat.le_refl _) _).grown hgrow2 (by simp) (fun k hk => by cases hk; exact Nat.le_refl _)).trans (((Below.refl _ w2).alloc (by have := hgrow2.size; simp at this; omega) _).grown hgrow3 (by have := hgrow2.size; simp at this ⊢; omega) (fun k hk => (hown2.lt k hk).1))⟩
  unfold sealed
  rw [List.map_append, HBE.out]
  simpa using hown3

end Go.Proofs.Ytoagpaphghgkmaa

/-
  The contracts of the document's own store of pages: what only reads.
-/
namespace Go.Proofs.Ytoagpaphghgkmaa
open Go.RowKit

/-- A page of the document's own. -/
def pgC : Option (List UInt8) → List Value
  | none => [.bool false, .string ⟨#[]⟩]
  | some p => [.bool true, .string ⟨p.toArray⟩]

/-- The document's own store: its block, and that of its pages. -/
structure RSto (w : World) (q g : Nat) (s : St) : Prop where
  top : w.cell? ⟨q, 0, none⟩ = some (.slice (some ⟨g, 0, none⟩) s.length s.length)
  at' : ∀ i o, s[i]? = some o → ∀ j u, (pgC o)[j]? = some u → w.cell? ⟨g, i * 2 + j, none⟩ = some u
  free : ∀ j, w.frozen? ⟨g, j, none⟩ = false
  ne : q ≠ g
  lt : g < w.heap.size
  few : s.length ≤ 4096

theorem RSto.on {w : World} {q g : Nat} {s : St} (h : RSto w q g s) {i : Nat} {o : Option (List UInt8)} (hi : s[i]? = some o) : w.cell? ⟨g, i * 2, none⟩ = some (.bool o.isSome) := by
  have := h.at' i o hi 0
  cases o with
  | none => exact this _ rfl
  | some p => exact this _ rfl
theorem RSto.bytes {w : World} {q g : Nat} {s : St} (h : RSto w q g s) {i : Nat} {p : List UInt8} (hi : s[i]? = some (some p)) : w.cell? ⟨g, i * 2 + 1, none⟩ = some (.string ⟨p.toArray⟩) :=
  h.at' i _ hi 1 _ rfl

theorem refHas_any (q g : Nat) (s : St) (id : Int) (w : World) (h : RSto w q g s) (h0 : -9223372036854775808 ≤ id) (h1 : id ≤ 9223372036854775807) :
    Calls Try.prog 50 #[.pointer (some ⟨q, 0, none⟩), .int .i64 id] w fun e w' => e = .returned (.bool (pageS s id).isSome) ∧ w = w' := by
  have hq := h.top
  have hfew := h.few
  by_cases hn : id < 0
  · have hp : pageS s id = none := by unfold pageS; rw [if_neg (by omega)]
    rw [hp]
    have hd : decide (0 ≤ id) = false := decide_eq_false (by omega)
    clear hp hn
    go_enter Try.func50, Try.ntmps50
    go_wp2_with fail
    go_ret
    exact ⟨rfl, rfl⟩
  · obtain ⟨k, rfl⟩ := Int.eq_ofNat_of_zero_le (show 0 ≤ id by omega)
    by_cases hk : k < s.length
    · have hs : s[k]? = some s[k] := List.getElem?_eq_getElem hk
      have hp : (pageS s (k : Int)).isSome = (s[k]).isSome := by
        unfold pageS
        rw [if_pos (by omega), Int.toNat_natCast, hs]
        rfl
      rw [hp]
      have hc := h.on hs
      generalize (s[k]).isSome = B at hc ⊢
      clear hs hp h
      generalize s.length = L at hq hfew hk
      go_enter Try.func50, Try.ntmps50
      go_wp2_with fail
      go_ret
      exact ⟨rfl, rfl⟩
    · have hp : pageS s (k : Int) = none := by
        unfold pageS
        rw [if_pos (by omega), Int.toNat_natCast, List.getElem?_eq_none (by omega)]
        rfl
      rw [hp]
      clear hp h
      generalize s.length = L at hq hfew hk
      go_enter Try.func50, Try.ntmps50
      go_wp2_with fail
      go_ret
      exact ⟨rfl, rfl⟩

theorem refRaw_any (q g : Nat) (s : St) (id : Int) (w : World) (h : RSto w q g s) (h0 : -9223372036854775808 ≤ id) (h1 : id ≤ 9223372036854775807) :
    Calls Try.prog 23 #[.pointer (some ⟨q, 0, none⟩), .int .i64 id] w fun e w' => e = .returned (.tuple #[.string ⟨(rawS s id).1.toArray⟩, .int .i64 (rawS s id).2]) ∧ w = w' := by
  have HH := Lib.hid (refHas_any q g s id w h h0 h1)
  have hq := h.top
  have hfew := h.few
  unfold rawS
  cases hp : pageS s id with
  | none =>
    rw [hp] at HH
    clear hp hq hfew
    go_enter Try.func23, Try.ntmps23
    go_wp2_with fail
    refine HH.out.mono ?_
    rintro e w2 ⟨rfl, rfl⟩
    go_wp2_with fail
    go_ret2
    exact ⟨rfl, rfl⟩
  | some p =>
    obtain ⟨k0, k1, hs⟩ := pageS_lt hp
    rw [hp] at HH
    obtain ⟨k, rfl⟩ := Int.eq_ofNat_of_zero_le k0
    rw [Int.toNat_natCast] at hs
    have hc := h.bytes hs
    clear hp hs h
    generalize s.length = L at hq hfew k1
    go_enter Try.func23, Try.ntmps23
    go_wp2_with fail
    refine HH.out.mono ?_
    rintro e w2 ⟨rfl, rfl⟩
    go_wp2_with fail
    go_ret2
    exact ⟨rfl, rfl⟩

end Go.Proofs.Ytoagpaphghgkmaa

/-
  What changes one block of what was there, or some; new rows. Over any program.
-/
namespace Go.Proofs.Ytoagpaphghgkmaa
open Go.RowKit

theorem row_new (w : World) (xs : List Value) (t : TypeId) : ∀ j u, xs[j]? = some u → (w.alloc (.cells xs.toArray t)).cell? ((⟨w.heap.size, 0, none⟩ : Addr).add j) = some u := by
  intro j u hj
  rw [add_at, Nat.zero_add]
  unfold World.cell?
  rw [heap_alloc_new]
  simpa using hj
theorem ext_new (w : World) (o : Obj) : Ext w (w.alloc o) := (Below.refl _ w).alloc (Nat.le_refl _) _

/-- Only block g of what was there has changed. -/
def OnlyP (g : Nat) (w w' : World) : Prop := w.grownBy w' (some g)
theorem OnlyP.refl (g : Nat) (w : World) : OnlyP g w w := ⟨rfl, rfl, rfl, Nat.le_refl _, fun _ _ _ => rfl⟩
theorem OnlyP.trans {g : Nat} {x y z : World} (h : OnlyP g x y) (k : OnlyP g y z) : OnlyP g x z :=
  ⟨k.os.trans h.os, k.tape.trans h.tape, k.output.trans h.output, Nat.le_trans h.size k.size, fun i hi hne => (k.block i (Nat.lt_of_lt_of_le hi h.size) hne).trans (h.block i hi hne)⟩
theorem OnlyP.keeps (g : Nat) : Keeps (OnlyP g) := ⟨OnlyP.refl g, fun _ _ _ h k => OnlyP.trans h k⟩
instance (g : Nat) (w : World) : Inhabited (Later (OnlyP g) w) := ⟨⟨w, OnlyP.refl _ _⟩⟩
theorem OnlyP.of_ext {g : Nat} {w w' : World} (h : Ext w w') : OnlyP g w w' := ⟨h.os, h.tape, h.output, h.size, fun k hk _ => h.block k hk⟩
theorem OnlyP.set (g i : Nat) (w : World) (u : Value) : OnlyP g w (w.setCell ⟨g, i, none⟩ u) := by
  refine ⟨rfl, rfl, rfl, by simp [World.setCell], fun k _ hk => ?_⟩
  rw [Below.heap_setCell _ _ _ _ (fun e => hk (by rw [e]))]

theorem cell_set_other {w : World} {g i j : Nat} {b : Nat} {u : Value} (h : b ≠ g ∨ j ≠ i) : (w.setCell ⟨g, i, none⟩ u).cell? ⟨b, j, none⟩ = w.cell? ⟨b, j, none⟩ := by
  rw [World.cell?_setCell_other]
  intro e
  simp only [Addr.mk.injEq, and_true] at e
  rcases h with h | h
  · exact h e.1.symm
  · exact h e.2.symm

/-- Only blocks of the set have changed, of what was there. -/
structure OnlyS (X : Nat → Prop) (w w' : World) : Prop where
  os : w'.os = w.os
  tape : w'.tape = w.tape
  output : w'.output = w.output
  size : w.heap.size ≤ w'.heap.size
  block : ∀ b, b < w.heap.size → ¬ X b → w'.heap[b]? = w.heap[b]?

theorem OnlyS.refl (X : Nat → Prop) (w : World) : OnlyS X w w := ⟨rfl, rfl, rfl, Nat.le_refl _, fun _ _ _ => rfl⟩
theorem OnlyS.of_ext {X : Nat → Prop} {w w' : World} (h : Ext w w') : OnlyS X w w' := ⟨h.os, h.tape, h.output, h.size, fun b hb _ => h.block b hb⟩
theorem OnlyS.of_onlyP {X : Nat → Prop} {g : Nat} {w w' : World} (h : OnlyP g w w') (hg : X g) : OnlyS X w w' :=
  ⟨h.os, h.tape, h.output, h.size, fun b hb hx => h.block b hb (fun e => hx (by have : b = g := (by simpa using e); rw [this]; exact hg))⟩
theorem OnlyS.mono {X Y : Nat → Prop} {w w' : World} (h : OnlyS X w w') (hxy : ∀ b, b < w.heap.size → X b → Y b) : OnlyS Y w w' := ⟨h.os, h.tape, h.output, h.size, fun b hb hy => h.block b hb (fun hx => hy (hxy b hb hx))⟩
/-- One step behind the other; the second one's set may have new blocks. -/
theorem OnlyS.trans {X Y : Nat → Prop} {a b c : World} (h : OnlyS X a b) (k : OnlyS Y b c) (hy : ∀ i, i < a.heap.size → Y i → X i) : OnlyS X a c :=
  ⟨k.os.trans h.os, k.tape.trans h.tape, k.output.trans h.output, Nat.le_trans h.size k.size, fun i hi hx => (k.block i (Nat.lt_of_lt_of_le hi h.size) (fun hyi => hx (hy i hi hyi))).trans (h.block i hi hx)⟩
theorem OnlyS.below {X : Nat → Prop} {N : Nat} {w w' : World} (h : OnlyS X w w') (hN : N ≤ w.heap.size) (hX : ∀ b, X b → N ≤ b) : Below N w w' :=
  ⟨h.os, h.tape, h.output, h.size, fun b hb => h.block b (by omega) (fun hx => by have := hX b hx; omega)⟩
theorem OnlyS.cell {X : Nat → Prop} {w w' : World} (h : OnlyS X w w') {a : Addr} {u : Value} (hc : w.cell? a = some u) (hx : ¬ X a.block) : w'.cell? a = some u := by
  have hlt := lt_of_cell hc
  rw [← hc]
  exact World.cell?_of_block (h.block _ hlt hx)
theorem RdV.onlyS {X : Nat → Prop} {w w' : World} {v : Value} {xs : List Value} (hr : RdV w v xs) (h : OnlyS X w w') (hx : xs ≠ [] → ∀ k, v.ownBlock = some k → ¬ X k) : RdV w' v xs := by
  rcases hr with h1 | ⟨x, cap, rfl, h2, h3, h4⟩
  · exact .inl h1
  · exact .inr ⟨x, cap, rfl, h2, h3, fun i u hu => h.cell (h4 i u hu) (by rw [add_block]; exact hx (by rintro rfl; simp at hu) x.block rfl)⟩
theorem Rd.onlyS {X : Nat → Prop} {w w' : World} {v : Value} {l : List UInt8} (hr : Rd w v l) (h : OnlyS X w w') (hx : l ≠ [] → ∀ k, v.ownBlock = some k → ¬ X k) : Rd w' v l := RdV.onlyS hr h (fun hne => hx (by rintro rfl; exact hne rfl))
theorem OnlyS.of_grown {v : Value} {w w' : World} (h : w.grownBy w' v.ownBlock) : OnlyS (fun k => v.ownBlock = some k) w w' :=
  ⟨h.os, h.tape, h.output, h.size, fun b hb hx => h.block b hb (fun e => hx e.symm)⟩
theorem OnlyS.keeps (X : Nat → Prop) : Keeps (OnlyS X) := ⟨OnlyS.refl X, fun _ _ _ h k => OnlyS.trans h k fun _ _ h => h⟩
instance (X : Nat → Prop) (w : World) : Inhabited (Later (OnlyS X) w) := ⟨⟨w, OnlyS.refl _ _⟩⟩

end Go.Proofs.Ytoagpaphghgkmaa

/-
  The contracts of the document's own lay, Read.
-/
namespace Go.Proofs.Ytoagpaphghgkmaa
open Go.RowKit

theorem own_shape {base : Nat} {e : TypeId} {w : World} {v : Value} {n : Nat} {xs : List Value} (h : w.ownsRow base e 1 v n xs) : ∃ a cap, v = .slice a n cap ∧ n ≤ cap ∧ cap ≤ maxLen := by
  rcases h.2 with ⟨rfl, rfl⟩ | ⟨g, cap, cur, rfl, h2, h3, h4, h5, _⟩
  · exact ⟨none, 0, rfl, Nat.le_refl _, by simp [maxLen]⟩
  · exact ⟨_, cap, rfl, h4, h5⟩

theorem id4_values (id : Nat) (h : id ≤ 4096) : (id4 id).map bv = [.int .u8 ((id : Int) / 16777216), .int .u8 ((id : Int) / 65536), .int .u8 ((id : Int) / 256), .int .u8 ((id : Int) % 256)] := by
  unfold id4 bv
  simp only [List.map_cons, List.map_nil, UInt8.toNat_ofNat', List.cons.injEq, Value.int.injEq, true_and, and_true]
  refine ⟨?_, ?_, ?_, ?_⟩ <;> omega

set_option maxRecDepth 100000 in
set_option maxHeartbeats 1000000 in
theorem refLay_any (id : Nat) (b : Value) (l : List UInt8) (w : World) (hr : Rd w b l) (hl : l.length ≤ 56) (hid : id ≤ 4096) :
    Calls Try.prog 43 #[.int .i64 id, b] w fun e w' => e = .returned (.string ⟨(layP id l).toArray⟩) ∧ Ext w w' := by
  obtain ⟨i0, hi, hz0, hz1, hz2⟩ := info_parts Try.info5
  have HID := Lib.hid (id4_values id hid)
  have HL := Lib.hid hl
  have HO1 := Lib.hid (empty_owned w)
  have HX1 := Lib.hid (hr.mono (ext_new w (.cells #[] 5)))
  have HBV := Lib.hid (bv_oneCell l)
  have HLM := Lib.hid (show (l.map bv).length = l.length from List.length_map _)
  have HA1 := Lib.hid (ext_new w (.cells #[] 5))
  clear hr hl
  go_enter Try.func43, Try.ntmps43
  go_wp2_with (at_builtin; go_must (refine wpList_append_rd rfl (.tmp 6) (.tmp 7) 43 rfl w.heap.size 5 i0 (.int .u8 0) 1 Try.underlying43 hi hz0 hz1 hz2 rfl _ _ _ rfl HO1.out _ _ rfl HX1.out HBV.out (by rw [HLM.out]; have := HL.out; unfold maxLen; omega) (by rw [HLM.out]; have := HL.out; omega) (by simp) ?_); intro v2 w2 hown2 hgrow2; have HO2 := Lib.hid hown2; have HE2 := Lib.hid (show Ext w w2 from HA1.out.grown hgrow2 (by simp) (fun k hk => by cases hk; exact Nat.le_refl _)); clear hown2 hgrow2)
  go_loopw [5] (fun x wr => ∃ k n : Nat, n = l.length + k ∧ n ≤ 56 ∧ wr.ownsRow w.heap.size 5 1 x n ((l ++ zeros k).map bv) ∧ Ext w wr) (fun x _ => match x with | .slice _ n _ => 56 - n | _ => 0)
  case atStart =>
    refine ⟨0, l.length, rfl, HL.out, ?_, HE2.out⟩
    have h := HO2.out
    rw [List.nil_append, Nat.zero_add, HLM.out] at h
    simpa [zeros] using h
  case round =>
    obtain ⟨k, n, hn, hn56, hown, hext⟩ := hrel
    obtain ⟨a, cap, rfl, hc1, hc2⟩ := own_shape hown
    have HN := Lib.hid hn
    have HO := Lib.hid hown
    have HE := Lib.hid hext
    unfold maxLen at hc2
    clear hn hown hext
    by_cases hlt : n < 56
    · go_wp2_with (at_builtin; go_must (refine wpList_append_own _ rfl (.tmp 12) (.tmp 13) 43 rfl w.heap.size 5 i0 (.int .u8 0) 1 1 Try.underlying43 hi hz0 hz1 hz2 rfl (by decide) _ _ _ rfl (HO.out.alloc _) ⟨wr.heap.size, 0, none⟩ 1 1 [(.int .u8 0)] rfl rfl (row_new wr [(.int .u8 0)] 5) (by simp [Value.oneCell']) (by unfold maxLen; omega) (by omega) (by have := HE.out.size; simp; omega) ?_); intro v3 w3 hown3 hgrow3 _; have HO3 := Lib.hid hown3; have HE3 := Lib.hid (show Ext w w3 from (HE.out.alloc HE.out.size _).grown hgrow3 (by have := HE.out.size; simp; omega) (fun k hk => (HO.out.lt k hk).1)); clear hown3 hgrow3)
      go_roundw
      case rel =>
        refine ⟨k + 1, n + 1, by have := HN.out; omega, by omega, ?_, HE3.out⟩
        have h := HO3.out
        have e : (l ++ zeros k).map bv ++ [(.int .u8 0)] = (l ++ zeros (k + 1)).map bv := by
          unfold zeros
          rw [List.replicate_succ']
          simp [bv]
        rw [e] at h
        exact h
      case measure =>
        obtain ⟨a3, cap3, rfl, _, _⟩ := own_shape HO3.out
        simp
        omega
    · have h56 : n = 56 := by omega
      subst h56
      have HF := Lib.hid (show l ++ zeros k = fill l from by unfold fill; rw [show 56 - l.length = k by have := HN.out; omega])
      clear hlt hn56
      go_wp2_with (at_builtin; go_must (refine wpList_append_own _ rfl (.tmp 15) (.tmp 27) 43 rfl w.heap.size 5 i0 (.int .u8 0) 1 1 Try.underlying43 hi hz0 hz1 hz2 rfl (by decide) _ _ _ rfl (HO.out.alloc _) ⟨wr.heap.size, 0, none⟩ 4 4 [.int .u8 ((id : Int) / 16777216), .int .u8 ((id : Int) / 65536), .int .u8 ((id : Int) / 256), .int .u8 ((id : Int) % 256)] rfl rfl (row_new wr _ 5) (by simp [Value.oneCell']) (by unfold maxLen; simp) (by simp) (by have := HE.out.size; simp; omega) ?_); intro v3 w3 hown3 hgrow3 _; have HO3 := Lib.hid hown3; have HE3 := Lib.hid (show Ext w w3 from (HE.out.alloc HE.out.size _).grown hgrow3 (by have := HE.out.size; simp; omega) (fun k hk => (HO.out.lt k hk).1)); clear hown3 hgrow3)
      have HR3 := Lib.hid (show Rd w3 v3 (fill l ++ id4 id) from by
        have h := RdV.of_owns HO3.out
        rw [← HID.out, HF.out, ← List.map_append] at h
        exact h)
      have HLN := Lib.hid (show (fill l ++ id4 id).length = 60 from by rw [List.length_append, fill_length l HL.out]; rfl)
      refine (refSeal_any v3 (fill l ++ id4 id) w3 HR3.out (by rw [HLN.out]; omega)).mono ?_
      rintro e w4 ⟨v4, rfl, hown4, hx4⟩
      have HR4 : Rd w4 v4 (layP id l) := RdV.of_owns hown4
      have hcv := Rd.string (P := Try.prog) HR4 43 9 5 Try.underlying43 Try.underlying5 Try.underlying9
      have HE4 := Lib.hid (Ext.trans HE3.out hx4)
      clear hown4 hx4
      generalize hM : layP id l = M at HR4 hcv
      replace hM := Lib.hid hM
      clear HR4
      go_wp2_with fail
      go_ret
      exact ⟨by rw [hM.out]; rfl, HE4.out⟩

theorem RSto.mono {w w' : World} {q g : Nat} {s : St} (h : RSto w q g s) (hb : Ext w w') : RSto w' q g s := by
  refine ⟨?_, fun i o hi j u hj => ?_, fun j => ?_, h.ne, Nat.lt_of_lt_of_le h.lt hb.size, h.few⟩
  · rw [hb.cell (lt_of_cell h.top)]; exact h.top
  · have := h.at' i o hi j u hj
    rw [hb.cell (lt_of_cell this)]; exact this
  · have := h.free j
    unfold World.frozen? at this ⊢
    rw [hb.block g h.lt]
    exact this

end Go.Proofs.Ytoagpaphghgkmaa

/-
  The contracts of the document's own store of pages: Free, Write.
-/
namespace Go.Proofs.Ytoagpaphghgkmaa
open Go.RowKit Go.BigFrame

/-- A page set. -/
theorem RSto.put {w : World} {q g : Nat} {s : St} (h : RSto w q g s) {i : Nat} (hi : i < s.length) (o : Option (List UInt8)) (a b : Value) (ho : pgC o = [a, b]) :
    RSto ((w.setCell ⟨g, i * 2, none⟩ a).setCell ⟨g, i * 2 + 1, none⟩ b) q g (s.set i o) := by
  have hsi : s[i]? = some s[i] := List.getElem?_eq_getElem hi
  have c0 := h.on hsi
  obtain ⟨y, c1⟩ : ∃ y, w.cell? ⟨g, i * 2 + 1, none⟩ = some y := by
    cases hsv : s[i] with
    | none => rw [hsv] at hsi; exact ⟨_, h.at' i _ hsi 1 _ rfl⟩
    | some p => rw [hsv] at hsi; exact ⟨_, h.at' i _ hsi 1 _ rfl⟩
  refine ⟨?_, fun k o' hk j u hj => ?_, fun j => by simpa [go_sem] using h.free j, h.ne, by simpa [World.setCell] using h.lt, by rw [List.length_set]; exact h.few⟩
  · rw [cell_set_other (.inl h.ne), cell_set_other (.inl h.ne), List.length_set]
    exact h.top
  · rw [List.getElem?_set] at hk
    by_cases e : i = k
    · subst e
      rw [if_pos rfl, if_pos hi] at hk
      cases hk
      rw [ho] at hj
      match j, hj with
      | 0, hj =>
        cases hj
        rw [Nat.add_zero, cell_set_other (.inr (by omega))]
        exact World.cell?_setCell_same _ _ _ c0
      | 1, hj =>
        cases hj
        exact World.cell?_setCell_same _ _ _ (by rw [cell_set_other (.inr (by omega))]; exact c1)
    · rw [if_neg e] at hk
      have hj2 : j < 2 := by
        have := (List.getElem?_eq_some_iff.1 hj).1
        cases o' <;> simpa [pgC] using this
      rw [cell_set_other (.inr (by omega)), cell_set_other (.inr (by omega))]
      exact h.at' k o' hk j u hj
/-- Its bytes alone. -/
theorem RSto.putB {w : World} {q g : Nat} {s : St} (h : RSto w q g s) {i : Nat} {p : List UInt8} (hi : s[i]? = some (some p)) (p' : List UInt8) :
    RSto (w.setCell ⟨g, i * 2 + 1, none⟩ (.string ⟨p'.toArray⟩)) q g (s.set i (some p')) := by
  have hlt := (List.getElem?_eq_some_iff.1 hi).1
  have c1 := h.bytes hi
  refine ⟨?_, fun k o' hk j u hj => ?_, fun j => by simpa [go_sem] using h.free j, h.ne, by simpa [World.setCell] using h.lt, by rw [List.length_set]; exact h.few⟩
  · rw [cell_set_other (.inl h.ne), List.length_set]
    exact h.top
  · rw [List.getElem?_set] at hk
    by_cases e : i = k
    · subst e
      rw [if_pos rfl, if_pos hlt] at hk
      cases hk
      match j, hj with
      | 0, hj =>
        cases hj
        rw [Nat.add_zero, cell_set_other (.inr (by omega))]
        exact h.at' i _ hi 0 _ rfl
      | 1, hj =>
        cases hj
        exact World.cell?_setCell_same _ _ _ c1
    · rw [if_neg e] at hk
      have hj2 : j < 2 := by
        have := (List.getElem?_eq_some_iff.1 hj).1
        cases o' <;> simpa [pgC] using this
      rw [cell_set_other (.inr (by omega))]
      exact h.at' k o' hk j u hj

set_option maxRecDepth 100000 in
theorem refFree_any (q g : Nat) (s : St) (id : Int) (w : World) (h : RSto w q g s) (h0 : -9223372036854775808 ≤ id) (h1 : id ≤ 9223372036854775807) :
    Calls Try.prog 46 #[.pointer (some ⟨q, 0, none⟩), .int .i64 id] w fun e w' => e = .returned (.int .i64 (freeS s id).1) ∧ RSto w' q g (freeS s id).2 ∧ OnlyP g w w' := by
  have HH := Lib.hid (refHas_any q g s id w h h0 h1)
  have hq := h.top
  have hfew := h.few
  unfold freeS
  cases hp : pageS s id with
  | none =>
    have HR := Lib.hid h
    rw [hp] at HH
    clear hp hq hfew h
    go_enter Try.func46, Try.ntmps46
    go_wp2_with fail
    refine HH.out.mono ?_
    rintro e w2 ⟨rfl, rfl⟩
    go_wp2_with fail
    go_ret
    exact ⟨rfl, HR.out, OnlyP.refl _ _⟩
  | some p =>
    obtain ⟨k0, k1, hs⟩ := pageS_lt hp
    rw [hp] at HH
    obtain ⟨k, rfl⟩ := Int.eq_ofNat_of_zero_le k0
    rw [Int.toNat_natCast] at hs
    have c0 := h.on hs
    have c1 := h.bytes hs
    have f0 := h.free (k * 2)
    have f1 := h.free (k * 2 + 1)
    have HR := Lib.hid (show RSto ((w.setCell ⟨g, k * 2, none⟩ (.bool false)).setCell ⟨g, k * 2 + 1, none⟩ (.string ⟨#[]⟩)) q g (setS s k none) from h.put (i := k) (by omega) none _ _ rfl)
    clear hp hs h
    generalize setS s (k : Int) none = S' at HR ⊢
    generalize s.length = L at hq hfew k1
    go_enter Try.func46, Try.ntmps46
    go_wp2_with fail
    refine HH.out.mono ?_
    rintro e w2 ⟨rfl, rfl⟩
    go_wp2_with fail
    go_ret
    exact ⟨rfl, HR.out, OnlyP.trans (OnlyP.set g (k * 2) _ _) (OnlyP.set g (k * 2 + 1) _ _)⟩

set_option maxRecDepth 100000 in
set_option maxHeartbeats 1000000 in
theorem refWrite_any (q g : Nat) (s : St) (id : Int) (b : Value) (l : List UInt8) (w : World) (h : RSto w q g s) (h0 : -9223372036854775808 ≤ id) (h1 : id ≤ 9223372036854775807) (hr : Rd w b l) :
    Calls Try.prog 67 #[.pointer (some ⟨q, 0, none⟩), .int .i64 id, b] w fun e w' => e = .returned (.int .i64 (writeS s id l).1) ∧ RSto w' q g (writeS s id l).2 ∧ OnlyP g w w' := by
  have HH := Lib.hid (refHas_any q g s id w h h0 h1)
  have hq := h.top
  have hfew := h.few
  obtain ⟨ab, cb, rfl, hcb1, hcb2⟩ := hr.shape
  have HRD := Lib.hid hr
  clear hr
  unfold maxLen at hcb2
  unfold writeS
  cases hp : pageS s id with
  | none =>
    have HR := Lib.hid h
    rw [hp] at HH
    clear hp hq hfew h
    go_enter Try.func67, Try.ntmps67
    go_wp2_with fail
    refine HH.out.mono ?_
    rintro e w2 ⟨rfl, rfl⟩
    go_wp2_with fail
    go_ret
    exact ⟨rfl, HR.out, OnlyP.refl _ _⟩
  | some p =>
    by_cases h56 : 56 < l.length
    · have HR := Lib.hid h
      rw [hp] at HH
      simp only
      rw [if_pos h56]
      have hd : decide (56 < (l.length : Int)) = true := decide_eq_true (by omega)
      clear hp hq hfew h h56 HRD
      generalize l.length = M at hd hcb1 ⊢
      go_enter Try.func67, Try.ntmps67
      go_wp2_with fail
      refine HH.out.mono ?_
      rintro e w2 ⟨rfl, rfl⟩
      go_wp2_with fail
      go_ret
      exact ⟨rfl, HR.out, OnlyP.refl _ _⟩
    · obtain ⟨k0, k1, hs⟩ := pageS_lt hp
      rw [hp] at HH
      obtain ⟨k, rfl⟩ := Int.eq_ofNat_of_zero_le k0
      rw [Int.toNat_natCast] at hs
      have HRS := Lib.hid h
      have HS := Lib.hid hs
      have HLY := Lib.hid (fun W hx => refLay_any k (.slice ab l.length cb) l W (HRD.out.mono (show Ext w W from hx)) (by omega) (by omega))
      simp only [Int.toNat_natCast]
      rw [if_neg h56]
      obtain ⟨S', hS'⟩ : ∃ S', setS s (k : Int) (some (layP k l)) = S' := ⟨_, rfl⟩
      rw [hS']
      have HST := Lib.hid (show s.set k (some (layP k l)) = S' from hS')
      have hd : decide (56 < (l.length : Int)) = false := decide_eq_false (by omega)
      clear hp hs h h56 hS'
      generalize hM : layP k l = M at HLY HST
      generalize l.length = N at HRD HLY hd hcb1
      generalize hL : s.length = L at hq hfew k1
      clear hL hM
      have hqz : ∀ z : Later (OnlyP g) w.drew, z.val.cell? ⟨q, 0, none⟩ = some (.slice (some ⟨g, 0, none⟩) L L) := fun z => World.grownBy.cell z.ext (show w.drew.cell? ⟨q, 0, none⟩ = _ from hq) (fun hh => HRS.out.ne (by simpa using hh))
      go_enter Try.func67, Try.ntmps67
      go_wp2_with fail
      refine HH.out.mono ?_
      rintro e w2 ⟨rfl, rfl⟩
      go_wp2_with fail
      refine wp_region_segs (OnlyP g) (OnlyP.keeps _) [([0, 1, 2, 3, 4, 5, 6], some 7), ([8, 9], some 10)] (by kernel_rfl) (by kernel_rfl) (fun c a a' w e h => (by exact ⟨e ▸ h.1, h.2⟩)) ?_
      simp only [pickSegs, pickOps, List.map_cons, List.map_nil, Option.map_some, Option.getD_some, List.getElem?_toArray, List.getElem?_cons_zero, List.getElem?_cons_succ]
      refine wpSegs_some fun K hK => ?_
      repeat go_big_quiet_step (fail)
      refine wpQuiet_nil ?_
      clear hqz
      go_wp2_with fail
      refine (HLY.out _ (Ext.drew w)).mono ?_
      rintro e w3 ⟨rfl, hx3⟩
      have HX3 := Lib.hid hx3
      have HR3 := Lib.hid (HRS.out.mono (Ext.trans (Ext.drew w) hx3))
      have c1 := HR3.out.bytes HS.out
      have f1 := HR3.out.free (k * 2 + 1)
      clear hx3
      go_wp2_with fail
      refine ⟨OnlyP.of_ext HX3.out, hK _ _ ?_⟩
      clear hK K
      refine wpSegs_some fun K hK => ?_
      repeat go_big_quiet_step (fail)
      refine wpQuiet_nil ?_
      go_wp2_with fail
      refine ⟨OnlyP.set g (k * 2 + 1) _ _, hK _ _ ?_⟩
      clear hK K
      refine wpSegs_nil ?_
      go_wp2_with fail
      go_ret
      refine ⟨rfl, ?_, OnlyP.trans (OnlyP.of_ext (Ext.trans (Ext.drew w) HX3.out)) (OnlyP.set g (k * 2 + 1) _ _)⟩
      rw [← HST.out]
      exact HR3.out.putB HS.out M

end Go.Proofs.Ytoagpaphghgkmaa

/-
  The contracts of the document's own Flip, Used, New, Ints.
-/
namespace Go.Proofs.Ytoagpaphghgkmaa
open Go.RowKit Go.BigFrame

theorem u8_xorV (a b : UInt8) : Value.int .u8 (bits BinOp.xor IntKind.u8 (a.toNat : Int) (b.toNat : Int)) = bv (a ^^^ b) := by
  have e : bits BinOp.xor IntKind.u8 (a.toNat : Int) (b.toNat : Int) = (((a ^^^ b).toNat : Nat) : Int) := by
    have h : a.toNat ^^^ b.toNat < 2 ^ 8 := Nat.xor_lt_two_pow a.toNat_lt b.toNat_lt
    have ha' : a.toNat % 2 ^ IntKind.u8.bits = a.toNat := Nat.mod_eq_of_lt a.toNat_lt
    have hb' : b.toNat % 2 ^ IntKind.u8.bits = b.toNat := Nat.mod_eq_of_lt b.toNat_lt
    rw [UInt8.toNat_xor]
    simp only [bits, BitVec.ofInt_natCast, BitVec.toNat_xor, BitVec.toNat_ofNat, ha', hb']
    exact wraps_u8 _ (by omega) (by omega)
  rw [e]
  rfl

theorem bytes_own (w : World) (l : List UInt8) (hm : l.length ≤ maxLen) :
    ∃ cap w1, (convert 9 43 (.string ⟨l.toArray⟩)).run Try.prog w = .ok (.slice (some ⟨w.heap.size, 0, none⟩) l.length cap) w1 ∧ l.length ≤ cap ∧ cap ≤ maxLen ∧
      (∀ i u, (l.map bv)[i]? = some u → w1.cell? ⟨w.heap.size, i, none⟩ = some u) ∧ (∀ j, j < l.length → w1.frozen? ⟨w.heap.size, j, none⟩ = false) ∧ w.heap.size < w1.heap.size ∧ Ext w w1 := by
  have hr := run_bytes_of_string (P := Try.prog) w 9 43 5 ⟨l.toArray⟩ Try.underlying9 Try.underlying43 Try.underlying5
  have hsz : (ByteArray.mk l.toArray).size = l.length := by
    show l.toArray.size = _
    simp
  rw [hsz] at hr
  have hge := grownCap_ge w l.length 0 5
  have hle := grownCap_le_maxLen w l.length 0 5 hm
  generalize grownCap w l.length 0 5 = C at hr hge hle
  have hrow : (bytesRow ⟨l.toArray⟩ C).size = C := by
    simp [bytesRow]
    omega
  have hcells : ∀ i u, (l.map bv)[i]? = some u → (bytesRow ⟨l.toArray⟩ C)[i]? = some u := fun i u hu => by
    rw [List.getElem?_map] at hu
    obtain ⟨c, hc, rfl⟩ := Option.map_eq_some_iff.1 hu
    have hi := (List.getElem?_eq_some_iff.1 hc).1
    unfold bytesRow
    rw [Array.getElem?_append_left (by simpa using hi), Array.getElem?_map]
    have : l.toArray[i]? = some c := by simpa using hc
    rw [this]
    rfl
  generalize bytesRow ⟨l.toArray⟩ C = R at hr hrow hcells
  refine ⟨C, _, hr, hge, hle, fun i u hu => ?_, fun j hj => ?_, ?_, ?_⟩
  · show ((w.drew.alloc _).cell? ⟨w.drew.heap.size, i, none⟩) = _
    unfold World.cell?
    rw [heap_alloc_new]
    simpa using hcells i u hu
  · show ((w.drew.alloc _).frozen? ⟨w.drew.heap.size, j, none⟩) = _
    unfold World.frozen?
    rw [heap_alloc_new]
    simp
    omega
  · show w.heap.size < (w.drew.alloc _).heap.size
    simp
  · exact Ext.trans (Ext.drew w) (ext_new w.drew _)

theorem refUsed_any (q g : Nat) (s : St) (w : World) (h : RSto w q g s) :
    Calls Try.prog 18 #[.pointer (some ⟨q, 0, none⟩)] w fun e w' => e = .returned (.int .i64 (usedS s)) ∧ w = w' := by
  have hq := h.top
  have hfew := h.few
  have HR := Lib.hid h
  clear h
  generalize hL : s.length = L at hq hfew
  replace hL := Lib.hid hL
  go_enter Try.func18, Try.ntmps18
  go_wp2_with fail
  go_loopw [3, 4] (fun n i wr => ∃ (j u : Nat), j ≤ L ∧ u ≤ j ∧ i = .int .i64 j ∧ n = .int .i64 u ∧ u = usedS (s.take j) ∧ w = wr) (fun _ i _ => L - (intOf i).toNat)
  case atStart => exact ⟨0, 0, Nat.zero_le _, Nat.le_refl _, rfl, rfl, rfl, rfl⟩
  case round =>
    obtain ⟨j, u, hj, hu, rfl, rfl, hus, rfl⟩ := hrel
    have HU := Lib.hid hus
    clear hus
    by_cases hlt : j < L
    · have hjs : j < s.length := by have := hL.out; omega
      have hs : s[j]? = some s[j] := List.getElem?_eq_getElem hjs
      have hc := HR.out.on hs
      have HT := Lib.hid (show usedS (s.take (j + 1)) = usedS (s.take j) + (if (s[j]).isSome = true then 1 else 0) from by
        unfold usedS
        rw [List.take_succ_eq_append_getElem hjs, List.countP_append, List.countP_singleton])
      clear hs
      generalize (s[j]).isSome = B at hc HT
      cases B with
      | true =>
        go_wp2_with fail
        go_roundw
        case rel => exact ⟨j + 1, u + 1, by omega, by omega, by go_num, by go_num, by rw [HT.out, ← HU.out]; rfl, trivial⟩
        case measure => simp [intOf]; omega
      | false =>
        go_wp2_with fail
        go_roundw
        case rel => exact ⟨j + 1, u, by omega, by omega, by go_num, rfl, by rw [HT.out, ← HU.out]; rfl, trivial⟩
        case measure => simp [intOf]; omega
    · have HF := Lib.hid (show u = usedS s from by rw [HU.out, List.take_of_length_le (by have := hL.out; omega)])
      go_wp2_with fail
      go_ret
      exact ⟨by rw [← HF.out]; rfl, rfl⟩

theorem rd_onlyP {g : Nat} {w w' : World} {v : Value} {l : List UInt8} (hr : Rd w v l) (ho : OnlyP g w w') (hb : ∀ k, v.ownBlock = some k → k ≠ g) : Rd w' v l := by
  rcases hr with h | ⟨x, cap, rfl, h2, h3, h4⟩
  · exact .inl h
  · refine .inr ⟨x, cap, rfl, h2, h3, fun i u hu => ho.cell (h4 i u hu) (fun hh => hb x.block rfl (by have h2 : (x.add i).block = g := (by simpa using hh); rwa [add_block] at h2))⟩

end Go.Proofs.Ytoagpaphghgkmaa

/-
  The contract of the document's own Alloc.
-/
namespace Go.Proofs.Ytoagpaphghgkmaa
open Go.RowKit Go.BigFrame

theorem Try.info_int : (Try.prog.info? 3).map (fun i => (i.zero, i.size, i.bytes)) = some (some (.int .i64 0), 1, 8) := by kernel_rfl

def iv (k : Nat) : Value := .int .i64 (k : Int)

theorem allocS_fits {s : St} (n : Int) (hn : ¬ n < 0) (hf : ¬ (s.length : Int) - usedS s < n) : allocS s n = (((takeS 0 n.toNat s).1, 0), (takeS 0 n.toNat s).2) := by
  unfold allocS
  rw [if_neg hn, if_neg hf]

/-- Alloc's answer. -/
def Alloced (w : World) (q g : Nat) (s : St) (n : Int) (e : Ending) (w' : World) : Prop :=
  ∃ v, e = .returned (.tuple #[v, .int .i64 (allocS s n).1.2]) ∧ w'.ownsRow w.heap.size 3 1 v (allocS s n).1.1.length ((allocS s n).1.1.map iv) ∧ RSto w' q g (allocS s n).2 ∧ OnlyP g w w'

theorem own_only {base g : Nat} {e : TypeId} {w w' : World} {v : Value} {n : Nat} {xs : List Value} (h : w.ownsRow base e 1 v n xs) (ho : OnlyP g w w') (hg : g < base) : w'.ownsRow base e 1 v n xs :=
  h.kept (row := some g) ho (.inr (fun hh => by have := (h.lt g hh).1; omega))

theorem OnlyP.below {g : Nat} {x y z : World} (h : OnlyP g x y) (hb : Below x.heap.size y z) : OnlyP g x z :=
  ⟨hb.os.trans h.os, hb.tape.trans h.tape, hb.output.trans h.output, Nat.le_trans h.size hb.size, fun i hi hne => (hb.block i hi).trans (h.block i hi hne)⟩
theorem RSto.below {N : Nat} {w w' : World} {q g : Nat} {s : St} (h : RSto w q g s) (hb : Below N w w') (hq : q < N) (hg : g < N) : RSto w' q g s := by
  refine ⟨?_, fun i o hi j u hj => ?_, fun j => ?_, h.ne, Nat.lt_of_lt_of_le h.lt hb.size, h.few⟩
  · rw [hb.cell (p := ⟨q, 0, none⟩) hq]; exact h.top
  · have := h.at' i o hi j u hj
    rw [hb.cell (p := ⟨g, i * 2 + j, none⟩) hg]; exact this
  · have := h.free j
    unfold World.frozen? at this ⊢
    rw [hb.block g hg]
    exact this
theorem takeS_nil (j n : Nat) : takeS j n [] = ([], []) := by cases n <;> simp [takeS]
theorem takeS_zero (j : Nat) (s : St) : takeS j 0 s = ([], s) := by simp only [takeS]
theorem takeS_none (j n : Nat) (t : St) (h : 0 < n) : takeS j n (none :: t) = (j :: (takeS (j + 1) (n - 1) t).1, some (layP j []) :: (takeS (j + 1) (n - 1) t).2) := by
  obtain ⟨k, rfl⟩ : ∃ k, n = k + 1 := ⟨n - 1, by omega⟩
  rfl
theorem takeS_some (j n : Nat) (p : List UInt8) (t : St) (h : 0 < n) : takeS j n (some p :: t) = ((takeS (j + 1) n t).1, some p :: (takeS (j + 1) n t).2) := by
  obtain ⟨k, rfl⟩ : ∃ k, n = k + 1 := ⟨n - 1, by omega⟩
  rfl

set_option maxRecDepth 100000 in
set_option maxHeartbeats 1000000 in
theorem refAlloc_any (q g : Nat) (s : St) (n : Int) (w : World) (h : RSto w q g s) (h0 : -9223372036854775808 ≤ n) (h1 : n ≤ 9223372036854775807) :
    Calls Try.prog 13 #[.pointer (some ⟨q, 0, none⟩), .int .i64 n] w (Alloced w q g s n) := by
  have hq := h.top
  have hfew := h.few
  have HR := Lib.hid h
  have HU := Lib.hid (refUsed_any q g s w.drew (h.mono (Ext.drew w)))
  have hus : usedS s ≤ s.length := List.countP_le_length
  by_cases hn : n < 0
  · have ha : allocS s n = (([], 1), s) := by unfold allocS; rw [if_pos hn]
    unfold Alloced
    rw [ha]
    clear ha hq hfew h hus
    go_enter Try.func13, Try.ntmps13
    go_wp2_with fail
    go_ret2
    exact ⟨_, rfl, World.ownsRow_nil _ _ _ _, HR.out, OnlyP.refl _ _⟩
  · obtain ⟨N, rfl⟩ := Int.eq_ofNat_of_zero_le (show 0 ≤ n by omega)
    have hqd : ∀ z : Later Ext w.drew, z.val.cell? ⟨q, 0, none⟩ = some (.slice (some ⟨g, 0, none⟩) s.length s.length) := fun z => (z.ext.cell (lt_of_cell (show w.drew.cell? ⟨q, 0, none⟩ = _ from hq))).trans hq
    by_cases hf : (s.length : Int) - usedS s < N
    · have ha : allocS s N = (([], 4), s) := by unfold allocS; rw [if_neg hn, if_pos hf]
      unfold Alloced
      rw [ha]
      have hd : decide ((s.length : Int) - usedS s < N) = true := decide_eq_true hf
      clear ha h hf
      generalize usedS s = U at HU hus hd
      generalize s.length = L at hq hfew hus hd hqd
      go_enter Try.func13, Try.ntmps13
      go_wp2_with fail
      refine wp_region_segs Ext Ext.keeps [([0, 1, 2, 3, 4, 5, 6], some 7), ([8, 9], none)] (by kernel_rfl) (by kernel_rfl) (fun c a a' w e h => (by exact ⟨e ▸ h.1, h.2⟩)) ?_
      simp only [pickSegs, pickOps, List.map_cons, List.map_nil, Option.map_some, Option.map_none, Option.getD_some, List.getElem?_toArray, List.getElem?_cons_zero, List.getElem?_cons_succ]
      refine wpSegs_some fun K hK => ?_
      repeat go_big_quiet_step (fail)
      refine wpQuiet_nil ?_
      clear hqd
      go_wp2_with fail
      refine HU.out.mono ?_
      rintro e w2 ⟨rfl, rfl⟩
      go_wp2_with fail
      refine ⟨Ext.keeps.refl _, hK _ _ ?_⟩
      clear hK K
      refine wpSegs_none ?_
      repeat go_big_quiet_step (fail)
      refine wpQuiet_nil (wpSegs_nil ?_)
      go_wp2_with fail
      go_ret2
      exact ⟨_, rfl, World.ownsRow_nil _ _ _ _, HR.out.mono (Ext.drew w), OnlyP.of_ext (Ext.drew w)⟩
    · have ha := allocS_fits (s := s) (n := (N : Int)) hn hf
      unfold Alloced
      rw [ha]
      simp only [Int.toNat_natCast]
      obtain ⟨i0, hi, hz0, hz1, hz2⟩ := info_parts Try.info_int
      obtain ⟨T, hT⟩ : ∃ T, takeS 0 N s = T := ⟨_, rfl⟩
      rw [hT]
      replace hT := Lib.hid hT
      have hd : decide ((s.length : Int) - usedS s < N) = false := decide_eq_false hf
      have hNl : N ≤ s.length := by omega
      have hNl : N ≤ 4096 := by omega
      have hqw : q < w.heap.size := lt_of_cell hq
      have hgw : g < w.heap.size := h.lt
      clear ha h hf
      generalize usedS s = U at HU hus hd
      generalize hL : s.length = L at hq hfew hus hd hqd
      replace hL := Lib.hid hL
      go_enter Try.func13, Try.ntmps13
      go_wp2_with fail
      refine wp_region_segs Ext Ext.keeps [([0, 1, 2, 3, 4, 5, 6], some 7), ([8, 9], none)] (by kernel_rfl) (by kernel_rfl) (fun c a a' w e h => (by exact ⟨e ▸ h.1, h.2⟩)) ?_
      simp only [pickSegs, pickOps, List.map_cons, List.map_nil, Option.map_some, Option.map_none, Option.getD_some, List.getElem?_toArray, List.getElem?_cons_zero, List.getElem?_cons_succ]
      refine wpSegs_some fun K hK => ?_
      repeat go_big_quiet_step (fail)
      refine wpQuiet_nil ?_
      clear hqd
      go_wp2_with fail
      refine HU.out.mono ?_
      rintro e w2 ⟨rfl, rfl⟩
      go_wp2_with fail
      refine ⟨Ext.keeps.refl _, hK _ _ ?_⟩
      clear hK K
      refine wpSegs_none ?_
      repeat go_big_quiet_step (fail)
      refine wpQuiet_nil (wpSegs_nil ?_)
      clear hd hus
      go_wp2_with fail
      go_loopw [6, 7] (fun l i wr => ∃ (j m : Nat) (ids : List Nat) (pre rest : St), j ≤ L ∧ m ≤ N ∧ i = .int .i64 j ∧ pre.length = j ∧ j + rest.length = L ∧ ids.length = m ∧ T = (ids ++ (takeS j (N - m) rest).1, pre ++ (takeS j (N - m) rest).2) ∧ wr.ownsRow w.heap.size 3 1 l m (ids.map iv) ∧ RSto wr q g (pre ++ rest) ∧ OnlyP g w wr) (fun _ i _ => L - (intOf i).toNat)
      case atStart => exact ⟨0, 0, [], [], s, Nat.zero_le _, Nat.zero_le _, rfl, rfl, by rw [Nat.zero_add]; exact hL.out, rfl, by rw [Nat.sub_zero, hT.out]; rfl, World.ownsRow_nil _ _ _ _, HR.out.mono (Ext.drew w), OnlyP.of_ext (Ext.drew w)⟩
      case round =>
        obtain ⟨j, m, ids, pre, rest, hjL, hmN, rfl, hpre, hrest, hids, hTe, hown, hsto, honly⟩ := hrel
        obtain ⟨a, cap, rfl, hc1, hc2⟩ := own_shape hown
        unfold maxLen at hc2
        have HP := Lib.hid hpre
        have HRS := Lib.hid hrest
        have HI := Lib.hid hids
        have HT := Lib.hid hTe
        have HO := Lib.hid hown
        have HS := Lib.hid hsto
        have HON := Lib.hid honly
        have hlen : (pre ++ rest).length = L := by rw [List.length_append, hpre]; exact hrest
        have hqr : wr.cell? ⟨q, 0, none⟩ = some (.slice (some ⟨g, 0, none⟩) L L) := by rw [← hlen]; exact hsto.top
        clear hpre hrest hids hTe hown hsto honly hlen
        by_cases hj : j < L
        · by_cases hm : m < N
          · cases rest with
            | nil => have := HRS.out; simp at this; omega
            | cons o t =>
              have hat : (pre ++ o :: t)[j]? = some o := by rw [List.getElem?_append_right (by have := HP.out; omega), HP.out]; simp
              have hon := HS.out.on hat
              cases o with
              | some p =>
                simp only [Option.isSome_some] at hon
                go_wp2_with fail
                go_roundw
                case rel => exact ⟨j + 1, m, ids, pre ++ [some p], t, by omega, hmN, by go_num, by rw [List.length_append, HP.out]; rfl, by have := HRS.out; simp at this; omega, HI.out, by rw [HT.out, takeS_some _ _ _ _ (by omega)]; simp, HO.out, by have := HS.out; simpa using this, HON.out⟩
                case measure => simp [intOf]; omega
              | none =>
                simp only [Option.isSome_none] at hon
                have hqz : ∀ z : Later (OnlyP g) wr.drew, z.val.cell? ⟨q, 0, none⟩ = some (.slice (some ⟨g, 0, none⟩) L L) := fun z => World.grownBy.cell z.ext (show wr.drew.cell? ⟨q, 0, none⟩ = _ from hqr) (fun hh => HS.out.ne (by simpa using hh))
                have HLY := Lib.hid (fun W => refLay_any j (.slice none 0 0) [] W (Rd.nil W) (by simp) (by omega))
                have HAT := Lib.hid hat
                generalize hM : layP j [] = M at HLY
                replace hM := Lib.hid hM
                have hLM : j ≤ 4096 := by omega
                go_wp2_with fail
                refine wp_region_segs (OnlyP g) (OnlyP.keeps _) [([0, 1, 2, 3, 4, 5], some 6), ([], some 7), ([8], some 9)] (by kernel_rfl) (by kernel_rfl) (fun c a a' w e h => (by exact ⟨e ▸ h.1, h.2⟩)) ?_
                simp only [pickSegs, pickOps, List.map_cons, List.map_nil, Option.map_some, Option.getD_some, List.getElem?_toArray, List.getElem?_cons_zero, List.getElem?_cons_succ]
                refine wpSegs_some fun K hK => ?_
                repeat go_big_quiet_step (fail)
                refine wpQuiet_nil ?_
                clear hqz
                go_wp2_with fail
                refine (HLY.out _).mono ?_
                rintro e w3 ⟨rfl, hx3⟩
                have HX3 := Lib.hid hx3
                have HS3 := Lib.hid (HS.out.mono (Ext.trans (Ext.drew wr) hx3))
                have ON3 := Lib.hid (OnlyP.of_ext (g := g) (Ext.trans (Ext.drew wr) hx3))
                clear hx3
                go_wp2_with fail
                refine ⟨OnlyP.of_ext HX3.out, hK _ _ ?_⟩
                clear hK K
                refine wpSegs_some fun K hK => ?_
                refine wpQuiet_nil ?_
                go_wp2_with fail
                refine ⟨OnlyP.refl _ _, hK _ _ ?_⟩
                clear hK K
                refine wpSegs_some fun K hK => ?_
                repeat go_big_quiet_step (fail)
                refine wpQuiet_nil ?_
                have c0 := HS3.out.on HAT.out
                have c1 := HS3.out.at' j _ HAT.out 1 _ rfl
                have f0 := HS3.out.free (j * 2)
                have f1 := HS3.out.free (j * 2 + 1)
                have HS4 := Lib.hid (show RSto ((w3.setCell ⟨g, j * 2, none⟩ (.bool true)).setCell ⟨g, j * 2 + 1, none⟩ (.string ⟨M.toArray⟩)) q g ((pre ++ none :: t).set j (some M)) from HS3.out.put (i := j) (by have := HP.out; have := HRS.out; rw [List.length_append]; simp; omega) (some M) _ _ rfl)
                have ON4 := Lib.hid (show OnlyP g wr ((w3.setCell ⟨g, j * 2, none⟩ (.bool true)).setCell ⟨g, j * 2 + 1, none⟩ (.string ⟨M.toArray⟩)) from OnlyP.trans ON3.out (OnlyP.trans (OnlyP.set g (j * 2) _ _) (OnlyP.set g (j * 2 + 1) _ _)))
                simp only [Option.isSome_none] at c0
                go_wp2_with fail
                refine ⟨OnlyP.trans (OnlyP.set g (j * 2) _ _) (OnlyP.set g (j * 2 + 1) _ _), hK _ _ ?_⟩
                clear hK K c0 c1 f0 f1
                refine wpSegs_nil ?_
                generalize (w3.setCell ⟨g, j * 2, none⟩ (.bool true)).setCell ⟨g, j * 2 + 1, none⟩ (.string ⟨M.toArray⟩) = W4 at HS4 ON4 ⊢
                have HO4 := Lib.hid (own_only HO.out ON4.out hgw)
                have HW4 := Lib.hid (show w.heap.size ≤ W4.heap.size from Nat.le_trans HON.out.size ON4.out.size)
                have HB4 := Lib.hid (show Below w.heap.size W4 (W4.alloc (.cells #[.int .i64 (j : Int)] 3)) from (Below.refl _ W4).alloc HW4.out _)
                go_wp2_with (at_builtin; go_must (refine wpList_append_own _ rfl (.tmp 53) (.tmp 55) 32 rfl w.heap.size 3 i0 (.int .i64 0) 1 8 Try.underlying32 hi hz0 hz1 hz2 rfl (by decide) _ _ _ rfl (HO4.out.alloc _) ⟨W4.heap.size, 0, none⟩ 1 1 [.int .i64 (j : Int)] rfl rfl (row_new W4 [.int .i64 (j : Int)] 3) (by simp [Value.oneCell']) (by unfold maxLen; first | omega | (simp; omega)) (by first | omega | (simp; omega)) (by have := HW4.out; first | omega | (simp; omega)) ?_); intro v5 w5 hown5 hgrow5 _; have HO5 := Lib.hid hown5; have HB5 := Lib.hid (show Below w.heap.size W4 w5 from HB4.out.grown hgrow5 (by have := HW4.out; simp; omega) (fun k hk => (HO4.out.lt k hk).1)); clear hown5 hgrow5)
                go_roundw
                case rel =>
                  refine ⟨j + 1, m + 1, ids ++ [j], pre ++ [some M], t, by omega, by omega, by go_num, by rw [List.length_append, HP.out]; rfl, by have := HRS.out; simp at this; omega, by rw [List.length_append, HI.out]; rfl, ?_, ?_, ?_, ?_⟩
                  · rw [HT.out, takeS_none _ _ _ (by omega), hM.out]
                    simp [Nat.sub_sub]
                  · have h := HO5.out
                    rw [List.map_append]
                    exact h
                  · have h := HS4.out
                    rw [List.set_append_right _ _ (by have := HP.out; omega), HP.out] at h
                    have h2 := h.below HB5.out hqw hgw
                    simpa using h2
                  · exact (OnlyP.trans HON.out ON4.out).below HB5.out
                case measure => simp [intOf]; omega
          · have hmN2 : m = N := by omega
            subst hmN2
            have HTF := Lib.hid (show T = (ids, pre ++ rest) from by rw [HT.out, Nat.sub_self, takeS_zero]; simp)
            go_wp2_with fail
            go_ret2
            refine ⟨_, rfl, ?_, by rw [HTF.out]; exact HS.out, HON.out⟩
            rw [HTF.out]
            simp only
            rw [HI.out]
            exact HO.out
        · have hr0 : rest = [] := List.length_eq_zero_iff.1 (by have := HRS.out; omega)
          have HTF := Lib.hid (show T = (ids, pre ++ rest) from by rw [HT.out, hr0, takeS_nil]; simp)
          clear hr0
          go_wp2_with fail
          go_ret2
          refine ⟨_, rfl, ?_, by rw [HTF.out]; exact HS.out, HON.out⟩
          rw [HTF.out]
          simp only
          rw [HI.out]
          exact HO.out

end Go.Proofs.Ytoagpaphghgkmaa

/-
  The contract of the reference's Ints (warpref05): are both lists?
-/
namespace Go.Proofs.Ytoagpaphghgkmaa
open Go.RowKit Go.BigFrame

set_option maxRecDepth 100000 in
theorem refInts_any (u v : Value) (xs ys : List Int) (w : World) (hu : RdV w u (xs.map (Value.int .i64))) (hv : RdV w v (ys.map (Value.int .i64))) (hxl : xs.length ≤ 1000000) (_hyl : ys.length ≤ 1000000) :
    Calls Try.prog 19 #[u, v] w fun e w' => e = .returned (.bool (decide (xs = ys))) ∧ Ext w w' := by
  obtain ⟨ao, ca, rfl, h1, h2, hca⟩ := RdV.cellsAt hu
  obtain ⟨bo, cb, rfl, h3, h4, hcb⟩ := RdV.cellsAt hv
  simp only [List.length_map] at *
  have HA := Lib.hid hca
  have HB := Lib.hid hcb
  unfold maxLen at h2 h4
  clear hu hv hca hcb
  by_cases hL : xs.length = ys.length
  · have HL := Lib.hid hL
    generalize hN : ys.length = N at h3 _hyl
    rw [hL, hN] at h1 hxl ⊢
    replace hN := Lib.hid hN
    clear hL
    go_enter Try.func19, Try.ntmps19
    go_wp2_with fail
    go_loopw [5] (fun i wr => ∃ j : Nat, j ≤ N ∧ i = .int .i64 j ∧ xs.take j = ys.take j ∧ Ext w wr) (fun i _ => N - (intOf i).toNat)
    case atStart => exact ⟨0, Nat.zero_le _, rfl, rfl, Ext.keeps.refl _⟩
    case round =>
      obtain ⟨j, hj, rfl, htk, hext⟩ := hrel
      have HT := Lib.hid htk
      have HE := Lib.hid hext
      clear htk hext
      by_cases hlt : j < N
      · have hjx : j < xs.length := by have := HL.out; have := hN.out; omega
        have hjy : j < ys.length := by have := hN.out; omega
        obtain ⟨x, rfl, hcx⟩ := HA.out j (.int .i64 xs[j]) (by rw [List.getElem?_map, List.getElem?_eq_getElem hjx]; rfl)
        obtain ⟨y, rfl, hcy⟩ := HB.out j (.int .i64 ys[j]) (by rw [List.getElem?_map, List.getElem?_eq_getElem hjy]; rfl)
        have hzx : ∀ z : Later Ext wr.drew, z.val.cell? (x.add j) = some (.int .i64 xs[j]) := fun z => ((Ext.trans HE.out (Ext.trans (Ext.drew wr) z.ext)).cell (lt_of_cell hcx)).trans hcx
        have hzy : ∀ z : Later Ext wr.drew, z.val.cell? (y.add j) = some (.int .i64 ys[j]) := fun z => ((Ext.trans HE.out (Ext.trans (Ext.drew wr) z.ext)).cell (lt_of_cell hcy)).trans hcy
        clear hcx hcy
        have HS := Lib.hid (show xs.take (j + 1) = xs.take j ++ [xs[j]] ∧ ys.take (j + 1) = ys.take j ++ [ys[j]] from ⟨List.take_succ_eq_append_getElem hjx, List.take_succ_eq_append_getElem hjy⟩)
        have HG := Lib.hid (show xs[j]? = some xs[j] ∧ ys[j]? = some ys[j] from ⟨List.getElem?_eq_getElem hjx, List.getElem?_eq_getElem hjy⟩)
        generalize xs[j] = c at hzx HS HG
        generalize ys[j] = d at hzy HS HG
        clear hjx hjy
        by_cases hcd : c = d
        · subst hcd
          go_wp2_with fail
          refine wp_region_segs Ext Ext.keeps [([0, 1, 2, 3, 4, 5, 6, 7, 8], none)] (by kernel_rfl) (by kernel_rfl) (fun c a a' w e h => (by exact ⟨e ▸ h.1, h.2⟩)) ?_
          simp only [pickSegs, pickOps, List.map_cons, List.map_nil, Option.map_none, Option.getD_some, List.getElem?_toArray, List.getElem?_cons_zero, List.getElem?_cons_succ]
          refine wpSegs_none ?_
          repeat go_big_quiet_step (fail)
          refine wpQuiet_nil (wpSegs_nil ?_)
          clear hzx hzy
          go_wp2_with fail
          go_roundw
          case rel => exact ⟨j + 1, by omega, by go_num, by rw [HS.out.1, HS.out.2, HT.out], Ext.trans HE.out (Ext.drew wr)⟩
          case measure => simp [intOf]; omega
        · have hq : (c == d) = false := beq_eq_false_iff_ne.2 hcd
          have HNE := Lib.hid (show decide (xs = ys) = false from decide_eq_false (fun h => by subst h; have h1 := HG.out.1; rw [HG.out.2] at h1; exact hcd (Option.some.inj h1).symm))
          clear hcd
          go_wp2_with fail
          refine wp_region_segs Ext Ext.keeps [([0, 1, 2, 3, 4, 5, 6, 7, 8], none)] (by kernel_rfl) (by kernel_rfl) (fun c a a' w e h => (by exact ⟨e ▸ h.1, h.2⟩)) ?_
          simp only [pickSegs, pickOps, List.map_cons, List.map_nil, Option.map_none, Option.getD_some, List.getElem?_toArray, List.getElem?_cons_zero, List.getElem?_cons_succ]
          refine wpSegs_none ?_
          repeat go_big_quiet_step (fail)
          refine wpQuiet_nil (wpSegs_nil ?_)
          clear hzx hzy
          go_wp2_with fail
          go_ret
          exact ⟨by rw [HNE.out]; rfl, Ext.trans HE.out (Ext.drew wr)⟩
      · have HEQ := Lib.hid (show decide (xs = ys) = true from decide_eq_true (by have h := HT.out; rw [List.take_of_length_le (by have := HL.out; have := hN.out; omega), List.take_of_length_le (by have := hN.out; omega)] at h; exact h))
        go_wp2_with fail
        go_ret
        exact ⟨by rw [HEQ.out]; rfl, HE.out⟩
  · have HNE := Lib.hid (show decide (xs = ys) = false from decide_eq_false (fun h => hL (by rw [h])))
    have hq : ((xs.length : Int) == (ys.length : Int)) = false := by rw [beq_eq_false_iff_ne]; omega
    clear hL
    generalize xs.length = M at hq h1 hxl ⊢
    generalize ys.length = N at hq h3 _hyl ⊢
    go_enter Try.func19, Try.ntmps19
    go_wp2_with fail
    go_ret
    exact ⟨by rw [HNE.out]; rfl, Ext.keeps.refl _⟩

end Go.Proofs.Ytoagpaphghgkmaa
