/-
  The contracts of octets' decoder: first, and the methods of a reader.
-/
import Derived.Test.YtlbilmmjcfiokaaOct
import Derived.BigQuiet
namespace Go.Proofs.Ytlbilmmjcfiokaa
open Go.RowKit Go.BigFrame

set_option maxRecDepth 100000 in
set_option maxHeartbeats 1000000 in
theorem first_empty (x : Option Addr) (cap : Nat) (w : World) :
    Calls Try.prog 94 #[.slice x 0 cap] w fun e w' => e = .returned (.tuple #[.int .u64 0, .int .i64 0]) ∧ w = w' := by
  go_enter Try.func94, Try.ntmps94
  go_wp2
  go_ret2
  exact ⟨rfl, rfl⟩

set_option maxRecDepth 100000 in
set_option maxHeartbeats 1000000 in
theorem first_small (b off L cap : Nat) (c : Nat) (w : World) (hL : 0 < L) (hm : L ≤ 9223372036854775807) (hc : w.cell? ⟨b, off, none⟩ = some (.int .u8 c)) (h : c < 248) :
    Calls Try.prog 94 #[.slice (some ⟨b, off, none⟩) L cap] w fun e w' => e = .returned (.tuple #[.int .u64 c, .int .i64 1]) ∧ w = w' := by
  have hne : ((L : Int) == 0) = false := by rw [beq_eq_false_iff_ne]; omega
  go_enter Try.func94, Try.ntmps94
  go_wp2
  go_ret2
  exact ⟨rfl, rfl⟩

set_option maxRecDepth 100000 in
set_option maxHeartbeats 1000000 in
theorem first_short (b off L cap : Nat) (c : Nat) (w : World) (hL : 0 < L) (hm : L ≤ 9223372036854775807) (hc : w.cell? ⟨b, off, none⟩ = some (.int .u8 c)) (h : 248 ≤ c) (h2 : c ≤ 255) (hs : L < c - 246) :
    Calls Try.prog 94 #[.slice (some ⟨b, off, none⟩) L cap] w fun e w' => e = .returned (.tuple #[.int .u64 0, .int .i64 0]) ∧ w = w' := by
  have hne : ((L : Int) == 0) = false := by rw [beq_eq_false_iff_ne]; omega
  go_enter Try.func94, Try.ntmps94
  go_wp2
  go_ret2
  exact ⟨rfl, rfl⟩

theorem val_take_snoc (t : List UInt8) (k : Nat) (h : k < t.length) : val (t.take (k + 1)) = val (t.take k) * 256 + t[k].toNat := by
  rw [List.take_succ_eq_append_getElem h, val_snoc]

/-- What 'first' hands back where the first byte announces further ones. -/
def longV (c : Nat) (t : List UInt8) : Value := if val t < 248 ∨ (1 < c - 247 ∧ t.head? = some 0) then .tuple #[.int .u64 0, .int .i64 0] else .tuple #[.int .u64 (val t), .int .i64 (1 + (c : Int) - 247)]
theorem longV_no {c : Nat} {t : List UInt8} (h : val t < 248 ∨ (1 < c - 247 ∧ t.head? = some 0)) : longV c t = .tuple #[.int .u64 0, .int .i64 0] := if_pos h
theorem longV_yes {c : Nat} {t : List UInt8} (h : ¬ (val t < 248 ∨ (1 < c - 247 ∧ t.head? = some 0))) : longV c t = .tuple #[.int .u64 (val t), .int .i64 (1 + (c : Int) - 247)] := if_neg h

set_option maxRecDepth 100000 in
set_option maxHeartbeats 1000000 in
theorem first_long (b off L cap : Nat) (c : Nat) (t : List UInt8) (w : World) (hLc : L ≤ cap) (_hm : cap ≤ 9223372036854775807) (hc : w.cell? ⟨b, off, none⟩ = some (.int .u8 c))
    (ht : ∀ i, (hi : i < t.length) → w.cell? ⟨b, off + 1 + i, none⟩ = some (bv t[i])) (h : 248 ≤ c) (h2 : c ≤ 255) (hl : t.length = c - 247) (hs : c - 246 ≤ L) :
    Calls Try.prog 94 #[.slice (some ⟨b, off, none⟩) L cap] w fun e w' => e = .returned (longV c t) ∧ w = w' := by
  have hne : ((L : Int) == 0) = false := by rw [beq_eq_false_iff_ne]; omega
  have hcl : decide ((c : Int) < 248) = false := decide_eq_false (by omega)
  have hsh : decide ((L : Int) < 1 + c - 247) = false := decide_eq_false (by omega)
  have HT := Lib.hid ht
  have HL := Lib.hid hl
  clear ht hl
  go_enter Try.func94, Try.ntmps94
  go_wp2
  go_loop [5, 33] (fun n i => ∃ k : Nat, k ≤ t.length ∧ i = .int .i64 k ∧ n = .int .u64 (val (t.take k))) (fun _ i => t.length - (intOf i).toNat)
  case atStart => exact ⟨0, Nat.zero_le _, rfl, rfl⟩
  case round =>
    obtain ⟨k, hk, rfl, rfl⟩ := hrel
    by_cases hlt : k < t.length
    · have hcell := HT.out k hlt
      have hv7 : val (t.take k) ≤ 72057594037927935 := by
        have h1 := val_lt (t.take k)
        have h3 := HL.out
        have h4 := Nat.pow_le_pow_right (show 0 < 256 by decide) (show (t.take k).length ≤ 7 by rw [List.length_take]; omega)
        have h5 : (256 : Nat) ^ 7 = 72057594037927936 := by decide
        omega
      have hc8 := t[k].toNat_lt
      unfold bv at hcell
      have hkc : (k : Int) < ((1 + c - 247 - 1 : Nat) : Int) := by have h3 := HL.out; omega
      go_wp2
      go_round
      case rel =>
        refine ⟨k + 1, by omega, by go_num, ?_⟩
        have e := val_take_snoc t k hlt
        have e2 := u64_or_low (val (t.take k) : Int) (t[k].toNat : Int) 8 (by omega) (by omega) (by omega) (by omega)
        rw [e, Int.natCast_add, Int.natCast_mul]
        exact congrArg (Value.int IntKind.u64) e2
      case measure => simp [intOf]; omega
    · have e : t.take k = t := List.take_of_length_le (by omega)
      have hge : 1 + c - 247 - 1 ≤ k := by have h3 := HL.out; omega
      have hvt := val_lt t
      have hv64 : val t ≤ 18446744073709551615 := by
        have h3 := HL.out
        have h4 := Nat.pow_le_pow_right (show 0 < 256 by decide) (show t.length ≤ 8 by omega)
        have h5 : (256 : Nat) ^ 8 = 18446744073709551616 := by decide
        omega
      clear hvt
      rw [e]
      clear e
      by_cases h248 : val t < 248
      · have hd : decide ((val t : Int) < 248) = true := decide_eq_true (by omega)
        go_wp2
        go_ret2
        exact ⟨by rw [longV_no (.inl h248)]; rfl, rfl⟩
      · have hd : decide ((val t : Int) < 248) = false := decide_eq_false (by omega)
        by_cases h1 : 1 < c - 247
        · have hd2 : decide ((2 : Int) < 1 + c - 247) = true := decide_eq_true (by omega)
          have h0 : 0 < t.length := by have h3 := HL.out; omega
          have hcell := HT.out 0 h0
          unfold bv at hcell
          rw [Nat.add_zero] at hcell
          by_cases hz : t[0] = 0
          · have hz' : t[0].toNat = 0 := by rw [hz]; rfl
            rw [hz'] at hcell
            have HZ := Lib.hid hz
            clear hz hz'
            go_wp2
            go_ret2
            refine ⟨?_, rfl⟩
            rw [longV_no (.inr ⟨h1, by rw [List.head?_eq_getElem?, List.getElem?_eq_getElem h0, HZ.out]⟩)]
            rfl
          · have hz' : t[0].toNat ≠ 0 := fun h => hz (UInt8.toNat_inj.1 (by rw [h]; rfl))
            have hd3 : ((t[0].toNat : Int) == 0) = false := by rw [beq_eq_false_iff_ne]; omega
            go_wp2
            go_ret2
            refine ⟨?_, rfl⟩
            rw [longV_yes (by
              rintro (h' | ⟨_, h'⟩)
              · exact h248 h'
              · rw [List.head?_eq_getElem?, List.getElem?_eq_getElem h0, Option.some.injEq] at h'
                exact hz h')]
            rfl
        · have hd2 : decide ((2 : Int) < 1 + c - 247) = false := decide_eq_false (by omega)
          go_wp2
          go_ret2
          refine ⟨?_, rfl⟩
          rw [longV_yes (by rintro (h' | ⟨h', _⟩) <;> omega)]
          rfl

/-- first: the number that bytes begin with. -/
theorem first_any (v : Value) (l : List UInt8) (w : World) (hr : Rd w v l) :
    Calls Try.prog 94 #[v] w fun e w' => e = .returned (.tuple #[.int .u64 (front l).1, .int .i64 (front l).2]) ∧ w = w' := by
  rcases hr with ⟨rfl, h1⟩ | ⟨x, cap, rfl, h2, h3, h4⟩
  · have : l = [] := by simpa using h1
    subst this
    exact first_empty none 0 w
  · unfold maxLen at h3
    rw [List.length_map] at h2 ⊢
    cases l with
    | nil => exact first_empty (some x) cap w
    | cons c t =>
      have hc0 := h4 0 (bv c) (by simp)
      rw [add_zero] at hc0
      obtain ⟨b, off, rfl, _⟩ := plain_of hc0
      have hcb := c.toNat_lt
      have hlen : (c :: t).length = t.length + 1 := rfl
      by_cases hs : c.toNat < 248
      · have : front (c :: t) = (c.toNat, 1) := by simp only [front]; rw [if_pos hs]
        rw [this]
        exact first_small b off _ cap c.toNat w (by omega) (by omega) hc0 hs
      · by_cases hsh : t.length < c.toNat - 247
        · have : front (c :: t) = (0, 0) := by simp only [front]; rw [if_neg hs, if_pos hsh]
          rw [this]
          exact first_short b off _ cap c.toNat w (by omega) (by omega) hc0 (by omega) (by omega) (by omega)
        · have hlt : (t.take (c.toNat - 247)).length = c.toNat - 247 := by rw [List.length_take]; omega
          refine (first_long b off _ cap c.toNat (t.take (c.toNat - 247)) w h2 (by omega) hc0 (fun i hi => ?_) (by omega) (by omega) hlt (by omega)).mono ?_
          · have hi' : i < t.length := by omega
            have := h4 (i + 1) (bv t[i]) (by simp only [List.map_cons, List.getElem?_cons_succ, List.getElem?_map, List.getElem?_eq_getElem hi', Option.map_some])
            rw [add_at] at this
            rw [List.getElem_take, Nat.add_assoc, Nat.add_comm 1 i]
            exact this
          · rintro e w' ⟨rfl, rfl⟩
            refine ⟨?_, rfl⟩
            have hh : (t.take (c.toNat - 247)).head? = t.head? := by
              rw [List.head?_take, if_neg (by omega)]
            unfold longV
            rw [hh]
            simp only [front]
            rw [if_neg hs, if_neg hsh]
            split
            · rfl
            · have e : (1 + (c.toNat : Int) - 247) = ((1 + (c.toNat - 247) : Nat) : Int) := by omega
              rw [e]

/-! ### A reader -/

/-- The block b is a reader (a struct of type T: bytes to come, and whether it is bad) whose bytes to come are l (in memory from block B on). -/
def RdrT (T : TypeId) (B : Nat) (w : World) (b : Nat) (l : List UInt8) (bad : Bool) : Prop :=
  ∃ v, w.heap[b]? = some (.cells #[v, .bool bad] T (0, 0)) ∧ Rd w v l ∧ ∀ k, v.ownBlock = some k → B ≤ k

abbrev Rdr (B : Nat) (w : World) (b : Nat) (l : List UInt8) (bad : Bool) : Prop := RdrT 87 B w b l bad

/-- Only block b of what was there has changed. -/
def Only (b : Nat) (w w' : World) : Prop := w.grownBy w' (some b)

section
variable {T : TypeId}

theorem Rdr.cell0 {w : World} {b : Nat} {v : Value} {bad : Bool} (h : w.heap[b]? = some (.cells #[v, .bool bad] T (0, 0))) : w.cell? ⟨b, 0, none⟩ = some v := by
  simp [World.cell?, h]
theorem Rdr.cell1 {w : World} {b : Nat} {v : Value} {bad : Bool} (h : w.heap[b]? = some (.cells #[v, .bool bad] T (0, 0))) : w.cell? ⟨b, 1, none⟩ = some (.bool bad) := by
  simp [World.cell?, h]
theorem Rdr.free {w : World} {b : Nat} {v : Value} {bad : Bool} (h : w.heap[b]? = some (.cells #[v, .bool bad] T (0, 0))) (i : Nat) : w.frozen? ⟨b, i, none⟩ = false := by
  simp [World.frozen?, h]

/-- Bytes do not lie in a reader's own block. -/
theorem Rd.apart {w : World} {b : Nat} {u v : Value} {bad : Bool} {l : List UInt8} (hb : w.heap[b]? = some (.cells #[u, .bool bad] T (0, 0))) (hu : ∀ n, u ≠ .int .u8 n) (hr : Rd w v l) {w' : World} (ho : Only b w w') : Rd w' v l := by
  rcases hr with h | ⟨x, cap, h1, h2, h3, h4⟩
  · exact .inl h
  · refine .inr ⟨x, cap, h1, h2, h3, fun i y hy => ?_⟩
    have hc := h4 i y hy
    refine ho.cell hc (fun hh => ?_)
    have hh' : (x.add i).block = b := by simpa using hh
    have hy' : ∃ n, y = .int .u8 n := by
      rw [List.getElem?_map] at hy
      obtain ⟨c, _, rfl⟩ := Option.map_eq_some_iff.1 hy
      exact ⟨_, rfl⟩
    obtain ⟨n, rfl⟩ := hy'
    unfold World.cell? at hc
    rw [hh', hb] at hc
    simp only at hc
    split at hc
    · cases hc
    · generalize (x.add i).off = o at hc
      match o, hc with
      | 0, hc => simp at hc; exact hu n hc
      | 1, hc => simp at hc
      | o + 2, hc => simp at hc

end

theorem Bad_any (B b : Nat) (l : List UInt8) (bad : Bool) (w : World) (h : Rdr B w b l bad) :
    Calls Try.prog 79 #[.pointer (some ⟨b, 0, none⟩)] w fun e w' => e = .returned (.bool bad) ∧ w = w' := by
  obtain ⟨v, hb, hr⟩ := h
  have h1 := Rdr.cell1 hb
  clear hb hr
  go_enter Try.func79, Try.ntmps79
  go_wp2
  go_ret
  exact ⟨rfl, rfl⟩

theorem Only.refl (b : Nat) (w : World) : Only b w w := ⟨rfl, rfl, rfl, Nat.le_refl _, fun _ _ _ => rfl⟩

/-- What spoil leaves. -/
theorem Rdr.spoilt {T : TypeId} (B : Nat) {w : World} {b : Nat} {v : Value} {bad : Bool} (hb : w.heap[b]? = some (.cells #[v, .bool bad] T (0, 0))) :
    RdrT T B ((w.setCell ⟨b, 0, none⟩ (.slice none 0 0)).setCell ⟨b, 1, none⟩ (.bool true)) b [] true ∧ Only b w ((w.setCell ⟨b, 0, none⟩ (.slice none 0 0)).setCell ⟨b, 1, none⟩ (.bool true)) := by
  refine ⟨⟨.slice none 0 0, ?_, Rd.nil _, fun k hk => by cases hk⟩, ⟨rfl, rfl, rfl, by simp [World.setCell], fun k _ hk => ?_⟩⟩
  · have hlt : b < w.heap.size := (Array.getElem?_eq_some_iff.1 hb).1
    simp [World.setCell, Array.getElem?_modify, hb]
  · have hne : k ≠ b := fun e => hk (by rw [e])
    rw [Below.heap_setCell _ _ _ _ hne, Below.heap_setCell _ _ _ _ hne]

theorem spoil_any (B b : Nat) (v : Value) (bad : Bool) (w : World) (hb : w.heap[b]? = some (.cells #[v, .bool bad] 87 (0, 0))) :
    Calls Try.prog 93 #[.pointer (some ⟨b, 0, none⟩)] w fun e w' => e = .returned (.tuple #[]) ∧ Rdr B w' b [] true ∧ Only b w w' := by
  have hS := Rdr.spoilt B hb
  have h0 := Rdr.cell0 hb
  have h1 := Rdr.cell1 hb
  have f0 := Rdr.free hb 0
  have f1 := Rdr.free hb 1
  have HS := Lib.hid hS
  clear hb hS
  go_enter Try.func93, Try.ntmps93
  go_wp2
  go_end0
  exact ⟨rfl, HS.out⟩

/-- A bad reader gives 0. -/
theorem RNum_bad (B b : Nat) (l : List UInt8) (w : World) (h : Rdr B w b l true) :
    Calls Try.prog 84 #[.pointer (some ⟨b, 0, none⟩)] w fun e w' => e = .returned (.int .u64 0) ∧ w = w' := by
  go_enter Try.func84, Try.ntmps84
  go_wp2_with fail
  refine (Bad_any B b l true _ h).mono ?_
  rintro e w1 ⟨rfl, rfl⟩
  go_wp2_with fail
  go_ret
  exact ⟨rfl, rfl⟩

theorem front_zero {l : List UInt8} (h : (front l).2 = 0) : front l = (0, 0) := by
  cases l with
  | nil => rfl
  | cons c t =>
    simp only [front] at h ⊢
    split
    · rename_i h1; rw [if_pos h1] at h; simp at h
    · rename_i h1
      rw [if_neg h1] at h
      split
      · rfl
      · rename_i h2
        rw [if_neg h2] at h
        split
        · rfl
        · rename_i h3; rw [if_neg h3] at h; simp at h

/-- No number stands there: the reader turns bad. -/
theorem RNum_no (B b : Nat) (l : List UInt8) (w : World) (h : Rdr B w b l false) (hf : (front l).2 = 0) :
    Calls Try.prog 84 #[.pointer (some ⟨b, 0, none⟩)] w fun e w' => e = .returned (.int .u64 0) ∧ Rdr B w' b [] true ∧ Only b w w' := by
  have hz := front_zero hf
  obtain ⟨v, hb, hr, hB⟩ := id h
  have h0 := Rdr.cell0 hb
  have hfst := first_any v l
  rw [hz] at hfst
  have HF := Lib.hid hfst
  have HB := Lib.hid hb
  have HR := Lib.hid hr
  have HH := Lib.hid h
  clear hfst hb hr hB h hz hf
  go_enter Try.func84, Try.ntmps84
  go_wp2_with fail
  refine (Bad_any B b l false _ HH.out).mono ?_
  rintro e w1 ⟨rfl, rfl⟩
  go_wp2_with fail
  refine (HF.out _ HR.out).mono ?_
  rintro e w1 ⟨rfl, rfl⟩
  go_wp2_with fail
  refine (spoil_any B b v false _ HB.out).mono ?_
  rintro e w1 ⟨rfl, hs⟩
  have HS := Lib.hid hs
  clear hs
  go_wp2_with fail
  go_ret
  exact ⟨rfl, HS.out⟩

theorem front_le {l : List UInt8} {n s : Nat} (h : front l = (n, s)) : s ≤ l.length := by
  by_cases hs : s = 0
  · omega
  · obtain ⟨_, h1, h2⟩ := front_sound l n s h hs
    have := congrArg List.length h2
    rw [List.length_append, List.length_drop] at this
    omega

/-- What is left behind some bytes. -/
theorem Rdr.step {T : TypeId} {B b s cap L : Nat} {w : World} {x : Addr} {l : List UInt8} {bad : Bool} (hb : w.heap[b]? = some (.cells #[.slice (some x) L cap, .bool bad] T (0, 0))) (hL : L = l.length) (h2 : l.length ≤ cap) (h3 : cap ≤ maxLen)
    (h4 : ∀ i u, (l.map bv)[i]? = some u → w.cell? (x.add i) = some u) (hB : B ≤ x.block) (hs : s ≤ l.length) (a' : Addr) (ha : a'.block = x.block) (ha' : s < l.length → ∀ i, a'.add i = x.add (s + i)) :
    RdrT T B (w.setCell ⟨b, 0, none⟩ (.slice (some a') (L - s) (cap - s))) b (l.drop s) bad ∧ Only b w (w.setCell ⟨b, 0, none⟩ (.slice (some a') (L - s) (cap - s))) := by
  have ho : Only b w (w.setCell ⟨b, 0, none⟩ (.slice (some a') (L - s) (cap - s))) := ⟨rfl, rfl, rfl, by simp [World.setCell], fun k _ hk => by
    have hne : k ≠ b := fun e => hk (by rw [e])
    rw [Below.heap_setCell _ _ _ _ hne]⟩
  refine ⟨⟨.slice (some a') (L - s) (cap - s), ?_, Rd.apart hb (fun n hn => by cases hn) (.inr ⟨a', cap - s, by rw [List.length_map, List.length_drop, hL], by rw [List.length_map, List.length_drop]; omega, by omega, fun i u hu => ?_⟩) ho, fun k hk => ?_⟩, ho⟩
  · simp [World.setCell, Array.getElem?_modify, hb]
  · have hi : i < (l.drop s).length := by
      have := (List.getElem?_eq_some_iff.1 hu).1
      simpa using this
    rw [List.length_drop] at hi
    rw [ha' (by omega)]
    refine h4 (s + i) u ?_
    rw [List.map_drop, List.getElem?_drop] at hu
    exact hu
  · cases hk; rw [ha]; exact hB

theorem add_add (b off s i : Nat) : (⟨b, off + s, none⟩ : Addr).add i = (⟨b, off, none⟩ : Addr).add (s + i) := by rw [add_at, add_at, Nat.add_assoc]

set_option maxHeartbeats 400000 in
/-- A number stands there: it is taken. -/
theorem RNum_yes (B b : Nat) (l : List UInt8) (n s : Nat) (w : World) (h : Rdr B w b l false) (hf : front l = (n, s)) (hs : s ≠ 0) :
    Calls Try.prog 84 #[.pointer (some ⟨b, 0, none⟩)] w fun e w' => e = .returned (.int .u64 n) ∧ Rdr B w' b (l.drop s) false ∧ Only b w w' := by
  obtain ⟨v, hb, hr, hB⟩ := id h
  have hle := front_le hf
  have hfst := first_any v l
  rw [hf] at hfst
  rcases id hr with ⟨rfl, h1⟩ | ⟨x, cap, rfl, h2, h3, h4⟩
  · have : l = [] := by simpa using h1
    subst this
    simp [front] at hf
    omega
  · rw [List.length_map] at h2 hb hr hfst
    obtain ⟨c, t, rfl⟩ : ∃ c t, l = c :: t := by
      cases l with
      | nil => simp [front] at hf; omega
      | cons c t => exact ⟨c, t, rfl⟩
    have hc0 := h4 0 (bv c) (by simp)
    rw [add_zero] at hc0
    obtain ⟨bb, off, rfl, _⟩ := plain_of hc0
    obtain ⟨L, hL⟩ : ∃ L, L = (c :: t).length := ⟨_, rfl⟩
    rw [← hL] at h2 hb hr hfst hle
    have hBb : B ≤ bb := hB bb rfl
    have hstep := fun a' ha ha' => Rdr.step (s := s) hb hL (by omega) h3 h4 hBb (by omega) a' ha ha'
    have h0 := Rdr.cell0 hb
    have f0 := Rdr.free hb 0
    unfold maxLen at h3
    have HF := Lib.hid hfst
    have HR := Lib.hid hr
    have HH := Lib.hid h
    have HS := Lib.hid hstep
    have HL := Lib.hid hL
    have hs0 : ((s : Int) == 0) = false := by rw [beq_eq_false_iff_ne]; omega
    clear hfst hb hr hB h hf hc0 hstep h4 hL
    go_enter Try.func84, Try.ntmps84
    go_wp2_with fail
    refine (Bad_any B b (c :: t) false _ HH.out).mono ?_
    rintro e w1 ⟨rfl, rfl⟩
    go_wp2_with fail
    refine (HF.out _ HR.out).mono ?_
    rintro e w1 ⟨rfl, rfl⟩
    by_cases hcs : cap = s
    · subst hcs
      have HS' := Lib.hid (HS.out ⟨bb, off, none⟩ rfl (fun hh => absurd hh (by rw [← HL.out]; omega)))
      rw [Nat.sub_self, show L - cap = 0 by omega] at HS'
      go_wp2
      go_ret
      exact ⟨rfl, HS'.out⟩
    · go_wp2
      go_ret
      exact ⟨rfl, HS.out ⟨bb, off + s, none⟩ rfl (fun _ i => add_add bb off s i)⟩

theorem unfold_any (u : Nat) (w : World) (h : u ≤ 18446744073709551615) :
    Calls Try.prog 83 #[.int .u64 u] w fun e w' => e = .returned (.int .i64 (zag u)) ∧ w = w' := by
  have hand : bits BinOp.and IntKind.u64 (u : Int) 1 = ((u % 2 : Nat) : Int) := by
    have := u64_and u 1 (by omega) (by omega)
    rw [Nat.and_one_is_mod] at this
    exact this
  by_cases h2 : u % 2 = 1
  · have hz : zag u = -1 - (u / 2 : Nat) := if_pos h2
    rw [h2] at hand
    rw [hz]
    clear h2 hz
    go_enter Try.func83, Try.ntmps83
    go_wp2
    go_ret
    exact ⟨rfl, rfl⟩
  · have hz : zag u = (u / 2 : Nat) := if_neg h2
    rw [show u % 2 = 0 by omega] at hand
    rw [hz]
    clear h2 hz
    go_enter Try.func83, Try.ntmps83
    go_wp2
    go_ret
    exact ⟨rfl, rfl⟩

theorem RInt_bad (B b : Nat) (l : List UInt8) (w : World) (h : Rdr B w b l true) :
    Calls Try.prog 58 #[.pointer (some ⟨b, 0, none⟩)] w fun e w' => e = .returned (.int .i64 0) ∧ w = w' := by
  go_enter Try.func58, Try.ntmps58
  go_wp2_with fail
  refine (RNum_bad B b l _ h).mono ?_
  rintro e w1 ⟨rfl, rfl⟩
  go_wp2_with fail
  refine (unfold_any 0 _ (by omega)).mono ?_
  rintro e w1 ⟨rfl, rfl⟩
  go_wp2_with fail
  go_ret
  exact ⟨rfl, rfl⟩
theorem RInt_no (B b : Nat) (l : List UInt8) (w : World) (h : Rdr B w b l false) (hf : (front l).2 = 0) :
    Calls Try.prog 58 #[.pointer (some ⟨b, 0, none⟩)] w fun e w' => e = .returned (.int .i64 0) ∧ Rdr B w' b [] true ∧ Only b w w' := by
  go_enter Try.func58, Try.ntmps58
  go_wp2_with fail
  refine (RNum_no B b l _ h hf).mono ?_
  rintro e w1 ⟨rfl, hs⟩
  have HS := Lib.hid hs
  clear hs
  go_wp2_with fail
  refine (unfold_any 0 _ (by omega)).mono ?_
  rintro e w1 ⟨rfl, rfl⟩
  go_wp2_with fail
  go_ret
  exact ⟨rfl, HS.out⟩
theorem RInt_yes (B b : Nat) (l : List UInt8) (n s : Nat) (w : World) (h : Rdr B w b l false) (hf : front l = (n, s)) (hs : s ≠ 0) :
    Calls Try.prog 58 #[.pointer (some ⟨b, 0, none⟩)] w fun e w' => e = .returned (.int .i64 (zag n)) ∧ Rdr B w' b (l.drop s) false ∧ Only b w w' := by
  have hn := (front_sound l n s hf hs).1
  go_enter Try.func58, Try.ntmps58
  go_wp2_with fail
  refine (RNum_yes B b l n s _ h hf hs).mono ?_
  rintro e w1 ⟨rfl, hs⟩
  have HS := Lib.hid hs
  clear hs
  go_wp2_with fail
  refine (unfold_any n _ (by omega)).mono ?_
  rintro e w1 ⟨rfl, rfl⟩
  go_wp2_with fail
  go_ret
  exact ⟨rfl, HS.out⟩

theorem Left_bad (B b : Nat) (l : List UInt8) (w : World) (h : Rdr B w b l true) :
    Calls Try.prog 81 #[.pointer (some ⟨b, 0, none⟩)] w fun e w' => e = .returned (.int .i64 0) ∧ w = w' := by
  go_enter Try.func81, Try.ntmps81
  go_wp2_with fail
  refine (Bad_any B b l true _ h).mono ?_
  rintro e w1 ⟨rfl, rfl⟩
  go_wp2_with fail
  go_ret
  exact ⟨rfl, rfl⟩
theorem Left_any (B b : Nat) (l : List UInt8) (w : World) (h : Rdr B w b l false) :
    Calls Try.prog 81 #[.pointer (some ⟨b, 0, none⟩)] w fun e w' => e = .returned (.int .i64 l.length) ∧ w = w' := by
  obtain ⟨v, hb, hr, _⟩ := id h
  obtain ⟨a, cap, rfl, _, _⟩ := hr.shape
  have h0 := Rdr.cell0 hb
  clear hb hr
  go_enter Try.func81, Try.ntmps81
  go_wp2_with fail
  refine (Bad_any B b l false _ h).mono ?_
  rintro e w1 ⟨rfl, rfl⟩
  go_wp2_with fail
  go_ret
  exact ⟨rfl, rfl⟩
theorem End_bad (B b : Nat) (l : List UInt8) (w : World) (h : Rdr B w b l true) :
    Calls Try.prog 59 #[.pointer (some ⟨b, 0, none⟩)] w fun e w' => e = .returned (.int .i64 6) ∧ w = w' := by
  go_enter Try.func59, Try.ntmps59
  go_wp2_with fail
  refine (Bad_any B b l true _ h).mono ?_
  rintro e w1 ⟨rfl, rfl⟩
  go_wp2_with fail
  go_ret
  exact ⟨rfl, rfl⟩
theorem End_any (B b : Nat) (l : List UInt8) (w : World) (h : Rdr B w b l false) :
    Calls Try.prog 59 #[.pointer (some ⟨b, 0, none⟩)] w fun e w' => e = .returned (.int .i64 (if l.length = 0 then 0 else 6)) ∧ w = w' := by
  by_cases hl : l.length = 0
  · rw [if_pos hl]
    have hlt : decide (0 < l.length) = false := decide_eq_false (by omega)
    have hnp : ¬ (0 < l.length) := by omega
    clear hl
    go_enter Try.func59, Try.ntmps59
    go_wp2_with fail
    refine (Bad_any B b l false _ h).mono ?_
    rintro e w1 ⟨rfl, rfl⟩
    go_wp2_with fail
    refine (Left_any B b l _ h).mono ?_
    rintro e w1 ⟨rfl, rfl⟩
    go_wp2_with fail
    go_ret
    exact ⟨rfl, rfl⟩
  · rw [if_neg hl]
    have hlt : decide (0 < l.length) = true := decide_eq_true (by omega)
    have hp : 0 < l.length := by omega
    clear hl
    go_enter Try.func59, Try.ntmps59
    go_wp2_with fail
    refine (Bad_any B b l false _ h).mono ?_
    rintro e w1 ⟨rfl, rfl⟩
    go_wp2_with fail
    refine (Left_any B b l _ h).mono ?_
    rintro e w1 ⟨rfl, rfl⟩
    go_wp2_with fail
    go_ret
    exact ⟨rfl, rfl⟩

theorem RText_bad (B b : Nat) (l : List UInt8) (w : World) (h : Rdr B w b l true) :
    Calls Try.prog 78 #[.pointer (some ⟨b, 0, none⟩)] w fun e w' => e = .returned (.string ⟨#[]⟩) ∧ w = w' := by
  go_enter Try.func78, Try.ntmps78
  go_wp2_with fail
  refine (RNum_bad B b l _ h).mono ?_
  rintro e w1 ⟨rfl, rfl⟩
  go_wp2_with fail
  refine (Bad_any B b l true _ h).mono ?_
  rintro e w1 ⟨rfl, rfl⟩
  go_wp2_with fail
  go_ret
  exact ⟨rfl, rfl⟩
theorem RText_no (B b : Nat) (l : List UInt8) (w : World) (h : Rdr B w b l false) (hf : (front l).2 = 0) :
    Calls Try.prog 78 #[.pointer (some ⟨b, 0, none⟩)] w fun e w' => e = .returned (.string ⟨#[]⟩) ∧ Rdr B w' b [] true ∧ Only b w w' := by
  go_enter Try.func78, Try.ntmps78
  go_wp2_with fail
  refine (RNum_no B b l _ h hf).mono ?_
  rintro e w1 ⟨rfl, hr, ho⟩
  have HR := Lib.hid hr
  have HO := Lib.hid ho
  clear hr ho
  go_wp2_with fail
  refine (Bad_any B b [] true _ HR.out).mono ?_
  rintro e w1 ⟨rfl, rfl⟩
  go_wp2_with fail
  go_ret
  exact ⟨rfl, HR.out, HO.out⟩

theorem Only.trans {b : Nat} {x y z : World} (h : Only b x y) (k : Only b y z) : Only b x z :=
  ⟨k.os.trans h.os, k.tape.trans h.tape, k.output.trans h.output, Nat.le_trans h.size k.size, fun i hi hne => (k.block i (Nat.lt_of_lt_of_le hi h.size) hne).trans (h.block i hi hne)⟩

set_option maxRecDepth 100000 in
set_option maxHeartbeats 400000 in
/-- A length that is too great. -/
theorem RText_long (B b : Nat) (l l1 : List UInt8) (n s : Nat) (w : World) (h : Rdr B w b l false) (hf : front l = (n, s)) (hs : s ≠ 0) (hl1 : l1 = l.drop s) (hn : 1024 < n ∨ l1.length < n) :
    Calls Try.prog 78 #[.pointer (some ⟨b, 0, none⟩)] w fun e w' => e = .returned (.string ⟨#[]⟩) ∧ Rdr B w' b [] true ∧ Only b w w' := by
  have hn64 := (front_sound l n s hf hs).1
  have hnum := RNum_yes B b l n s w h hf hs
  rw [← hl1] at hnum
  have HNUM := Lib.hid hnum
  clear hnum hf hl1 h
  go_enter Try.func78, Try.ntmps78
  go_wp2_with fail
  refine HNUM.out.mono ?_
  rintro e w1 ⟨rfl, hr, ho⟩
  have HR := Lib.hid hr
  have HO := Lib.hid ho
  obtain ⟨v1, hb1, hr1, _⟩ := hr
  obtain ⟨a, cap, rfl, hcap, hmax⟩ := hr1.shape
  have h0 := Rdr.cell0 hb1
  have HB := Lib.hid hb1
  clear hr1 ho hb1
  unfold maxLen at hmax
  by_cases hbig : 1024 < n
  · have hd : decide ((1024 : Int) < n) = true := decide_eq_true (by omega)
    go_wp2_with fail
    refine (Bad_any B b l1 false _ HR.out).mono ?_
    rintro e w2 ⟨rfl, rfl⟩
    go_wp2_with fail
    refine (spoil_any B b _ false _ HB.out).mono ?_
    rintro e w2 ⟨rfl, hr2, ho2⟩
    have HR2 := Lib.hid hr2
    have HO2 := Lib.hid ho2
    clear hr2 ho2
    go_wp2_with fail
    go_ret
    exact ⟨rfl, HR2.out, HO.out.trans HO2.out⟩
  · have hd : decide ((1024 : Int) < n) = false := decide_eq_false (by omega)
    have hln : l1.length < n := by omega
    have hd2 : decide (l1.length < n) = true := decide_eq_true hln
    go_wp2_with fail
    refine (Bad_any B b l1 false _ HR.out).mono ?_
    rintro e w2 ⟨rfl, rfl⟩
    go_wp2_with fail
    refine (spoil_any B b _ false _ HB.out).mono ?_
    rintro e w2 ⟨rfl, hr2, ho2⟩
    have HR2 := Lib.hid hr2
    have HO2 := Lib.hid ho2
    clear hr2 ho2
    go_wp2_with fail
    go_ret
    exact ⟨rfl, HR2.out, HO.out.trans HO2.out⟩

theorem add_more (x : Addr) (n i : Nat) : (x.add n).add i = x.add (n + i) := by
  unfold Addr.add
  by_cases hn : n = 0
  · subst hn; simp
  · by_cases hi : i = 0
    · subst hi; simp [hn]
    · simp [hn, hi, Nat.add_assoc]

theorem Rdr.emptied {T : TypeId} (B : Nat) {w : World} {b : Nat} {v : Value} {bad : Bool} (hb : w.heap[b]? = some (.cells #[v, .bool bad] T (0, 0))) :
    RdrT T B (w.setCell ⟨b, 0, none⟩ (.slice none 0 0)) b [] bad ∧ Only b w (w.setCell ⟨b, 0, none⟩ (.slice none 0 0)) := by
  refine ⟨⟨.slice none 0 0, ?_, Rd.nil _, fun k hk => by cases hk⟩, ⟨rfl, rfl, rfl, by simp [World.setCell], fun k _ hk => ?_⟩⟩
  · simp [World.setCell, Array.getElem?_modify, hb]
  · have hne : k ≠ b := fun e => hk (by rw [e])
    rw [Below.heap_setCell _ _ _ _ hne]

set_option maxRecDepth 100000 in
set_option maxHeartbeats 400000 in
/-- A text stands there. -/
theorem RText_yes (B b : Nat) (l l1 : List UInt8) (n s : Nat) (w : World) (h : Rdr B w b l false) (hf : front l = (n, s)) (hs : s ≠ 0) (hl1 : l1 = l.drop s) (hn : n ≤ 1024) (hn2 : n ≤ l1.length) :
    Calls Try.prog 78 #[.pointer (some ⟨b, 0, none⟩)] w fun e w' => e = .returned (.string ⟨(l1.take n).toArray⟩) ∧ Rdr B w' b (l1.drop n) false ∧ Only b w w' := by
  have hnum := RNum_yes B b l n s w h hf hs
  rw [← hl1] at hnum
  have HNUM := Lib.hid hnum
  clear hnum hf hl1 h
  have hd : decide ((1024 : Int) < n) = false := decide_eq_false (by omega)
  have hd2 : decide (l1.length < n) = false := decide_eq_false (by omega)
  go_enter Try.func78, Try.ntmps78
  go_wp2_with fail
  refine HNUM.out.mono ?_
  rintro e w1 ⟨rfl, hr, ho⟩
  have HR := Lib.hid hr
  have HO := Lib.hid ho
  obtain ⟨v1, hb1, hr1, hB1⟩ := hr
  rcases hr1 with ⟨rfl, h1⟩ | ⟨x, cap, rfl, h2, h3, h4⟩
  · have hl0 : l1 = [] := by simpa using h1
    subst hl0
    obtain rfl : n = 0 := by simpa using hn2
    have h0 := Rdr.cell0 hb1
    have hcv : ∀ W : World, (convert 33 9 (.slice none 0 0)).run Try.prog W = .ok (.string ⟨#[]⟩) W := fun W => (Rd.nil W).string _ _ _ Try.underlying33 Try.underlying5 Try.underlying9
    have f0 := Rdr.free hb1 0
    have HB := Lib.hid hb1
    clear ho hb1 hB1
    go_wp2_with fail
    refine (Bad_any B b [] false _ HR.out).mono ?_
    rintro e w2 ⟨rfl, rfl⟩
    go_wp2_with fail
    go_ret
    exact ⟨rfl, (Rdr.emptied B HB.out).1, HO.out.trans (Rdr.emptied B HB.out).2⟩
  · rw [List.length_map] at h2 hb1
    have hbB : B ≤ x.block := hB1 _ rfl
    have hstep := fun a' ha ha' => Rdr.step (s := n) hb1 rfl h2 h3 h4 hbB hn2 a' ha ha'
    have htake := RdV.takes (x := x) (xs := l1.map bv) (by rw [List.length_map]; exact h2) h3 h4 n n (by rw [List.length_map]; omega)
    rw [← List.map_take] at htake
    have hcv := Rd.string (P := Try.prog) htake 33 9 5 Try.underlying33 Try.underlying5 Try.underlying9
    have h0 := Rdr.cell0 hb1
    have f0 := Rdr.free hb1 0
    have HB := Lib.hid hb1
    have HS := Lib.hid hstep
    unfold maxLen at h3
    clear ho hb1 hB1 h4 htake hstep
    by_cases hcs : cap = n
    · subst hcs
      have HS' := Lib.hid (HS.out x rfl (fun hh => by omega))
      rw [Nat.sub_self, show l1.length - cap = 0 by omega] at HS'
      go_wp2_with fail
      refine (Bad_any B b l1 false _ HR.out).mono ?_
      rintro e w2 ⟨rfl, rfl⟩
      go_wp2_with fail
      go_ret
      exact ⟨rfl, HS'.out.1, HO.out.trans HS'.out.2⟩
    · have HS' := Lib.hid (HS.out (x.add n) (add_block x n) (fun _ i => add_more x n i))
      go_wp2_with fail
      refine (Bad_any B b l1 false _ HR.out).mono ?_
      rintro e w2 ⟨rfl, rfl⟩
      go_wp2_with fail
      go_ret
      exact ⟨rfl, HS'.out.1, HO.out.trans HS'.out.2⟩

/-! ### A new reader -/

set_option maxHeartbeats 400000 in
theorem clone_nil (w : World) : Calls Try.prog 82 #[.slice none 0 0] w (Fresh 5 w []) := by
  have hq := fun W : World => Lib.run_eql_slice_nil (P := Try.prog) W
  go_enter Try.func82, Try.ntmps82
  go_wp2
  go_ret
  exact ⟨_, rfl, World.ownsRow_nil _ _ _ _, Below.refl _ _⟩

set_option maxHeartbeats 400000 in
theorem clone_some (x : Addr) (L cap : Nat) (xs : List Value) (w : World) (hL : xs.length = L) (hc : ∀ i u, xs[i]? = some u → w.cell? (x.add i) = some u)
    (h1c : ∀ u ∈ xs, u.oneCell' = true) (h1 : L ≤ 140737488355328) : Calls Try.prog 82 #[.slice (some x) L cap] w (Fresh 5 w xs) := by
  have hq := fun W : World => Lib.run_eql_slice_nil (P := Try.prog) W
  obtain ⟨i0, hi, hz0, hz1, hz2⟩ := info_parts Try.info5
  have hown : (w.alloc (.cells #[] 5)).ownsRow w.heap.size 5 1 (.slice (some ⟨w.heap.size, 0, none⟩) 0 0) 0 [] := World.ownsRow_made w #[] 0 (Nat.le_refl _) (by simp [maxLen]) rfl
  have HL := Lib.hid hL
  have HC := Lib.hid (fun i u hu => (World.grownBy_alloc w (.cells #[] 5) none).cell (hc i u hu) (by simp))
  have H1 := Lib.hid h1c
  have HO := Lib.hid hown
  clear hL hc h1c hown
  go_enter Try.func82, Try.ntmps82
  go_wp2_with (at_builtin; go_loud (refine wpList_append_own _ rfl _ _ 33 rfl w.heap.size 5 i0 (.int .u8 0) 1 1 Try.underlying33 hi hz0 hz1 hz2 rfl (by decide) _ _ _ rfl HO.out x L cap xs rfl (by rw [HL.out, Nat.mul_one]) HC.out H1.out (by unfold maxLen; omega) (by omega) (by simp) ?_); intro v2 w2 hown2 hgrow2 _)
  go_ret
  refine ⟨_, rfl, ?_, ((Below.refl _ _).alloc (Nat.le_refl _) _).grown hgrow2 (by simp) ?_⟩
  · rw [HL.out]; simpa using hown2
  · intro k hk; cases hk; exact Nat.le_refl _

theorem clone_any (v : Value) (l : List UInt8) (w : World) (hr : Rd w v l) (h1 : l.length ≤ 140737488355328) : Calls Try.prog 82 #[v] w (Fresh 5 w (l.map bv)) := by
  rcases hr with ⟨rfl, h2⟩ | ⟨x, cap, rfl, h2, h3, h4⟩
  · rw [h2]; exact clone_nil w
  · exact clone_some x _ cap _ w rfl h4 (bv_oneCell l) (by rw [List.length_map]; exact h1)

/-- A call that makes a reader. -/
def Made (w : World) (l : List UInt8) (r : Ending) (w' : World) : Prop := ∃ b, r = .returned (.pointer (some ⟨b, 0, none⟩)) ∧ w.heap.size ≤ b ∧ Rdr w.heap.size w' b l false ∧ Below w.heap.size w w'

theorem New_any (v : Value) (l : List UInt8) (w : World) (hr : Rd w v l) (h1 : l.length ≤ 140737488355328) : Calls Try.prog 57 #[v] w (Made w l) := by
  go_enter Try.func57, Try.ntmps57
  go_wp2_with fail
  refine (clone_any v l _ hr h1).mono ?_
  rintro e w1 ⟨v1, rfl, hown1, hb1⟩
  have hr1 : Rd w1 v1 l := RdV.of_owns hown1
  obtain ⟨a1, cap1, rfl, _, _⟩ := hr1.shape
  go_wp2_with fail
  go_ret
  refine ⟨_, rfl, hb1.size, ⟨_, heap_alloc_new w1 _, Rd.mono hr1 ((Below.refl _ _).alloc (Nat.le_refl _) _), fun k hk => (hown1.lt k hk).1⟩, hb1.alloc hb1.size _⟩

end Go.Proofs.Ytlbilmmjcfiokaa
