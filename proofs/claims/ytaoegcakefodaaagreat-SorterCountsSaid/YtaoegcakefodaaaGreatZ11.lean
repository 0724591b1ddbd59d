/-
  Texts of this proof, merged.
-/
import Derived.Test.YtaoegcakefodaaaGreatZ1
import Derived.Test.YtaoegcakefodaaaGreatZ2
import Derived.Test.YtaoegcakefodaaaGreatZ3
import Derived.Test.YtaoegcakefodaaaGreatZ4
import Derived.Test.YtaoegcakefodaaaGreatZ5
import Derived.Test.YtaoegcakefodaaaGreatZ9
import Derived.Test.YtaoegcakefodaaaGreatZ10
namespace Go.Proofs.YtaoegcakefodaaaGreat
open Go.RowKit Go.BigFrame
set_option maxRecDepth 100000 in
set_option maxHeartbeats 1000000 in
theorem first_empty (x : Option Addr) (cap : Nat) (w : World) :
    Calls Tryz.prog 171 #[.slice x 0 cap] w fun e w' => e = .returned (.tuple #[.int .u64 0, .int .i64 0]) ∧ w = w' := by
  go_enter Tryz.func171, Tryz.ntmps171
  go_wp2
  go_ret2
  exact ⟨rfl, rfl⟩
set_option maxRecDepth 100000 in
set_option maxHeartbeats 1000000 in
theorem first_small (b off L cap : Nat) (c : Nat) (w : World) (hL : 0 < L) (hm : L ≤ 9223372036854775807) (hc : w.cell? ⟨b, off, none⟩ = some (.int .u8 c)) (h : c < 248) :
    Calls Tryz.prog 171 #[.slice (some ⟨b, off, none⟩) L cap] w fun e w' => e = .returned (.tuple #[.int .u64 c, .int .i64 1]) ∧ w = w' := by
  have hne : ((L : Int) == 0) = false := by rw [beq_eq_false_iff_ne]; omega
  go_enter Tryz.func171, Tryz.ntmps171
  go_wp2
  go_ret2
  exact ⟨rfl, rfl⟩
set_option maxRecDepth 100000 in
set_option maxHeartbeats 1000000 in
theorem first_short (b off L cap : Nat) (c : Nat) (w : World) (hL : 0 < L) (hm : L ≤ 9223372036854775807) (hc : w.cell? ⟨b, off, none⟩ = some (.int .u8 c)) (h : 248 ≤ c) (h2 : c ≤ 255) (hs : L < c - 246) :
    Calls Tryz.prog 171 #[.slice (some ⟨b, off, none⟩) L cap] w fun e w' => e = .returned (.tuple #[.int .u64 0, .int .i64 0]) ∧ w = w' := by
  have hne : ((L : Int) == 0) = false := by rw [beq_eq_false_iff_ne]; omega
  go_enter Tryz.func171, Tryz.ntmps171
  go_wp2
  go_ret2
  exact ⟨rfl, rfl⟩
theorem val_take_snoc (t : List UInt8) (k : Nat) (h : k < t.length) : val (t.take (k + 1)) = val (t.take k) * 256 + t[k].toNat := by
  rw [List.take_succ_eq_append_getElem h, val_snoc]
def longV (c : Nat) (t : List UInt8) : Value := if val t < 248 ∨ (1 < c - 247 ∧ t.head? = some 0) then .tuple #[.int .u64 0, .int .i64 0] else .tuple #[.int .u64 (val t), .int .i64 (1 + (c : Int) - 247)]
theorem longV_no {c : Nat} {t : List UInt8} (h : val t < 248 ∨ (1 < c - 247 ∧ t.head? = some 0)) : longV c t = .tuple #[.int .u64 0, .int .i64 0] := if_pos h
theorem longV_yes {c : Nat} {t : List UInt8} (h : ¬ (val t < 248 ∨ (1 < c - 247 ∧ t.head? = some 0))) : longV c t = .tuple #[.int .u64 (val t), .int .i64 (1 + (c : Int) - 247)] := if_neg h
set_option maxRecDepth 100000 in
set_option maxHeartbeats 1000000 in
theorem first_long (b off L cap : Nat) (c : Nat) (t : List UInt8) (w : World) (hLc : L ≤ cap) (_hm : cap ≤ 9223372036854775807) (hc : w.cell? ⟨b, off, none⟩ = some (.int .u8 c))
    (ht : ∀ i, (hi : i < t.length) → w.cell? ⟨b, off + 1 + i, none⟩ = some (bv t[i])) (h : 248 ≤ c) (h2 : c ≤ 255) (hl : t.length = c - 247) (hs : c - 246 ≤ L) :
    Calls Tryz.prog 171 #[.slice (some ⟨b, off, none⟩) L cap] w fun e w' => e = .returned (longV c t) ∧ w = w' := by
  have hne : ((L : Int) == 0) = false := by rw [beq_eq_false_iff_ne]; omega
  have hcl : decide ((c : Int) < 248) = false := decide_eq_false (by omega)
  have hsh : decide ((L : Int) < 1 + c - 247) = false := decide_eq_false (by omega)
  have HT := Lib.hid ht
  have HL := Lib.hid hl
  clear ht hl
  go_enter Tryz.func171, Tryz.ntmps171
  go_wp2
  go_loop [5, 33] (fun n i => ∃ k : Nat, k ≤ t.length ∧ i = .int .i64 k ∧ n = .int .u64 (val (t.take k))) (fun _ i => t.length - (intOf i).toNat)
  case atStart => exact ⟨0, Nat.zero_le _, rfl, rfl⟩
  case round =>
    obtain ⟨k, hk, rfl, rfl⟩ := hrel
    by_cases hlt : k < t.length
    · have hcell := HT.out k hlt
      have hv7 : val (t.take k) ≤ 72057594037927935 := by
        have h1 := val_lt (t.take k)
        have h3 := HL.out
        have h4 := Nat.pow_le_pow_right (show 0 < 256 by decide) (show (t.take k).length ≤ 7 by rw [List.length_take]; omega)
        have h5 : (256 : Nat) ^ 7 = 72057594037927936 := by decide
        omega
      have hc8 := t[k].toNat_lt
      unfold bv at hcell
      have hkc : (k : Int) < ((1 + c - 247 - 1 : Nat) : Int) := by have h3 := HL.out; omega
      go_wp2
      go_round
      case rel =>
        refine ⟨k + 1, by omega, by go_num, ?_⟩
        have e := val_take_snoc t k hlt
        have e2 := u64_or_low (val (t.take k) : Int) (t[k].toNat : Int) 8 (by omega) (by omega) (by omega) (by omega)
        rw [e, Int.natCast_add, Int.natCast_mul]
        exact congrArg (Value.int IntKind.u64) e2
      case measure => simp [intOf]; omega
    · have e : t.take k = t := List.take_of_length_le (by omega)
      have hge : 1 + c - 247 - 1 ≤ k := by have h3 := HL.out; omega
      have hvt := val_lt t
      have hv64 : val t ≤ 18446744073709551615 := by
        have h3 := HL.out
        have h4 := Nat.pow_le_pow_right (show 0 < 256 by decide) (show t.length ≤ 8 by omega)
        have h5 : (256 : Nat) ^ 8 = 18446744073709551616 := by decide
        omega
      clear hvt
      rw [e]
      clear e
      by_cases h248 : val t < 248
      · have hd : decide ((val t : Int) < 248) = true := decide_eq_true (by omega)
        go_wp2
        go_ret2
        exact ⟨by rw [longV_no (.inl h248)]; rfl, rfl⟩
      · have hd : decide ((val t : Int) < 248) = false := decide_eq_false (by omega)
        by_cases h1 : 1 < c - 247
        · have hd2 : decide ((2 : Int) < 1 + c - 247) = true := decide_eq_true (by omega)
          have h0 : 0 < t.length := by have h3 := HL.out; omega
          have hcell := HT.out 0 h0
          unfold bv at hcell
          rw [Nat.add_zero] at hcell
          by_cases hz : t[0] = 0
          · have hz' : t[0].toNat = 0 := by rw [hz]; rfl
            rw [hz'] at hcell
            have HZ := Lib.hid hz
            clear hz hz'
            go_wp2
            go_ret2
            refine ⟨?_, rfl⟩
            rw [longV_no (.inr ⟨h1, by rw [List.head?_eq_getElem?, List.getElem?_eq_getElem h0, HZ.out]⟩)]
            rfl
          · have hz' : t[0].toNat ≠ 0 := fun h => hz (UInt8.toNat_inj.1 (by rw [h]; rfl))
            have hd3 : ((t[0].toNat : Int) == 0) = false := by rw [beq_eq_false_iff_ne]; omega
            go_wp2
            go_ret2
            refine ⟨?_, rfl⟩
            rw [longV_yes (by
              rintro (h' | ⟨_, h'⟩)
              · exact h248 h'
              · rw [List.head?_eq_getElem?, List.getElem?_eq_getElem h0, Option.some.injEq] at h'
                exact hz h')]
            rfl
        · have hd2 : decide ((2 : Int) < 1 + c - 247) = false := decide_eq_false (by omega)
          go_wp2
          go_ret2
          refine ⟨?_, rfl⟩
          rw [longV_yes (by rintro (h' | ⟨h', _⟩) <;> omega)]
          rfl
theorem first_any (v : Value) (l : List UInt8) (w : World) (hr : Rd w v l) :
    Calls Tryz.prog 171 #[v] w fun e w' => e = .returned (.tuple #[.int .u64 (front l).1, .int .i64 (front l).2]) ∧ w = w' := by
  rcases hr with ⟨rfl, h1⟩ | ⟨x, cap, rfl, h2, h3, h4⟩
  · have : l = [] := by simpa using h1
    subst this
    exact first_empty none 0 w
  · unfold maxLen at h3
    rw [List.length_map] at h2 ⊢
    cases l with
    | nil => exact first_empty (some x) cap w
    | cons c t =>
      have hc0 := h4 0 (bv c) (by simp)
      rw [add_zero] at hc0
      obtain ⟨b, off, rfl, _⟩ := plain_of hc0
      have hcb := c.toNat_lt
      have hlen : (c :: t).length = t.length + 1 := rfl
      by_cases hs : c.toNat < 248
      · have : front (c :: t) = (c.toNat, 1) := by simp only [front]; rw [if_pos hs]
        rw [this]
        exact first_small b off _ cap c.toNat w (by omega) (by omega) hc0 hs
      · by_cases hsh : t.length < c.toNat - 247
        · have : front (c :: t) = (0, 0) := by simp only [front]; rw [if_neg hs, if_pos hsh]
          rw [this]
          exact first_short b off _ cap c.toNat w (by omega) (by omega) hc0 (by omega) (by omega) (by omega)
        · have hlt : (t.take (c.toNat - 247)).length = c.toNat - 247 := by rw [List.length_take]; omega
          refine (first_long b off _ cap c.toNat (t.take (c.toNat - 247)) w h2 (by omega) hc0 (fun i hi => ?_) (by omega) (by omega) hlt (by omega)).mono ?_
          · have hi' : i < t.length := by omega
            have := h4 (i + 1) (bv t[i]) (by simp only [List.map_cons, List.getElem?_cons_succ, List.getElem?_map, List.getElem?_eq_getElem hi', Option.map_some])
            rw [add_at] at this
            rw [List.getElem_take, Nat.add_assoc, Nat.add_comm 1 i]
            exact this
          · rintro e w' ⟨rfl, rfl⟩
            refine ⟨?_, rfl⟩
            have hh : (t.take (c.toNat - 247)).head? = t.head? := by
              rw [List.head?_take, if_neg (by omega)]
            unfold longV
            rw [hh]
            simp only [front]
            rw [if_neg hs, if_neg hsh]
            split
            · rfl
            · have e : (1 + (c.toNat : Int) - 247) = ((1 + (c.toNat - 247) : Nat) : Int) := by omega
              rw [e]
def RdrT (T : TypeId) (B : Nat) (w : World) (b : Nat) (l : List UInt8) (bad : Bool) : Prop :=
  ∃ v, w.heap[b]? = some (.cells #[v, .bool bad] T (0, 0)) ∧ Rd w v l ∧ ∀ k, v.ownBlock = some k → B ≤ k
abbrev Rdr (B : Nat) (w : World) (b : Nat) (l : List UInt8) (bad : Bool) : Prop := RdrT 199 B w b l bad
def Only (b : Nat) (w w' : World) : Prop := w.grownBy w' (some b)
section
variable {T : TypeId}
theorem Rdr.cell0 {w : World} {b : Nat} {v : Value} {bad : Bool} (h : w.heap[b]? = some (.cells #[v, .bool bad] T (0, 0))) : w.cell? ⟨b, 0, none⟩ = some v := by
  simp [World.cell?, h]
theorem Rdr.cell1 {w : World} {b : Nat} {v : Value} {bad : Bool} (h : w.heap[b]? = some (.cells #[v, .bool bad] T (0, 0))) : w.cell? ⟨b, 1, none⟩ = some (.bool bad) := by
  simp [World.cell?, h]
theorem Rdr.free {w : World} {b : Nat} {v : Value} {bad : Bool} (h : w.heap[b]? = some (.cells #[v, .bool bad] T (0, 0))) (i : Nat) : w.frozen? ⟨b, i, none⟩ = false := by
  simp [World.frozen?, h]
theorem Rd.apart {w : World} {b : Nat} {u v : Value} {bad : Bool} {l : List UInt8} (hb : w.heap[b]? = some (.cells #[u, .bool bad] T (0, 0))) (hu : ∀ n, u ≠ .int .u8 n) (hr : Rd w v l) {w' : World} (ho : Only b w w') : Rd w' v l := by
  rcases hr with h | ⟨x, cap, h1, h2, h3, h4⟩
  · exact .inl h
  · refine .inr ⟨x, cap, h1, h2, h3, fun i y hy => ?_⟩
    have hc := h4 i y hy
    refine ho.cell hc (fun hh => ?_)
    have hh' : (x.add i).block = b := by simpa using hh
    have hy' : ∃ n, y = .int .u8 n := by
      rw [List.getElem?_map] at hy
      obtain ⟨c, _, rfl⟩ := Option.map_eq_some_iff.1 hy
      exact ⟨_, rfl⟩
    obtain ⟨n, rfl⟩ := hy'
    unfold World.cell? at hc
    rw [hh', hb] at hc
    simp only at hc
    split at hc
    · cases hc
    · generalize (x.add i).off = o at hc
      match o, hc with
      | 0, hc => simp at hc; exact hu n hc
      | 1, hc => simp at hc
      | o + 2, hc => simp at hc
end
theorem Bad_any (B b : Nat) (l : List UInt8) (bad : Bool) (w : World) (h : Rdr B w b l bad) :
    Calls Tryz.prog 164 #[.pointer (some ⟨b, 0, none⟩)] w fun e w' => e = .returned (.bool bad) ∧ w = w' := by
  obtain ⟨v, hb, hr⟩ := h
  have h1 := Rdr.cell1 hb
  clear hb hr
  go_enter Tryz.func164, Tryz.ntmps164
  go_wp2
  go_ret
  exact ⟨rfl, rfl⟩
theorem Only.refl (b : Nat) (w : World) : Only b w w := ⟨rfl, rfl, rfl, Nat.le_refl _, fun _ _ _ => rfl⟩
theorem Rdr.spoilt {T : TypeId} (B : Nat) {w : World} {b : Nat} {v : Value} {bad : Bool} (hb : w.heap[b]? = some (.cells #[v, .bool bad] T (0, 0))) :
    RdrT T B ((w.setCell ⟨b, 0, none⟩ (.slice none 0 0)).setCell ⟨b, 1, none⟩ (.bool true)) b [] true ∧ Only b w ((w.setCell ⟨b, 0, none⟩ (.slice none 0 0)).setCell ⟨b, 1, none⟩ (.bool true)) := by
  refine ⟨⟨.slice none 0 0, ?_, Rd.nil _, fun k hk => by cases hk⟩, ⟨rfl, rfl, rfl, by simp [World.setCell], fun k _ hk => ?_⟩⟩
  · have hlt : b < w.heap.size := (Array.getElem?_eq_some_iff.1 hb).1
    simp [World.setCell, Array.getElem?_modify, hb]
  · have hne : k ≠ b := fun e => hk (by rw [e])
    rw [Below.heap_setCell _ _ _ _ hne, Below.heap_setCell _ _ _ _ hne]
theorem spoil_any (B b : Nat) (v : Value) (bad : Bool) (w : World) (hb : w.heap[b]? = some (.cells #[v, .bool bad] 199 (0, 0))) :
    Calls Tryz.prog 172 #[.pointer (some ⟨b, 0, none⟩)] w fun e w' => e = .returned (.tuple #[]) ∧ Rdr B w' b [] true ∧ Only b w w' := by
  have hS := Rdr.spoilt B hb
  have h0 := Rdr.cell0 hb
  have h1 := Rdr.cell1 hb
  have f0 := Rdr.free hb 0
  have f1 := Rdr.free hb 1
  have HS := Lib.hid hS
  clear hb hS
  go_enter Tryz.func172, Tryz.ntmps172
  go_wp2
  go_end0
  exact ⟨rfl, HS.out⟩
theorem front_zero {l : List UInt8} (h : (front l).2 = 0) : front l = (0, 0) := by
  cases l with
  | nil => rfl
  | cons c t =>
    simp only [front] at h ⊢
    split
    · rename_i h1; rw [if_pos h1] at h; simp at h
    · rename_i h1
      rw [if_neg h1] at h
      split
      · rfl
      · rename_i h2
        rw [if_neg h2] at h
        split
        · rfl
        · rename_i h3; rw [if_neg h3] at h; simp at h
theorem RNum_no (B b : Nat) (l : List UInt8) (w : World) (h : Rdr B w b l false) (hf : (front l).2 = 0) :
    Calls Tryz.prog 163 #[.pointer (some ⟨b, 0, none⟩)] w fun e w' => e = .returned (.int .u64 0) ∧ Rdr B w' b [] true ∧ Only b w w' := by
  have hz := front_zero hf
  obtain ⟨v, hb, hr, hB⟩ := id h
  have h0 := Rdr.cell0 hb
  have hfst := first_any v l
  rw [hz] at hfst
  have HF := Lib.hid hfst
  have HB := Lib.hid hb
  have HR := Lib.hid hr
  have HH := Lib.hid h
  clear hfst hb hr hB h hz hf
  go_enter Tryz.func163, Tryz.ntmps163
  go_wp2_with fail
  refine (Bad_any B b l false _ HH.out).mono ?_
  rintro e w1 ⟨rfl, rfl⟩
  go_wp2_with fail
  refine (HF.out _ HR.out).mono ?_
  rintro e w1 ⟨rfl, rfl⟩
  go_wp2_with fail
  refine (spoil_any B b v false _ HB.out).mono ?_
  rintro e w1 ⟨rfl, hs⟩
  have HS := Lib.hid hs
  clear hs
  go_wp2_with fail
  go_ret
  exact ⟨rfl, HS.out⟩
theorem front_le {l : List UInt8} {n s : Nat} (h : front l = (n, s)) : s ≤ l.length := by
  by_cases hs : s = 0
  · omega
  · obtain ⟨_, h1, h2⟩ := front_sound l n s h hs
    have := congrArg List.length h2
    rw [List.length_append, List.length_drop] at this
    omega
theorem Rdr.step {T : TypeId} {B b s cap L : Nat} {w : World} {x : Addr} {l : List UInt8} {bad : Bool} (hb : w.heap[b]? = some (.cells #[.slice (some x) L cap, .bool bad] T (0, 0))) (hL : L = l.length) (h2 : l.length ≤ cap) (h3 : cap ≤ maxLen)
    (h4 : ∀ i u, (l.map bv)[i]? = some u → w.cell? (x.add i) = some u) (hB : B ≤ x.block) (hs : s ≤ l.length) (a' : Addr) (ha : a'.block = x.block) (ha' : s < l.length → ∀ i, a'.add i = x.add (s + i)) :
    RdrT T B (w.setCell ⟨b, 0, none⟩ (.slice (some a') (L - s) (cap - s))) b (l.drop s) bad ∧ Only b w (w.setCell ⟨b, 0, none⟩ (.slice (some a') (L - s) (cap - s))) := by
  have ho : Only b w (w.setCell ⟨b, 0, none⟩ (.slice (some a') (L - s) (cap - s))) := ⟨rfl, rfl, rfl, by simp [World.setCell], fun k _ hk => by
    have hne : k ≠ b := fun e => hk (by rw [e])
    rw [Below.heap_setCell _ _ _ _ hne]⟩
  refine ⟨⟨.slice (some a') (L - s) (cap - s), ?_, Rd.apart hb (fun n hn => by cases hn) (.inr ⟨a', cap - s, by rw [List.length_map, List.length_drop, hL], by rw [List.length_map, List.length_drop]; omega, by omega, fun i u hu => ?_⟩) ho, fun k hk => ?_⟩, ho⟩
  · simp [World.setCell, Array.getElem?_modify, hb]
  · have hi : i < (l.drop s).length := by
      have := (List.getElem?_eq_some_iff.1 hu).1
      simpa using this
    rw [List.length_drop] at hi
    rw [ha' (by omega)]
    refine h4 (s + i) u ?_
    rw [List.map_drop, List.getElem?_drop] at hu
    exact hu
  · cases hk; rw [ha]; exact hB
theorem add_add (b off s i : Nat) : (⟨b, off + s, none⟩ : Addr).add i = (⟨b, off, none⟩ : Addr).add (s + i) := by rw [add_at, add_at, Nat.add_assoc]
set_option maxHeartbeats 400000 in
theorem RNum_yes (B b : Nat) (l : List UInt8) (n s : Nat) (w : World) (h : Rdr B w b l false) (hf : front l = (n, s)) (hs : s ≠ 0) :
    Calls Tryz.prog 163 #[.pointer (some ⟨b, 0, none⟩)] w fun e w' => e = .returned (.int .u64 n) ∧ Rdr B w' b (l.drop s) false ∧ Only b w w' := by
  obtain ⟨v, hb, hr, hB⟩ := id h
  have hle := front_le hf
  have hfst := first_any v l
  rw [hf] at hfst
  rcases id hr with ⟨rfl, h1⟩ | ⟨x, cap, rfl, h2, h3, h4⟩
  · have : l = [] := by simpa using h1
    subst this
    simp [front] at hf
    omega
  · rw [List.length_map] at h2 hb hr hfst
    obtain ⟨c, t, rfl⟩ : ∃ c t, l = c :: t := by
      cases l with
      | nil => simp [front] at hf; omega
      | cons c t => exact ⟨c, t, rfl⟩
    have hc0 := h4 0 (bv c) (by simp)
    rw [add_zero] at hc0
    obtain ⟨bb, off, rfl, _⟩ := plain_of hc0
    obtain ⟨L, hL⟩ : ∃ L, L = (c :: t).length := ⟨_, rfl⟩
    rw [← hL] at h2 hb hr hfst hle
    have hBb : B ≤ bb := hB bb rfl
    have hstep := fun a' ha ha' => Rdr.step (s := s) hb hL (by omega) h3 h4 hBb (by omega) a' ha ha'
    have h0 := Rdr.cell0 hb
    have f0 := Rdr.free hb 0
    unfold maxLen at h3
    have HF := Lib.hid hfst
    have HR := Lib.hid hr
    have HH := Lib.hid h
    have HS := Lib.hid hstep
    have HL := Lib.hid hL
    have hs0 : ((s : Int) == 0) = false := by rw [beq_eq_false_iff_ne]; omega
    clear hfst hb hr hB h hf hc0 hstep h4 hL
    go_enter Tryz.func163, Tryz.ntmps163
    go_wp2_with fail
    refine (Bad_any B b (c :: t) false _ HH.out).mono ?_
    rintro e w1 ⟨rfl, rfl⟩
    go_wp2_with fail
    refine (HF.out _ HR.out).mono ?_
    rintro e w1 ⟨rfl, rfl⟩
    by_cases hcs : cap = s
    · subst hcs
      have HS' := Lib.hid (HS.out ⟨bb, off, none⟩ rfl (fun hh => absurd hh (by rw [← HL.out]; omega)))
      rw [Nat.sub_self, show L - cap = 0 by omega] at HS'
      go_wp2
      go_ret
      exact ⟨rfl, HS'.out⟩
    · go_wp2
      go_ret
      exact ⟨rfl, HS.out ⟨bb, off + s, none⟩ rfl (fun _ i => add_add bb off s i)⟩
theorem unfold_any (u : Nat) (w : World) (h : u ≤ 18446744073709551615) :
    Calls Tryz.prog 177 #[.int .u64 u] w fun e w' => e = .returned (.int .i64 (zag u)) ∧ w = w' := by
  have hand : bits BinOp.and IntKind.u64 (u : Int) 1 = ((u % 2 : Nat) : Int) := by
    have := u64_and u 1 (by omega) (by omega)
    rw [Nat.and_one_is_mod] at this
    exact this
  by_cases h2 : u % 2 = 1
  · have hz : zag u = -1 - (u / 2 : Nat) := if_pos h2
    rw [h2] at hand
    rw [hz]
    clear h2 hz
    go_enter Tryz.func177, Tryz.ntmps177
    go_wp2
    go_ret
    exact ⟨rfl, rfl⟩
  · have hz : zag u = (u / 2 : Nat) := if_neg h2
    rw [show u % 2 = 0 by omega] at hand
    rw [hz]
    clear h2 hz
    go_enter Tryz.func177, Tryz.ntmps177
    go_wp2
    go_ret
    exact ⟨rfl, rfl⟩
theorem RInt_no (B b : Nat) (l : List UInt8) (w : World) (h : Rdr B w b l false) (hf : (front l).2 = 0) :
    Calls Tryz.prog 174 #[.pointer (some ⟨b, 0, none⟩)] w fun e w' => e = .returned (.int .i64 0) ∧ Rdr B w' b [] true ∧ Only b w w' := by
  go_enter Tryz.func174, Tryz.ntmps174
  go_wp2_with fail
  refine (RNum_no B b l _ h hf).mono ?_
  rintro e w1 ⟨rfl, hs⟩
  have HS := Lib.hid hs
  clear hs
  go_wp2_with fail
  refine (unfold_any 0 _ (by omega)).mono ?_
  rintro e w1 ⟨rfl, rfl⟩
  go_wp2_with fail
  go_ret
  exact ⟨rfl, HS.out⟩
theorem RInt_yes (B b : Nat) (l : List UInt8) (n s : Nat) (w : World) (h : Rdr B w b l false) (hf : front l = (n, s)) (hs : s ≠ 0) :
    Calls Tryz.prog 174 #[.pointer (some ⟨b, 0, none⟩)] w fun e w' => e = .returned (.int .i64 (zag n)) ∧ Rdr B w' b (l.drop s) false ∧ Only b w w' := by
  have hn := (front_sound l n s hf hs).1
  go_enter Tryz.func174, Tryz.ntmps174
  go_wp2_with fail
  refine (RNum_yes B b l n s _ h hf hs).mono ?_
  rintro e w1 ⟨rfl, hs⟩
  have HS := Lib.hid hs
  clear hs
  go_wp2_with fail
  refine (unfold_any n _ (by omega)).mono ?_
  rintro e w1 ⟨rfl, rfl⟩
  go_wp2_with fail
  go_ret
  exact ⟨rfl, HS.out⟩
theorem Left_any (B b : Nat) (l : List UInt8) (w : World) (h : Rdr B w b l false) :
    Calls Tryz.prog 165 #[.pointer (some ⟨b, 0, none⟩)] w fun e w' => e = .returned (.int .i64 l.length) ∧ w = w' := by
  obtain ⟨v, hb, hr, _⟩ := id h
  obtain ⟨a, cap, rfl, _, _⟩ := hr.shape
  have h0 := Rdr.cell0 hb
  clear hb hr
  go_enter Tryz.func165, Tryz.ntmps165
  go_wp2_with fail
  refine (Bad_any B b l false _ h).mono ?_
  rintro e w1 ⟨rfl, rfl⟩
  go_wp2_with fail
  go_ret
  exact ⟨rfl, rfl⟩
theorem RText_no (B b : Nat) (l : List UInt8) (w : World) (h : Rdr B w b l false) (hf : (front l).2 = 0) :
    Calls Tryz.prog 175 #[.pointer (some ⟨b, 0, none⟩)] w fun e w' => e = .returned (.string ⟨#[]⟩) ∧ Rdr B w' b [] true ∧ Only b w w' := by
  go_enter Tryz.func175, Tryz.ntmps175
  go_wp2_with fail
  refine (RNum_no B b l _ h hf).mono ?_
  rintro e w1 ⟨rfl, hr, ho⟩
  have HR := Lib.hid hr
  have HO := Lib.hid ho
  clear hr ho
  go_wp2_with fail
  refine (Bad_any B b [] true _ HR.out).mono ?_
  rintro e w1 ⟨rfl, rfl⟩
  go_wp2_with fail
  go_ret
  exact ⟨rfl, HR.out, HO.out⟩
theorem Only.trans {b : Nat} {x y z : World} (h : Only b x y) (k : Only b y z) : Only b x z :=
  ⟨k.os.trans h.os, k.tape.trans h.tape, k.output.trans h.output, Nat.le_trans h.size k.size, fun i hi hne => (k.block i (Nat.lt_of_lt_of_le hi h.size) hne).trans (h.block i hi hne)⟩
set_option maxRecDepth 100000 in
set_option maxHeartbeats 400000 in
theorem RText_long (B b : Nat) (l l1 : List UInt8) (n s : Nat) (w : World) (h : Rdr B w b l false) (hf : front l = (n, s)) (hs : s ≠ 0) (hl1 : l1 = l.drop s) (hn : 1024 < n ∨ l1.length < n) :
    Calls Tryz.prog 175 #[.pointer (some ⟨b, 0, none⟩)] w fun e w' => e = .returned (.string ⟨#[]⟩) ∧ Rdr B w' b [] true ∧ Only b w w' := by
  have hn64 := (front_sound l n s hf hs).1
  have hnum := RNum_yes B b l n s w h hf hs
  rw [← hl1] at hnum
  have HNUM := Lib.hid hnum
  clear hnum hf hl1 h
  go_enter Tryz.func175, Tryz.ntmps175
  go_wp2_with fail
  refine HNUM.out.mono ?_
  rintro e w1 ⟨rfl, hr, ho⟩
  have HR := Lib.hid hr
  have HO := Lib.hid ho
  obtain ⟨v1, hb1, hr1, _⟩ := hr
  obtain ⟨a, cap, rfl, hcap, hmax⟩ := hr1.shape
  have h0 := Rdr.cell0 hb1
  have HB := Lib.hid hb1
  clear hr1 ho hb1
  unfold maxLen at hmax
  by_cases hbig : 1024 < n
  · have hd : decide ((1024 : Int) < n) = true := decide_eq_true (by omega)
    go_wp2_with fail
    refine (Bad_any B b l1 false _ HR.out).mono ?_
    rintro e w2 ⟨rfl, rfl⟩
    go_wp2_with fail
    refine (spoil_any B b _ false _ HB.out).mono ?_
    rintro e w2 ⟨rfl, hr2, ho2⟩
    have HR2 := Lib.hid hr2
    have HO2 := Lib.hid ho2
    clear hr2 ho2
    go_wp2_with fail
    go_ret
    exact ⟨rfl, HR2.out, HO.out.trans HO2.out⟩
  · have hd : decide ((1024 : Int) < n) = false := decide_eq_false (by omega)
    have hln : l1.length < n := by omega
    have hd2 : decide (l1.length < n) = true := decide_eq_true hln
    go_wp2_with fail
    refine (Bad_any B b l1 false _ HR.out).mono ?_
    rintro e w2 ⟨rfl, rfl⟩
    go_wp2_with fail
    refine (spoil_any B b _ false _ HB.out).mono ?_
    rintro e w2 ⟨rfl, hr2, ho2⟩
    have HR2 := Lib.hid hr2
    have HO2 := Lib.hid ho2
    clear hr2 ho2
    go_wp2_with fail
    go_ret
    exact ⟨rfl, HR2.out, HO.out.trans HO2.out⟩
theorem add_more (x : Addr) (n i : Nat) : (x.add n).add i = x.add (n + i) := by
  unfold Addr.add
  by_cases hn : n = 0
  · subst hn; simp
  · by_cases hi : i = 0
    · subst hi; simp [hn]
    · simp [hn, hi, Nat.add_assoc]
theorem Rdr.emptied {T : TypeId} (B : Nat) {w : World} {b : Nat} {v : Value} {bad : Bool} (hb : w.heap[b]? = some (.cells #[v, .bool bad] T (0, 0))) :
    RdrT T B (w.setCell ⟨b, 0, none⟩ (.slice none 0 0)) b [] bad ∧ Only b w (w.setCell ⟨b, 0, none⟩ (.slice none 0 0)) := by
  refine ⟨⟨.slice none 0 0, ?_, Rd.nil _, fun k hk => by cases hk⟩, ⟨rfl, rfl, rfl, by simp [World.setCell], fun k _ hk => ?_⟩⟩
  · simp [World.setCell, Array.getElem?_modify, hb]
  · have hne : k ≠ b := fun e => hk (by rw [e])
    rw [Below.heap_setCell _ _ _ _ hne]
set_option maxRecDepth 100000 in
set_option maxHeartbeats 400000 in
theorem RText_yes (B b : Nat) (l l1 : List UInt8) (n s : Nat) (w : World) (h : Rdr B w b l false) (hf : front l = (n, s)) (hs : s ≠ 0) (hl1 : l1 = l.drop s) (hn : n ≤ 1024) (hn2 : n ≤ l1.length) :
    Calls Tryz.prog 175 #[.pointer (some ⟨b, 0, none⟩)] w fun e w' => e = .returned (.string ⟨(l1.take n).toArray⟩) ∧ Rdr B w' b (l1.drop n) false ∧ Only b w w' := by
  have hnum := RNum_yes B b l n s w h hf hs
  rw [← hl1] at hnum
  have HNUM := Lib.hid hnum
  clear hnum hf hl1 h
  have hd : decide ((1024 : Int) < n) = false := decide_eq_false (by omega)
  have hd2 : decide (l1.length < n) = false := decide_eq_false (by omega)
  go_enter Tryz.func175, Tryz.ntmps175
  go_wp2_with fail
  refine HNUM.out.mono ?_
  rintro e w1 ⟨rfl, hr, ho⟩
  have HR := Lib.hid hr
  have HO := Lib.hid ho
  obtain ⟨v1, hb1, hr1, hB1⟩ := hr
  rcases hr1 with ⟨rfl, h1⟩ | ⟨x, cap, rfl, h2, h3, h4⟩
  · have hl0 : l1 = [] := by simpa using h1
    subst hl0
    obtain rfl : n = 0 := by simpa using hn2
    have h0 := Rdr.cell0 hb1
    have hcv : ∀ W : World, (convert 36 9 (.slice none 0 0)).run Tryz.prog W = .ok (.string ⟨#[]⟩) W := fun W => (Rd.nil W).string _ _ _ Tryz.underlying36 Tryz.underlying5 Tryz.underlying9
    have f0 := Rdr.free hb1 0
    have HB := Lib.hid hb1
    clear ho hb1 hB1
    go_wp2_with fail
    refine (Bad_any B b [] false _ HR.out).mono ?_
    rintro e w2 ⟨rfl, rfl⟩
    go_wp2_with fail
    go_ret
    exact ⟨rfl, (Rdr.emptied B HB.out).1, HO.out.trans (Rdr.emptied B HB.out).2⟩
  · rw [List.length_map] at h2 hb1
    have hbB : B ≤ x.block := hB1 _ rfl
    have hstep := fun a' ha ha' => Rdr.step (s := n) hb1 rfl h2 h3 h4 hbB hn2 a' ha ha'
    have htake := RdV.takes (x := x) (xs := l1.map bv) (by rw [List.length_map]; exact h2) h3 h4 n n (by rw [List.length_map]; omega)
    rw [← List.map_take] at htake
    have hcv := Rd.string (P := Tryz.prog) htake 36 9 5 Tryz.underlying36 Tryz.underlying5 Tryz.underlying9
    have h0 := Rdr.cell0 hb1
    have f0 := Rdr.free hb1 0
    have HB := Lib.hid hb1
    have HS := Lib.hid hstep
    unfold maxLen at h3
    clear ho hb1 hB1 h4 htake hstep
    by_cases hcs : cap = n
    · subst hcs
      have HS' := Lib.hid (HS.out x rfl (fun hh => by omega))
      rw [Nat.sub_self, show l1.length - cap = 0 by omega] at HS'
      go_wp2_with fail
      refine (Bad_any B b l1 false _ HR.out).mono ?_
      rintro e w2 ⟨rfl, rfl⟩
      go_wp2_with fail
      go_ret
      exact ⟨rfl, HS'.out.1, HO.out.trans HS'.out.2⟩
    · have HS' := Lib.hid (HS.out (x.add n) (add_block x n) (fun _ i => add_more x n i))
      go_wp2_with fail
      refine (Bad_any B b l1 false _ HR.out).mono ?_
      rintro e w2 ⟨rfl, rfl⟩
      go_wp2_with fail
      go_ret
      exact ⟨rfl, HS'.out.1, HO.out.trans HS'.out.2⟩
set_option maxHeartbeats 400000 in
theorem clone_nil (w : World) : Calls Tryz.prog 170 #[.slice none 0 0] w (Fresh 5 w []) := by
  have hq := fun W : World => Lib.run_eql_slice_nil (P := Tryz.prog) W
  go_enter Tryz.func170, Tryz.ntmps170
  go_wp2
  go_ret
  exact ⟨_, rfl, World.ownsRow_nil _ _ _ _, Below.refl _ _⟩
set_option maxHeartbeats 400000 in
theorem clone_some (x : Addr) (L cap : Nat) (xs : List Value) (w : World) (hL : xs.length = L) (hc : ∀ i u, xs[i]? = some u → w.cell? (x.add i) = some u)
    (h1c : ∀ u ∈ xs, u.oneCell' = true) (h1 : L ≤ 140737488355328) : Calls Tryz.prog 170 #[.slice (some x) L cap] w (Fresh 5 w xs) := by
  have hq := fun W : World => Lib.run_eql_slice_nil (P := Tryz.prog) W
  obtain ⟨i0, hi, hz0, hz1, hz2⟩ := info_parts Tryz.info5
  have hown : (w.alloc (.cells #[] 5)).ownsRow w.heap.size 5 1 (.slice (some ⟨w.heap.size, 0, none⟩) 0 0) 0 [] := World.ownsRow_made w #[] 0 (Nat.le_refl _) (by simp [maxLen]) rfl
  have HL := Lib.hid hL
  have HC := Lib.hid (fun i u hu => (World.grownBy_alloc w (.cells #[] 5) none).cell (hc i u hu) (by simp))
  have H1 := Lib.hid h1c
  have HO := Lib.hid hown
  clear hL hc h1c hown
  go_enter Tryz.func170, Tryz.ntmps170
  go_wp2_with (at_builtin; go_loud (refine wpList_append_own _ rfl _ _ 36 rfl w.heap.size 5 i0 (.int .u8 0) 1 1 Tryz.underlying36 hi hz0 hz1 hz2 rfl (by decide) _ _ _ rfl HO.out x L cap xs rfl (by rw [HL.out, Nat.mul_one]) HC.out H1.out (by unfold maxLen; omega) (by omega) (by simp) ?_); intro v2 w2 hown2 hgrow2 _)
  go_ret
  refine ⟨_, rfl, ?_, ((Below.refl _ _).alloc (Nat.le_refl _) _).grown hgrow2 (by simp) ?_⟩
  · rw [HL.out]; simpa using hown2
  · intro k hk; cases hk; exact Nat.le_refl _
theorem clone_any (v : Value) (l : List UInt8) (w : World) (hr : Rd w v l) (h1 : l.length ≤ 140737488355328) : Calls Tryz.prog 170 #[v] w (Fresh 5 w (l.map bv)) := by
  rcases hr with ⟨rfl, h2⟩ | ⟨x, cap, rfl, h2, h3, h4⟩
  · rw [h2]; exact clone_nil w
  · exact clone_some x _ cap _ w rfl h4 (bv_oneCell l) (by rw [List.length_map]; exact h1)
def Made (w : World) (l : List UInt8) (r : Ending) (w' : World) : Prop := ∃ b, r = .returned (.pointer (some ⟨b, 0, none⟩)) ∧ w.heap.size ≤ b ∧ Rdr w.heap.size w' b l false ∧ Below w.heap.size w w'
theorem New_any (v : Value) (l : List UInt8) (w : World) (hr : Rd w v l) (h1 : l.length ≤ 140737488355328) : Calls Tryz.prog 162 #[v] w (Made w l) := by
  go_enter Tryz.func162, Tryz.ntmps162
  go_wp2_with fail
  refine (clone_any v l _ hr h1).mono ?_
  rintro e w1 ⟨v1, rfl, hown1, hb1⟩
  have hr1 : Rd w1 v1 l := RdV.of_owns hown1
  obtain ⟨a1, cap1, rfl, _, _⟩ := hr1.shape
  go_wp2_with fail
  go_ret
  refine ⟨_, rfl, hb1.size, ⟨_, heap_alloc_new w1 _, Rd.mono hr1 ((Below.refl _ _).alloc (Nat.le_refl _) _), fun k hk => (hown1.lt k hk).1⟩, hb1.alloc hb1.size _⟩
end Go.Proofs.YtaoegcakefodaaaGreat

namespace Go.Proofs.YtaoegcakefodaaaGreat
open Go.RowKit Go.BigFrame
set_option maxHeartbeats 400000 in
theorem bclone_nil (w : World) : Calls Tryz.prog 56 #[.slice none 0 0] w (Fresh 5 w []) := by
  have hq := fun W : World => Lib.run_eql_slice_nil (P := Tryz.prog) W
  go_enter Tryz.func56, Tryz.ntmps56
  go_wp2
  go_ret
  exact ⟨_, rfl, World.ownsRow_nil _ _ _ _, Below.refl _ _⟩
set_option maxHeartbeats 400000 in
theorem bclone_some (x : Addr) (L cap : Nat) (xs : List Value) (w : World) (hL : xs.length = L) (hc : ∀ i u, xs[i]? = some u → w.cell? (x.add i) = some u)
    (h1c : ∀ u ∈ xs, u.oneCell' = true) (h1 : L ≤ 140737488355328) : Calls Tryz.prog 56 #[.slice (some x) L cap] w (Fresh 5 w xs) := by
  have hq := fun W : World => Lib.run_eql_slice_nil (P := Tryz.prog) W
  obtain ⟨i0, hi, hz0, hz1, hz2⟩ := info_parts Tryz.info5
  have hown : (w.alloc (.cells #[] 5)).ownsRow w.heap.size 5 1 (.slice (some ⟨w.heap.size, 0, none⟩) 0 0) 0 [] := World.ownsRow_made w #[] 0 (Nat.le_refl _) (by simp [maxLen]) rfl
  have HL := Lib.hid hL
  have HC := Lib.hid (fun i u hu => (World.grownBy_alloc w (.cells #[] 5) none).cell (hc i u hu) (by simp))
  have H1 := Lib.hid h1c
  have HO := Lib.hid hown
  clear hL hc h1c hown
  go_enter Tryz.func56, Tryz.ntmps56
  go_wp2_with (at_builtin; go_loud (refine wpList_append_own _ rfl _ _ 36 rfl w.heap.size 5 i0 (.int .u8 0) 1 1 Tryz.underlying36 hi hz0 hz1 hz2 rfl (by decide) _ _ _ rfl HO.out x L cap xs rfl (by rw [HL.out, Nat.mul_one]) HC.out H1.out (by unfold maxLen; omega) (by omega) (by simp) ?_); intro v2 w2 hown2 hgrow2 _)
  go_ret
  refine ⟨_, rfl, ?_, ((Below.refl _ _).alloc (Nat.le_refl _) _).grown hgrow2 (by simp) ?_⟩
  · rw [HL.out]; simpa using hown2
  · intro k hk; cases hk; exact Nat.le_refl _
theorem bclone_any (v : Value) (l : List UInt8) (w : World) (hr : Rd w v l) (h1 : l.length ≤ 140737488355328) : Calls Tryz.prog 56 #[v] w (Fresh 5 w (l.map bv)) := by
  rcases hr with ⟨rfl, h2⟩ | ⟨x, cap, rfl, h2, h3, h4⟩
  · rw [h2]; exact bclone_nil w
  · exact bclone_some x _ cap _ w rfl h4 (bv_oneCell l) (by rw [List.length_map]; exact h1)
set_option maxRecDepth 100000 in
set_option maxHeartbeats 1000000 in
theorem Put_any (b : Value) (l : List UInt8) (v : V) (w : World) (hr : Rd w b l) (hl : l.length ≤ 1000000) (hv : v.fits) (hs : v.s.length ≤ 5000) :
    Calls Tryz.prog 127 #[b, v.val] w (Fresh 5 w ((l ++ encV v).map bv)) := by
  have HR := Lib.hid (fun w => Right_any v hv hs w)
  have HL := Lib.hid hl
  have HRD := Lib.hid hr
  obtain ⟨ab, capb, rfl, _, _⟩ := hr.shape
  clear hr
  cases hrv : rightV v with
  | false =>
    have hen : encV v = [0] := by unfold encV; rw [if_neg (by rw [hrv]; decide)]
    rw [hen]
    obtain ⟨X, hX⟩ : ∃ X, (l ++ [0]).map bv = X := ⟨_, rfl⟩
    rw [hX]
    replace hX := Lib.hid hX
    rw [hrv] at HR
    clear hen hrv hv hs hl
    obtain ⟨k, n, s⟩ := v
    unfold V.val at HR ⊢
    simp only at HR ⊢
    go_enter Tryz.func127, Tryz.ntmps127
    go_wp2_with fail
    refine (HR.out _).mono ?_
    rintro e w1 ⟨rfl, hb⟩
    have HZ0 := Lib.hid (kept_cell (new_cell w [.int .u8 k, .int .i64 n, .string ⟨s.toArray⟩] 56) hb)
    have HZ1 := Lib.hid (show (Ext w w1) from Ext.trans (ext_one _ _) hb)
    have c0 := HZ0.out 0 _ rfl
    have c1 := HZ0.out 1 _ rfl
    have c2 := HZ0.out 2 _ rfl
    have hf : ∀ j, w1.frozen? ⟨w.heap.size, j, none⟩ = false := fun j => by
      rw [frozen_ext hb (by simp)]
      unfold World.frozen?
      rw [heap_alloc_new]
      simp
    have f0 := hf 0
    have f1 := hf 1
    have f2 := hf 2
    clear hb hf
    have HZ := Lib.hid (three_stored HZ0.out (.int .u8 0) (.int .i64 0) (.string ⟨#[]⟩))
    have k0 := HZ.out 0 _ rfl
    have EX1 := Lib.hid (show Ext w (((w1.setCell ⟨w.heap.size, 0, none⟩ (.int .u8 0)).setCell ⟨w.heap.size, 1, none⟩ (.int .i64 0)).setCell ⟨w.heap.size, 2, none⟩ (.string ⟨#[]⟩)) from
      Below.setCell (Below.setCell (Below.setCell HZ1.out (Nat.le_refl _) _) (Nat.le_refl _) _) (Nat.le_refl _) _)
    go_wp2_with fail
    refine (Num_any _ l 0 _ (HRD.out.mono EX1.out) (by have := HL.out; omega) (by omega)).mono ?_
    rintro e w2 ⟨v2, rfl, hown2, hb2⟩
    have HO2 := Lib.hid hown2
    have HB2 := Lib.hid (Ext.trans EX1.out hb2)
    have k0 := kept_cell HZ.out hb2 0 _ rfl
    have HSZ := Lib.hid EX1.out.size
    clear hown2 hb2 c0 c1 c2 f0 f1 f2
    go_wp2_with fail
    go_ret
    exact ⟨_, rfl, by rw [← hX.out]; exact own_low HO2.out HSZ.out, HB2.out⟩
  | true =>
    rw [hrv] at HR
    have hcase := (rightV_iff v).1 hrv
    have hen : encV v = UInt8.ofNat v.k.toNat :: (if v.k = 1 ∨ v.k = 2 then enc (zig v.n) else if v.k = 3 then enc v.s.length ++ v.s else []) := by unfold encV; rw [if_pos hrv]
    rw [hen]
    have HLO := Lib.hid hv.lo
    have HHI := Lib.hid hv.hi
    have HS := Lib.hid hs
    clear hen hrv hv hs hl
    obtain ⟨k, n, s⟩ := v
    unfold V.val at HR ⊢
    simp only at HR hcase HLO HHI HS ⊢
    have hcase2 : k = 0 ∨ k = 1 ∨ k = 2 ∨ k = 3 := by rcases hcase with h | h | h | h <;> omega
    clear hcase
    rcases hcase2 with rfl | rfl | rfl | rfl
    · have henc : (UInt8.ofNat (Int.toNat 0) :: (if (0 : Int) = 1 ∨ (0 : Int) = 2 then enc (zig n) else if (0 : Int) = 3 then enc s.length ++ s else [])) = enc 0 ++ [] := rfl
      obtain ⟨X, hX⟩ : ∃ X, (l ++ enc 0 ++ []).map bv = X := ⟨_, rfl⟩
      rw [henc, ← List.append_assoc, hX]
      replace hX := Lib.hid hX
      clear henc
      go_enter Tryz.func127, Tryz.ntmps127
      go_wp2_with fail
      refine (HR.out _).mono ?_
      rintro e w1 ⟨rfl, hb⟩
      have HZ := Lib.hid (kept_cell (new_cell w [.int .u8 0, .int .i64 n, .string ⟨s.toArray⟩] 56) hb)
      have k0 := HZ.out 0 _ rfl
      have EX1 := Lib.hid (show Ext w w1 from Ext.trans (ext_one _ _) hb)
      clear hb
      go_wp2_with fail
      refine (Num_any _ l 0 _ (HRD.out.mono EX1.out) (by have := HL.out; omega) (by omega)).mono ?_
      rintro e w2 ⟨v2, rfl, hown2, hb2⟩
      have HO2 := Lib.hid hown2
      have HB2 := Lib.hid (Ext.trans EX1.out hb2)
      have HZ2 := Lib.hid (kept_cell HZ.out hb2)
      have HSZ := Lib.hid EX1.out.size
      have hr2 : Rd w2 v2 (l ++ enc 0) := RdV.of_owns hown2
      have HR2 := Lib.hid hr2
      have k0 := HZ2.out 0 _ rfl
      have k1 := HZ2.out 1 _ rfl
      have k2 := HZ2.out 2 _ rfl
      clear hown2 hb2 hr2
      go_wp2_with fail
      go_ret
      exact ⟨_, rfl, by rw [← hX.out, List.append_nil]; exact own_low HO2.out HSZ.out, HB2.out⟩
    · have henc : (UInt8.ofNat (Int.toNat 1) :: (if (1 : Int) = 1 ∨ (1 : Int) = 2 then enc (zig n) else if (1 : Int) = 3 then enc s.length ++ s else [])) = enc 1 ++ enc (zig n) := rfl
      obtain ⟨X, hX⟩ : ∃ X, (l ++ enc 1 ++ enc (zig n)).map bv = X := ⟨_, rfl⟩
      rw [henc, ← List.append_assoc, hX]
      replace hX := Lib.hid hX
      clear henc
      go_enter Tryz.func127, Tryz.ntmps127
      go_wp2_with fail
      refine (HR.out _).mono ?_
      rintro e w1 ⟨rfl, hb⟩
      have HZ := Lib.hid (kept_cell (new_cell w [.int .u8 1, .int .i64 n, .string ⟨s.toArray⟩] 56) hb)
      have k0 := HZ.out 0 _ rfl
      have EX1 := Lib.hid (show Ext w w1 from Ext.trans (ext_one _ _) hb)
      clear hb
      go_wp2_with fail
      refine (Num_any _ l 1 _ (HRD.out.mono EX1.out) (by have := HL.out; omega) (by omega)).mono ?_
      rintro e w2 ⟨v2, rfl, hown2, hb2⟩
      have HO2 := Lib.hid hown2
      have HB2 := Lib.hid (Ext.trans EX1.out hb2)
      have HZ2 := Lib.hid (kept_cell HZ.out hb2)
      have HSZ := Lib.hid EX1.out.size
      have hr2 : Rd w2 v2 (l ++ enc 1) := RdV.of_owns hown2
      have HR2 := Lib.hid hr2
      have k0 := HZ2.out 0 _ rfl
      have k1 := HZ2.out 1 _ rfl
      have k2 := HZ2.out 2 _ rfl
      clear hown2 hb2 hr2
      go_wp2_with fail
      refine (Int_any _ (l ++ enc 1) n _ HR2.out (by have := HL.out; have := enc_length 1; rw [List.length_append]; omega) HLO.out HHI.out).mono ?_
      rintro e w3 ⟨v3, rfl, hown3, hb3⟩
      have HO3 := Lib.hid hown3
      have HB3 := Lib.hid hb3
      clear hown3 hb3
      go_wp2_with fail
      go_ret
      exact ⟨_, rfl, by rw [← hX.out]; exact own_low HO3.out HB2.out.size, Ext.trans HB2.out HB3.out⟩
    · have henc : (UInt8.ofNat (Int.toNat 2) :: (if (2 : Int) = 1 ∨ (2 : Int) = 2 then enc (zig n) else if (2 : Int) = 3 then enc s.length ++ s else [])) = enc 2 ++ enc (zig n) := rfl
      obtain ⟨X, hX⟩ : ∃ X, (l ++ enc 2 ++ enc (zig n)).map bv = X := ⟨_, rfl⟩
      rw [henc, ← List.append_assoc, hX]
      replace hX := Lib.hid hX
      clear henc
      go_enter Tryz.func127, Tryz.ntmps127
      go_wp2_with fail
      refine (HR.out _).mono ?_
      rintro e w1 ⟨rfl, hb⟩
      have HZ := Lib.hid (kept_cell (new_cell w [.int .u8 2, .int .i64 n, .string ⟨s.toArray⟩] 56) hb)
      have k0 := HZ.out 0 _ rfl
      have EX1 := Lib.hid (show Ext w w1 from Ext.trans (ext_one _ _) hb)
      clear hb
      go_wp2_with fail
      refine (Num_any _ l 2 _ (HRD.out.mono EX1.out) (by have := HL.out; omega) (by omega)).mono ?_
      rintro e w2 ⟨v2, rfl, hown2, hb2⟩
      have HO2 := Lib.hid hown2
      have HB2 := Lib.hid (Ext.trans EX1.out hb2)
      have HZ2 := Lib.hid (kept_cell HZ.out hb2)
      have HSZ := Lib.hid EX1.out.size
      have hr2 : Rd w2 v2 (l ++ enc 2) := RdV.of_owns hown2
      have HR2 := Lib.hid hr2
      have k0 := HZ2.out 0 _ rfl
      have k1 := HZ2.out 1 _ rfl
      have k2 := HZ2.out 2 _ rfl
      clear hown2 hb2 hr2
      go_wp2_with fail
      refine (Int_any _ (l ++ enc 2) n _ HR2.out (by have := HL.out; have := enc_length 2; rw [List.length_append]; omega) HLO.out HHI.out).mono ?_
      rintro e w3 ⟨v3, rfl, hown3, hb3⟩
      have HO3 := Lib.hid hown3
      have HB3 := Lib.hid hb3
      clear hown3 hb3
      go_wp2_with fail
      go_ret
      exact ⟨_, rfl, by rw [← hX.out]; exact own_low HO3.out HB2.out.size, Ext.trans HB2.out HB3.out⟩
    · have henc : (UInt8.ofNat (Int.toNat 3) :: (if (3 : Int) = 1 ∨ (3 : Int) = 2 then enc (zig n) else if (3 : Int) = 3 then enc s.length ++ s else [])) = enc 3 ++ (enc s.length ++ s) := rfl
      obtain ⟨X, hX⟩ : ∃ X, (l ++ enc 3 ++ (enc s.length ++ s)).map bv = X := ⟨_, rfl⟩
      rw [henc, ← List.append_assoc, hX]
      replace hX := Lib.hid hX
      clear henc
      go_enter Tryz.func127, Tryz.ntmps127
      go_wp2_with fail
      refine (HR.out _).mono ?_
      rintro e w1 ⟨rfl, hb⟩
      have HZ := Lib.hid (kept_cell (new_cell w [.int .u8 3, .int .i64 n, .string ⟨s.toArray⟩] 56) hb)
      have k0 := HZ.out 0 _ rfl
      have EX1 := Lib.hid (show Ext w w1 from Ext.trans (ext_one _ _) hb)
      clear hb
      go_wp2_with fail
      refine (Num_any _ l 3 _ (HRD.out.mono EX1.out) (by have := HL.out; omega) (by omega)).mono ?_
      rintro e w2 ⟨v2, rfl, hown2, hb2⟩
      have HO2 := Lib.hid hown2
      have HB2 := Lib.hid (Ext.trans EX1.out hb2)
      have HZ2 := Lib.hid (kept_cell HZ.out hb2)
      have HSZ := Lib.hid EX1.out.size
      have hr2 : Rd w2 v2 (l ++ enc 3) := RdV.of_owns hown2
      have HR2 := Lib.hid hr2
      have k0 := HZ2.out 0 _ rfl
      have k1 := HZ2.out 1 _ rfl
      have k2 := HZ2.out 2 _ rfl
      clear hown2 hb2 hr2
      go_wp2_with fail
      refine (Text_any _ (l ++ enc 3) ⟨s.toArray⟩ _ HR2.out (by have := HL.out; have := HS.out; have := enc_length 3; rw [List.length_append]; show _ + s.toArray.size ≤ _; simp; omega)).mono ?_
      rintro e w3 ⟨v3, rfl, hown3, hb3⟩
      have HO3 := Lib.hid (show w3.ownsRow w2.heap.size 5 1 v3 ((l ++ enc 3 ++ (enc s.length ++ s)).map bv).length ((l ++ enc 3 ++ (enc s.length ++ s)).map bv) from by
        rw [← List.append_assoc]
        exact hown3)
      have HB3 := Lib.hid hb3
      clear hown3 hb3
      go_wp2_with fail
      go_ret
      exact ⟨_, rfl, by rw [← hX.out]; exact own_low HO3.out HB2.out.size, Ext.trans HB2.out HB3.out⟩
theorem slice_from (x : Value) (l : List UInt8) (k : Nat) (w : World) (hr : Rd w x l) (hk : k ≤ l.length) :
    ∃ a cap, Rd w (.slice a (l.length - k) cap) (l.drop k) ∧ ∀ (i : Int) W, i = (k : Int) → (Instr.slice 36 x (some (.int .i64 i)) none none).run Tryz.prog W = .ok (.slice a (l.length - k) cap) W := by
  rcases hr with ⟨rfl, h1⟩ | ⟨x, cap, rfl, h2, h3, h4⟩
  · have hl0 : l = [] := by simpa using h1
    subst hl0
    have hk0 : k = 0 := by simpa using hk
    subst hk0
    refine ⟨none, 0, Rd.nil w, fun i W hi => ?_⟩
    subst hi
    simp [Instr.slice, Instr.sliceBounds, Instr.sliceBound, run_underlying Tryz.underlying36, go_sem]
  · rw [List.length_map] at h2
    by_cases hc : cap = k
    · refine ⟨some x, cap - k, ?_, fun i W hi => ?_⟩
      · have hd : l.drop k = [] := List.drop_eq_nil_of_le (by omega)
        rw [hd, show l.length - k = 0 by omega]
        exact .inr ⟨x, _, rfl, Nat.zero_le _, by omega, fun i u hu => by simp at hu⟩
      · subst hi
        subst hc
        simp [Instr.slice, Instr.sliceBounds, Instr.sliceBound, run_underlying Tryz.underlying36, go_sem, hk]
    · refine ⟨some (x.add k), cap - k, ?_, fun i W hi => ?_⟩
      · refine .inr ⟨x.add k, cap - k, by rw [List.length_map, List.length_drop], by rw [List.length_map, List.length_drop]; omega, by omega, fun i u hu => ?_⟩
        rw [add_more]
        exact h4 (k + i) u (by rw [List.map_drop, List.getElem?_drop] at hu; exact hu)
      · subst hi
        simp [Instr.slice, Instr.sliceBounds, Instr.sliceBound, run_underlying Tryz.underlying36, go_sem, hk, hc]
end Go.Proofs.YtaoegcakefodaaaGreat

namespace Go.Proofs.YtaoegcakefodaaaGreat
open Go.RowKit Go.BigFrame
set_option maxRecDepth 100000 in
theorem indexFuncR_any (G : Nat) (B : V → Bool) (u : Value) (ws : List V) (w : World) (hu : RdVals w u ws) (he : ∀ args w, (callFunc G args).run Tryz.prog w = .ok (.enter G args) w)
    (hf : ∀ v ∈ ws, ∀ W, Ext w W → Calls Tryz.prog G #[v.val] W fun e w' => e = .returned (.bool (B v)) ∧ Ext W w') :
    Calls Tryz.prog 123 #[u, .func (.func G) #[] #[]] w fun e w' => (∃ k : Int, e = .returned (.int .i64 k) ∧ -1 ≤ k ∧ k ≤ 9223372036854775807 ∧ decide (0 ≤ k) = ws.any B) ∧ Ext w w' := by
  obtain ⟨ao, cap, rfl, -, -⟩ := hu.shape
  obtain ⟨-, h1, h2, hc⟩ := hu.plain
  have HC := Lib.hid hc
  have HF := Lib.hid hf
  unfold maxLen at h2
  obtain ⟨N, hN⟩ : ∃ N, ws.length = N := ⟨_, rfl⟩
  have HN := Lib.hid hN
  rw [hN] at h1 ⊢
  clear hu hc hf hN
  go_enter Tryz.func123, Tryz.ntmps123
  go_wp2_with fail
  go_loopw [5, 8] (fun _ i wr => ∃ j : Nat, j ≤ N ∧ i = .int .i64 j ∧ (ws.take j).any B = false ∧ Ext w wr) (fun _ i _ => N - (intOf i).toNat)
  case atStart => exact ⟨0, Nat.zero_le _, rfl, rfl, Ext.keeps.refl _⟩
  case round =>
    obtain ⟨j, hj, rfl, hb, hx⟩ := hrel
    have HB := Lib.hid hb
    have HX := Lib.hid hx
    clear hb hx
    by_cases hlt : j < N
    · have hjl : j < ws.length := by have := HN.out; omega
      obtain ⟨g, off, rfl, c0, c1, c2⟩ := HC.out j hjl
      have x0 := (HX.out.cell (lt_of_cell c0)).trans c0
      have x1 := (HX.out.cell (lt_of_cell c1)).trans c1
      have x2 := (HX.out.cell (lt_of_cell c2)).trans c2
      have HS := Lib.hid (List.take_succ_eq_append_getElem hjl)
      have HM := Lib.hid (List.getElem_mem hjl)
      have HFC := Lib.hid (HF.out _ HM.out wr HX.out)
      generalize ws[j] = v at x0 x1 x2 HS HFC HM
      have HEN := he
      obtain ⟨k, n, s⟩ := v
      unfold V.val at HFC
      simp only at x0 x1 x2 HFC
      clear c0 c1 c2
      cases hb : B ⟨k, n, s⟩ with
      | true =>
        rw [hb] at HFC
        have HB1 := Lib.hid hb
        clear hb
        go_wp2_with fail
        refine HFC.out.mono ?_
        rintro e w2 ⟨rfl, hx⟩
        have HX2 := Lib.hid (Ext.trans HX.out hx)
        clear hx
        go_wp2_with fail
        go_ret
        exact ⟨⟨_, rfl, by omega, by omega, by rw [List.any_eq_true.2 ⟨_, HM.out, HB1.out⟩]; exact decide_eq_true (by omega)⟩, HX2.out⟩
      | false =>
        rw [hb] at HFC
        have HB1 := Lib.hid hb
        clear hb
        go_wp2_with fail
        refine HFC.out.mono ?_
        rintro e w2 ⟨rfl, hx⟩
        have HX2 := Lib.hid (Ext.trans HX.out hx)
        clear hx
        go_wp2_with fail
        go_roundw
        case rel => exact ⟨j + 1, by omega, by go_num, by rw [HS.out, List.any_append, HB.out]; simp [HB1.out], HX2.out⟩
        case measure => simp [intOf]; omega
    · have HNO := Lib.hid (show ws.any B = false by have h := HB.out; rwa [List.take_of_length_le (by have := HN.out; omega)] at h)
      go_wp2_with fail
      go_ret
      exact ⟨⟨-1, rfl, by omega, by omega, by rw [HNO.out]; decide⟩, HX.out⟩
set_option maxRecDepth 100000 in
theorem containsFuncR_any (G : Nat) (B : V → Bool) (u : Value) (ws : List V) (w : World) (hu : RdVals w u ws) (he : ∀ args w, (callFunc G args).run Tryz.prog w = .ok (.enter G args) w)
    (hf : ∀ v ∈ ws, ∀ W, Ext w W → Calls Tryz.prog G #[v.val] W fun e w' => e = .returned (.bool (B v)) ∧ Ext W w') :
    Calls Tryz.prog 103 #[u, .func (.func G) #[] #[]] w fun e w' => e = .returned (.bool (ws.any B)) ∧ Ext w w' := by
  have HI := Lib.hid (indexFuncR_any G B u ws w hu he hf)
  clear hf
  go_enter Tryz.func103, Tryz.ntmps103
  go_wp2_with fail
  refine HI.out.mono ?_
  rintro e w2 ⟨⟨k, rfl, hk1, hk2, hk⟩, hx⟩
  go_wp2_with fail
  go_ret
  exact ⟨by rw [← hk]; rfl, hx⟩
theorem enters_wrong17 : ∀ args w, (callFunc 104 args).run Tryz.prog w = .ok (.enter 104 args) w := enters_of Tryz.func104 (by kernel_rfl) rfl
set_option maxRecDepth 100000 in
theorem pWrong17_any (v : V) (w : World) (hv : v.fits) (hl : v.s.length ≤ 5000) :
    Calls Tryz.prog 104 #[v.val] w fun e w' => e = .returned (.bool (!rightV v)) ∧ Ext w w' := by
  have HR := Lib.hid (fun w => Right_any v hv hl w)
  obtain ⟨R, hR⟩ : ∃ R, rightV v = R := ⟨_, rfl⟩
  rw [hR] at HR ⊢
  obtain ⟨k, n, s⟩ := v
  unfold V.val at HR ⊢
  simp only at HR ⊢
  clear hv hl hR
  go_enter Tryz.func104, Tryz.ntmps104
  go_wp2_with fail
  refine (HR.out _).mono ?_
  rintro e w1 ⟨rfl, hb⟩
  have HX := Lib.hid (Ext.trans (ext_new w _) hb)
  clear hb
  go_wp2_with fail
  go_ret
  exact ⟨rfl, HX.out⟩
theorem pWrongs17_any (u : Value) (r : List V) (w : World) (hu : RdVals w u r) (hf : ∀ v ∈ r, v.fits ∧ v.s.length ≤ 5000) :
    Calls Tryz.prog 103 #[u, .func (.func 104) #[] #[]] w fun e w' => e = .returned (.bool (r.any fun v => !rightV v)) ∧ Ext w w' :=
  containsFuncR_any _ (fun v => !rightV v) u r w hu enters_wrong17 fun v hv W _ => pWrong17_any v W (hf v hv).1 (hf v hv).2
theorem wrongs17 (r : List V) : (r.any fun v => !rightV v) = !(r.all rightV) := by
  induction r with
  | nil => rfl
  | cons a t ih => rw [List.any_cons, List.all_cons, ih, Bool.not_and]
set_option maxRecDepth 100000 in
set_option maxHeartbeats 1000000 in
theorem pEncoded17_any (u : Value) (r : List V) (w : World) (hu : RdVals w u r) (hf : ∀ v ∈ r, v.fits ∧ v.s.length ≤ 5000) (hl : r.length ≤ 400) :
    Calls Tryz.prog 106 #[u] w (Fresh 5 w ((rowB r).map bv)) := by
  obtain ⟨ao, cap, rfl, -, -⟩ := hu.shape
  obtain ⟨-, h1, h2, hrc⟩ := hu.plain
  obtain ⟨i1, hi1, hy0, hy1, hy2⟩ := info_parts Tryz.info5
  have HRC := Lib.hid hrc
  have HF := Lib.hid hf
  unfold maxLen at h2
  obtain ⟨N, hN⟩ : ∃ N, r.length = N := ⟨_, rfl⟩
  have HN := Lib.hid hN
  have HRB := Lib.hid (show rowB r = enc N ++ r.flatMap encV by unfold rowB; rw [hN])
  have HVL := Lib.hid (fun j => vals_le (r.take j))
  have HEL := Lib.hid (enc_length N)
  rw [hN] at h1 hl ⊢
  have HNUM := Lib.hid (Num_any (.slice none 0 0) [] N w (.inl ⟨rfl, rfl⟩) (by simp) (by omega))
  clear hu hrc hf hN
  go_enter Tryz.func106, Tryz.ntmps106
  go_wp2_with fail
  refine HNUM.out.mono ?_
  rintro e w1 ⟨v1, rfl, ho, hb⟩
  have HO := Lib.hid ho
  have HB := Lib.hid hb
  clear ho hb
  go_wp2_with fail
  go_loopw [3, 12] (fun bv' i wr => ∃ j : Nat, j ≤ N ∧ i = .int .i64 j ∧ wr.ownsRow w.heap.size 5 1 bv' ((enc N ++ (r.take j).flatMap encV).map bv).length ((enc N ++ (r.take j).flatMap encV).map bv) ∧ Ext w wr) (fun _ i _ => N - (intOf i).toNat)
  case atStart => exact ⟨0, Nat.zero_le _, rfl, by simpa using HO.out, HB.out⟩
  case round =>
    obtain ⟨j, hj, rfl, ho, hx⟩ := hrel
    have HO2 := Lib.hid ho
    have HX := Lib.hid hx
    clear ho hx
    by_cases hlt : j < N
    · have hjl : j < r.length := by have := HN.out; omega
      obtain ⟨g, off, rfl, c0, c1, c2⟩ := HRC.out j hjl
      have x0 := (HX.out.cell (lt_of_cell c0)).trans c0
      have x1 := (HX.out.cell (lt_of_cell c1)).trans c1
      have x2 := (HX.out.cell (lt_of_cell c2)).trans c2
      have HTS := Lib.hid (List.take_succ_eq_append_getElem hjl)
      have hlj : (r.take j).length ≤ 400 := by rw [List.length_take]; omega
      have HLE := Lib.hid (show (enc N ++ (r.take j).flatMap encV).length ≤ 1000000 by
        rw [List.length_append]
        have := HVL.out j
        have := HEL.out
        have := Nat.mul_le_mul_left 2000 hlj
        omega)
      have HPUT := Lib.hid (fun W => Put_any (.slice none 0 0) [] r[j] W (.inl ⟨rfl, rfl⟩) (by simp) (HF.out r[j] (List.getElem_mem hjl)).1 (HF.out r[j] (List.getElem_mem hjl)).2)
      have HEV := Lib.hid (encV_le r[j])
      generalize r[j] = v at x0 x1 x2 HTS HPUT HEV
      obtain ⟨vk, vn, vs⟩ := v
      unfold V.val at HPUT
      simp only at x0 x1 x2 HPUT
      clear c0 c1 c2 hlj
      go_wp2_with fail
      refine (HPUT.out _).mono ?_
      rintro e w3 ⟨v3, rfl, ho3, hb3⟩
      rw [List.nil_append, List.length_map] at ho3
      have HEP := Lib.hid (encV_pos ⟨vk, vn, vs⟩)
      have HR3 := Lib.hid (show Rd w3 v3 (encV ⟨vk, vn, vs⟩) from RdV.of_owns ho3)
      obtain ⟨va, vc, rfl, -, -, -, -⟩ := owns_shape ho3 HEP.out
      obtain ⟨x, cap3, hve, hcl, hcm, hcc⟩ : ∃ x cap, Value.slice (some ⟨va, 0, none⟩) (encV ⟨vk, vn, vs⟩).length vc = .slice (some x) ((encV ⟨vk, vn, vs⟩).map bv).length cap ∧ ((encV ⟨vk, vn, vs⟩).map bv).length ≤ cap ∧ cap ≤ maxLen ∧ ∀ i u, ((encV ⟨vk, vn, vs⟩).map bv)[i]? = some u → w3.cell? (x.add i) = some u := by
        rcases HR3.out with ⟨h, -⟩ | h
        · cases h
        · exact h
      simp only [Value.slice.injEq, Option.some.injEq] at hve
      obtain ⟨hve1, -, hve2⟩ := hve
      subst hve1
      subst hve2
      have HCC := Lib.hid hcc
      have HX3 := Lib.hid (Ext.trans HX.out (Ext.trans (ext_new wr _) hb3))
      have HWR := Lib.hid HX3.out.size
      have HO4 := Lib.hid (owns_extS HO2.out (Ext.trans (ext_new wr _) hb3))
      have HONE := Lib.hid (bv_oneCell (encV ⟨vk, vn, vs⟩))
      have HLN := Lib.hid (show ((encV ⟨vk, vn, vs⟩).map bv).length = (encV ⟨vk, vn, vs⟩).length * 1 by rw [List.length_map, Nat.mul_one])
      have HLM := Lib.hid (show ((enc N ++ (r.take j).flatMap encV).map bv).length = (enc N ++ (r.take j).flatMap encV).length by rw [List.length_map])
      clear ho3 hb3 hcl hcm hcc HPUT
      go_wp2_with (at_builtin; go_must (refine wpList_append_own _ rfl (.tmp 16) (.tmp 18) 36 rfl w.heap.size 5 i1 (.int .u8 0) 1 1 Tryz.underlying36 hi1 hy0 hy1 hy2 rfl (by decide) _ _ _ rfl HO4.out ⟨va, 0, none⟩ (encV ⟨vk, vn, vs⟩).length vc ((encV ⟨vk, vn, vs⟩).map bv) rfl HLN.out HCC.out HONE.out (by have := HLE.out; have := HEV.out; have := HLM.out; unfold maxLen; omega) (by have := HLE.out; have := HEV.out; have := HLM.out; omega) HWR.out ?_); intro v5 w5 h5a h5b _; have HO5 := Lib.hid h5a; have HG5 := Lib.hid h5b; clear h5a h5b)
      go_roundw
      case rel =>
        refine ⟨j + 1, by omega, by go_num, ?_, ?_⟩
        · rw [HTS.out, List.flatMap_append, ← List.append_assoc]
          have h := HO5.out
          simpa [Nat.add_assoc] using h
        · exact (show Below w.heap.size w w3 from HX3.out).grown HG5.out HWR.out fun b hb => (HO4.out.lt b hb).1
      case measure => simp [intOf]; omega
    · have HALL := Lib.hid (show r.take j = r from List.take_of_length_le (by have := HN.out; omega))
      go_wp2_with fail
      go_ret
      refine ⟨_, rfl, ?_, HX.out⟩
      rw [HRB.out]
      have h := HO2.out
      rwa [HALL.out] at h
end Go.Proofs.YtaoegcakefodaaaGreat

namespace Go.Proofs.YtaoegcakefodaaaGreat
open Go.RowKit
theorem dropS_in (ids : List Nat) (s : St) (i : Nat) (hi : i ∈ ids) : (dropS s (intsN ids))[i]? = if i < s.length then some none else none := by
  by_cases h : i < s.length
  · rw [if_pos h]
    exact dropS_self ids s i hi h
  · rw [if_neg h, List.getElem?_eq_none]
    rw [dropS_length]
    omega
theorem dropS_out (ids : List Nat) (s : St) (i : Nat) (hi : i ∉ ids) : (dropS s (intsN ids))[i]? = s[i]? :=
  dropS_other _ s i fun j hj e => by
    obtain ⟨q, hq, rfl⟩ := List.mem_map.1 hj
    exact hi (by have : q = i := by omega
                 exact this ▸ hq)
theorem dropS_taken (s : St) (b : List UInt8) (k : Nat) (a : List Nat) : dropS (storeK s b k) (intsN (a ++ idsK s k)) = dropS s (intsN a) := by
  apply List.ext_getElem?
  intro i
  have hlen := storeK_length s b k
  by_cases ha : i ∈ a
  · rw [dropS_in _ _ i (List.mem_append.2 (.inl ha)), dropS_in _ _ i ha, hlen]
  · rw [dropS_out a s i ha]
    by_cases hi : i ∈ idsK s k
    · have hf := takeS_free k 0 s i hi
      rw [Nat.sub_zero] at hf
      rw [dropS_in _ _ i (List.mem_append.2 (.inr hi)), hlen, if_pos (List.getElem?_eq_some_iff.1 hf).1, hf]
    · rw [dropS_out _ _ i (fun h => (List.mem_append.1 h).elim ha hi)]
      exact writesS_other _ _ _ _ hi
end Go.Proofs.YtaoegcakefodaaaGreat

