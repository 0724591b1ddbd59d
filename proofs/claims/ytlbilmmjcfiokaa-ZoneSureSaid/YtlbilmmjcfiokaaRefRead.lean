/-
  The contracts of the document's own reader.
-/
import Derived.Test.YtlbilmmjcfiokaaRef
import Derived.Test.YtlbilmmjcfiokaaRead
import Derived.Test.YtlbilmmjcfiokaaFormOnly
import Derived.Outline
import Derived.LoopN
namespace Go.Proofs.Ytlbilmmjcfiokaa
open Go.RowKit Go.BigFrame

abbrev RRef (B : Nat) (w : World) (b : Nat) (l : List UInt8) (bad : Bool) : Prop := RdrT 59 B w b l bad

theorem refSpoilt {T : TypeId} (B : Nat) {w : World} {b : Nat} {v : Value} {bad : Bool} (hb : w.heap[b]? = some (.cells #[v, .bool bad] T (0, 0))) :
    RdrT T B ((w.setCell ⟨b, 1, none⟩ (.bool true)).setCell ⟨b, 0, none⟩ (.slice none 0 0)) b [] true ∧ Only b w ((w.setCell ⟨b, 1, none⟩ (.bool true)).setCell ⟨b, 0, none⟩ (.slice none 0 0)) := by
  refine ⟨⟨.slice none 0 0, ?_, Rd.nil _, fun k hk => by cases hk⟩, ⟨rfl, rfl, rfl, by simp [World.setCell], fun k _ hk => ?_⟩⟩
  · simp [World.setCell, Array.getElem?_modify, hb]
  · have hne : k ≠ b := fun e => hk (by rw [e])
    rw [Below.heap_setCell _ _ _ _ hne, Below.heap_setCell _ _ _ _ hne]

theorem refFail_any (B b : Nat) (l : List UInt8) (bad : Bool) (w : World) (h : RRef B w b l bad) :
    Calls Try.prog 85 #[.pointer (some ⟨b, 0, none⟩)] w fun e w' => e = .returned (.int .u64 0) ∧ RRef B w' b [] true ∧ Only b w w' := by
  obtain ⟨v, hb, _, _⟩ := h
  have hS := refSpoilt B hb
  have h0 := Rdr.cell0 hb
  have h1 := Rdr.cell1 hb
  have f0 := Rdr.free hb 0
  have f1 := Rdr.free hb 1
  have HS := Lib.hid hS
  clear hb hS
  go_enter Try.func85, Try.ntmps85
  go_wp2
  go_ret
  exact ⟨rfl, HS.out⟩

set_option maxRecDepth 100000 in
set_option maxHeartbeats 400000 in
theorem refRNum_empty (B b : Nat) (bad : Bool) (w : World) (h : RRef B w b [] bad) :
    Calls Try.prog 63 #[.pointer (some ⟨b, 0, none⟩)] w fun e w' => e = .returned (.int .u64 0) ∧ RRef B w' b [] true ∧ Only b w w' := by
  have HH := Lib.hid h
  obtain ⟨v, hb, hr, _⟩ := h
  obtain ⟨a, cap, rfl, _, _⟩ := hr.shape
  have h0 := Rdr.cell0 hb
  rw [List.length_nil] at h0
  clear hb hr
  go_enter Try.func63, Try.ntmps63
  go_wp2_with fail
  refine (refFail_any B b [] bad _ HH.out).mono ?_
  rintro e w1 ⟨rfl, hs⟩
  have HS := Lib.hid hs
  clear hs
  go_wp2_with fail
  go_ret
  exact ⟨rfl, HS.out⟩

set_option maxRecDepth 100000 in
set_option maxHeartbeats 400000 in
theorem refRNum_short (B b : Nat) (c : UInt8) (t : List UInt8) (bad : Bool) (w : World) (h : RRef B w b (c :: t) bad) (hc : 248 ≤ c.toNat) (hs : t.length < c.toNat - 247) :
    Calls Try.prog 63 #[.pointer (some ⟨b, 0, none⟩)] w fun e w' => e = .returned (.int .u64 0) ∧ RRef B w' b [] true ∧ Only b w w' := by
  have HH := Lib.hid h
  obtain ⟨v, hb, hr, _⟩ := h
  rcases hr with ⟨rfl, h1⟩ | ⟨x, cap, rfl, h2, h3, h4⟩
  · cases h1
  · have hc0 := h4 0 (bv c) (by simp)
    rw [add_zero] at hc0
    obtain ⟨bb, off, rfl, _⟩ := plain_of hc0
    obtain ⟨L, hLd⟩ : ∃ L, L = t.length + 1 := ⟨_, rfl⟩
    have hL : ((c :: t).map bv).length = L := by rw [hLd]; simp
    rw [hL] at h2 hb
    have hb8 := c.toNat_lt
    have h0 := Rdr.cell0 hb
    unfold bv at hc0
    generalize c.toNat = C at *
    have hLp : 0 < L := by omega
    have hlne : ((L : Int) == 0) = false := by rw [beq_eq_false_iff_ne]; omega
    have hL3 : L < 1 + C - 247 := by omega
    unfold maxLen at h3
    clear hb h4 hL hLd
    go_enter Try.func63, Try.ntmps63
    go_wp2_with fail
    refine (refFail_any B b _ bad _ HH.out).mono ?_
    rintro e w1 ⟨rfl, hs⟩
    have HS := Lib.hid hs
    clear hs
    go_wp2_with fail
    go_ret
    exact ⟨rfl, HS.out⟩

/-- What the reference's loop comes to: the number that the first byte, or the bytes behind it, hold. -/
def refVal (c : UInt8) (t : List UInt8) : Nat := if c.toNat < 248 then c.toNat else val (t.take (c.toNat - 247))
/-- How many bytes it has looked at. -/
def refLen (c : UInt8) : Nat := if c.toNat < 248 then 1 else 1 + (c.toNat - 247)

theorem refVal_lt (c : UInt8) (t : List UInt8) : refVal c t < 18446744073709551616 := by
  have hc := c.toNat_lt
  unfold refVal
  split
  · omega
  · have h1 := val_lt (t.take (c.toNat - 247))
    have h4 := Nat.pow_le_pow_right (show 0 < 256 by decide) (show (t.take (c.toNat - 247)).length ≤ 8 by rw [List.length_take]; omega)
    have h5 : (256 : Nat) ^ 8 = 18446744073709551616 := by decide
    omega

/-- The reference's test is the document's. -/
theorem front_of_ref (c : UInt8) (t : List UInt8) (hl : refLen c ≤ t.length + 1) (h : enc (refVal c t) = (c :: t).take (refLen c)) : front (c :: t) = (refVal c t, refLen c) := by
  have h1 := front_enc (refVal c t) ((c :: t).drop (refLen c)) (refVal_lt c t)
  rw [h, List.take_append_drop] at h1
  rw [h1, List.length_take, List.length_cons, Nat.min_eq_left hl]
theorem front_is_ref (c : UInt8) (t : List UInt8) (h : (front (c :: t)).2 ≠ 0) : front (c :: t) = (refVal c t, refLen c) := by
  by_cases hs : c.toNat < 248
  · simp only [front, refVal, refLen, if_pos hs]
  · simp only [front, if_neg hs] at h ⊢
    simp only [refVal, refLen, if_neg hs]
    by_cases h4 : t.length < c.toNat - 247
    · rw [if_pos h4] at h; exact absurd rfl h
    · rw [if_neg h4] at h ⊢
      by_cases h5 : val (t.take (c.toNat - 247)) < 248 ∨ 1 < c.toNat - 247 ∧ t.head? = some 0
      · rw [if_pos h5] at h; exact absurd rfl h
      · rw [if_neg h5]
theorem ref_of_front (c : UInt8) (t : List UInt8) (h : (front (c :: t)).2 ≠ 0) : enc (refVal c t) = (c :: t).take (refLen c) := by
  have e := front_is_ref c t h
  rw [e] at h
  obtain ⟨_, h2, h3⟩ := front_sound (c :: t) _ _ e h
  have h4 := congrArg (List.take (refLen c)) h3
  rw [List.take_append_of_le_length (by omega), h2, List.take_length] at h4
  rw [← h4, h2]

/-- An encoder onto nil, and what string(..) of it is from then on. -/
theorem Num_of {f : FuncId} (H : ∀ (v : Value) (l : List UInt8) (n : Nat) (w : World), Rd w v l → l.length + 9 ≤ 140737488355328 → n ≤ 18446744073709551615 → Calls Try.prog f #[v, .int .u64 n] w (Fresh 5 w ((l ++ enc n).map bv)))
    (n : Nat) (w : World) (h1 : n ≤ 18446744073709551615) :
    Calls Try.prog f #[.slice none 0 0, .int .u64 n] w fun e w' => ∃ v, e = .returned v ∧ (∀ p : Later Ext w', (convert 33 9 v).run Try.prog p.val = .ok (.string ⟨(enc n).toArray⟩) p.val) ∧ Ext w w' := by
  refine (H (.slice none 0 0) [] n w (Rd.nil w) (by simp) h1).mono ?_
  rintro e w1 ⟨v, rfl, hown, hb⟩
  rw [List.nil_append] at hown
  exact ⟨v, rfl, fun p => (Rd.mono (RdV.of_owns hown) p.ext).string _ _ _ Try.underlying33 Try.underlying5 Try.underlying9, hb⟩

theorem only_after {b : Nat} {x y z : World} (h : Ext x y) (k : Only b y z) : Only b x z :=
  ⟨k.os.trans h.os, k.tape.trans h.tape, k.output.trans h.output, Nat.le_trans h.size k.size, fun i hi hne => (k.block i (Nat.lt_of_lt_of_le hi h.size) hne).trans (h.block i hi)⟩

set_option maxRecDepth 100000 in
set_option maxHeartbeats 2000000 in
/-- Bytes enough: the number is taken where its bytes are its encoding, else the reader fails. -/
theorem refRNum_long (B b : Nat) (c : UInt8) (t : List UInt8) (bad : Bool) (w : World) (h : RRef B w b (c :: t) bad) (hc : 248 ≤ c.toNat) (hs : c.toNat - 247 ≤ t.length) :
    Calls Try.prog 63 #[.pointer (some ⟨b, 0, none⟩)] w fun e w' =>
      (enc (refVal c t) = (c :: t).take (refLen c) → e = .returned (.int .u64 (refVal c t)) ∧ RRef B w' b ((c :: t).drop (refLen c)) bad ∧ Only b w w') ∧
      (enc (refVal c t) ≠ (c :: t).take (refLen c) → e = .returned (.int .u64 0) ∧ RRef B w' b [] true ∧ Only b w w') := by
  have HH := Lib.hid h
  obtain ⟨v, hb, hr, hB⟩ := h
  have HRD := Lib.hid hr
  rcases hr with ⟨rfl, h1⟩ | ⟨x, cap, rfl, h2, h3, h4⟩
  · cases h1
  · have hc0 := h4 0 (bv c) (by simp)
    rw [add_zero] at hc0
    obtain ⟨bb, off, rfl, _⟩ := plain_of hc0
    obtain ⟨L, hLd⟩ : ∃ L, L = t.length + 1 := ⟨_, rfl⟩
    have hL : ((c :: t).map bv).length = L := by rw [hLd]; simp
    rw [hL] at h2 hb HRD
    have hb8 := c.toNat_lt
    have h0 := Rdr.cell0 hb
    have f0 := Rdr.free hb 0
    have hrl : refLen c = 1 + (c.toNat - 247) := if_neg (by omega)
    have hrv : refVal c t = val (t.take (c.toNat - 247)) := if_neg (by omega)
    have hcells : ∀ j, (hj : j < t.length) → w.cell? ⟨bb, off + (j + 1), none⟩ = some (.int .u8 (t[j].toNat : Int)) := fun j hj => by
      have := h4 (j + 1) (bv t[j]) (by simp only [List.map_cons, List.getElem?_cons_succ, List.getElem?_map, List.getElem?_eq_getElem hj, Option.map_some])
      rw [add_at] at this
      exact this
    have hlt := refVal_lt c t
    have HC := Lib.hid hcells
    have HRV := Lib.hid hrv
    have HRL := Lib.hid hrl
    have HTL := Lib.hid (show L = t.length + 1 from hLd)
    have HB0 := Lib.hid hb
    have H4 := Lib.hid h4
    have HBB := Lib.hid (hB bb rfl)
    have HM := Lib.hid h3
    unfold bv at hc0
    obtain ⟨C, hC⟩ : ∃ C, C = c.toNat := ⟨_, rfl⟩
    rw [← hC] at hc0 hc hs hb8
    have HCC := Lib.hid hC
    have hLp : 0 < L := by omega
    have hlne : ((L : Int) == 0) = false := by rw [beq_eq_false_iff_ne]; omega
    have hL3 : 1 + C - 247 ≤ L := by omega
    have hsh : decide ((L : Int) < 1 + ((C : Int) - 247)) = false := decide_eq_false (by omega)
    unfold maxLen at h3
    clear hb h4 hL hLd hB hcells hrv hrl hC
    go_enter Try.func63, Try.ntmps63
    go_wp2_with fail
    go_loop [4, 5] (fun n i => ∃ j : Nat, j ≤ C - 247 ∧ i = .int .i64 ((j : Int) + 1) ∧ n = .int .u64 (val (t.take j))) (fun _ i => (C - 247 + 1) - (intOf i).toNat)
    case atStart => exact ⟨0, Nat.zero_le _, rfl, rfl⟩
    case round =>
      obtain ⟨j, hj, rfl, rfl⟩ := hrel
      by_cases hlt2 : j < C - 247
      · have hjt : j < t.length := by have := HTL.out; omega
        have hcj := HC.out j hjt
        have hts := val_take_snoc t j hjt
        have hv7 : val (t.take j) ≤ 72057594037927935 := by
          have h1 := val_lt (t.take j)
          have h4 := Nat.pow_le_pow_right (show 0 < 256 by decide) (show (t.take j).length ≤ 7 by rw [List.length_take]; omega)
          have h5 : (256 : Nat) ^ 7 = 72057594037927936 := by decide
          omega
        have hc8 := t[j].toNat_lt
        have HTS := Lib.hid hts
        generalize t[j].toNat = d at *
        have hle : decide ((j : Int) + 1 ≤ (C : Int) - 247) = true := decide_eq_true (by omega)
        clear hts
        go_wp2
        go_round
        case rel => exact ⟨j + 1, by omega, by go_num, by rw [HTS.out]; go_num⟩
        case measure => simp [intOf]; omega
      · have hjC : j = C - 247 := by omega
        have hle : decide ((j : Int) + 1 ≤ (C : Int) - 247) = false := decide_eq_false (by omega)
        rw [hjC, HCC.out]
        go_wp2_with fail
        rw [← HRV.out]
        obtain ⟨k, hk⟩ : ∃ k : Nat, k = c.toNat - 247 := ⟨_, rfl⟩
        have hCk := HCC.out
        rw [show ((c.toNat : Int) - 247) = (k : Int) by omega]
        have hkl : refLen c = 1 + k := by rw [HRL.out]; omega
        have hkc : 1 + k ≤ cap := by omega
        have hkL : 1 + k ≤ L := by omega
        have HKL := Lib.hid hkl
        have HK := Lib.hid hk
        clear hkl hk hCk
        have hc0' : ∀ z : Later Ext w.drew, z.val.cell? ⟨b, 0, none⟩ = some (.slice (some ⟨bb, off, none⟩) L cap) := fun z => by
          rw [z.ext.cell (p := ⟨b, 0, none⟩) (lt_of_cell (w := w.drew) h0)]; exact h0
        have htk : Rd w (.slice (some ⟨bb, off, none⟩) (1 + k) cap) ((c :: t).take (1 + k)) := by
          rcases HRD.out with ⟨h, _⟩ | ⟨x', cap', hx, h5, h6, h7⟩
          · cases h
          · simp only [Value.slice.injEq, Option.some.injEq] at hx
            obtain ⟨rfl, _, rfl⟩ := hx
            have := RdV.takes h5 h6 h7 (1 + k) (1 + k) (by rw [List.length_map, List.length_cons]; have := HTL.out; omega)
            rwa [← List.map_take] at this
        have hcv : ∀ z : Later Ext w.drew, (convert 33 9 (.slice (some ⟨bb, off, none⟩) (1 + k) cap)).run Try.prog z.val = .ok (.string ⟨((c :: t).take (1 + k)).toArray⟩) z.val := fun z => (Rd.mono htk (Ext.trans (Ext.drew _) z.ext)).string _ _ _ Try.underlying33 Try.underlying5 Try.underlying9
        obtain ⟨y, hy⟩ : ∃ y, y = (c :: t).take (1 + k) := ⟨_, rfl⟩
        rw [← hy] at hcv
        have HY := Lib.hid (show y = (c :: t).take (refLen c) by rw [hy, HKL.out])
        have HTK := Lib.hid htk
        clear hy htk
        refine wp_region_segs Ext Ext.keeps [([0, 3, 4, 5, 6, 7, 8, 9, 10], some 1), ([2, 11], none)] (by kernel_rfl) (by kernel_rfl) (fun c a a' w e h => (by exact ⟨e ▸ h.1, h.2⟩)) ?_
        simp only [pickSegs, pickOps, List.map_cons, List.map_nil, Option.map_some, Option.map_none, Option.getD_some, List.getElem?_toArray, List.getElem?_cons_zero, List.getElem?_cons_succ]
        refine wpSegs_some fun K hK => ?_
        repeat go_big_quiet_step (fail)
        refine wpQuiet_nil ?_
        clear hc0' hcv
        go_wp2_with fail
        refine (Num_of refNum_any (refVal c t) _ (by omega)).mono ?_
        rintro e w5 ⟨v5, rfl, hc5, hb5⟩
        go_wp2_with fail
        refine ⟨hb5, hK _ _ ?_⟩
        clear hK K
        have H5 := Lib.hid hb5
        have HH5 := Lib.hid (Rdr.mono HH.out (Ext.trans (Ext.drew _) hb5))
        clear hb5
        by_cases heq : enc (refVal c t) = y
        · have hbeq : (enc (refVal c t) == y) = true := by rw [heq]; exact beq_self_eq_true _
          have HEQ := Lib.hid heq
          clear heq
          refine wpSegs_none ?_
          repeat go_big_quiet_step (fail)
          refine wpQuiet_nil ?_
          refine wpSegs_nil ?_
          clear hc5
          have E5 := Ext.trans (Ext.drew _) H5.out
          have hb5 : w5.heap[b]? = some (.cells #[.slice (some ⟨bb, off, none⟩) L cap, .bool bad] 59 (0, 0)) := (E5.block b (Array.getElem?_eq_some_iff.1 HB0.out).1).trans HB0.out
          have hst := fun a' ha ha' => Rdr.step (B := B) (s := 1 + k) (l := c :: t) hb5 (by rw [List.length_cons]; exact HTL.out) (by rw [List.length_cons, ← HTL.out]; omega) HM.out (fun i u hu => (E5.cell (lt_of_cell (H4.out i u hu))).trans (H4.out i u hu)) HBB.out (by rw [List.length_cons, ← HTL.out]; omega) a' ha ha'
          have h05 := Rdr.cell0 hb5
          have f05 := Rdr.free hb5 0
          have HST := Lib.hid hst
          have HE5 := Lib.hid E5
          clear hst hb5 E5 h0 f0
          by_cases hcs : cap = 1 + k
          · have HST2 := Lib.hid (HST.out ⟨bb, off, none⟩ rfl (fun hh => by rw [List.length_cons, ← HTL.out] at hh; omega))
            rw [show cap - (1 + k) = 0 by omega] at HST2
            have HCS := Lib.hid hcs
            clear HST
            go_wp2_with fail
            go_ret
            refine ⟨fun _ => ⟨rfl, by rw [HKL.out]; exact HST2.out.1, only_after HE5.out HST2.out.2⟩, fun h => absurd (HEQ.out.trans HY.out) h⟩
          · have HST2 := Lib.hid (HST.out ⟨bb, off + (1 + k), none⟩ rfl (fun _ i => add_add bb off (1 + k) i))
            clear HST
            go_wp2_with fail
            go_ret
            refine ⟨fun _ => ⟨rfl, by rw [HKL.out]; exact HST2.out.1, only_after HE5.out HST2.out.2⟩, fun h => absurd (HEQ.out.trans HY.out) h⟩
        · have hbeq : (enc (refVal c t) == y) = false := by rw [beq_eq_false_iff_ne]; exact heq
          have HEQ := Lib.hid heq
          clear heq
          refine wpSegs_none ?_
          repeat go_big_quiet_step (fail)
          refine wpQuiet_nil ?_
          refine wpSegs_nil ?_
          clear hc5
          go_wp2_with fail
          refine (refFail_any B b _ bad _ HH5.out).mono ?_
          rintro e w6 ⟨rfl, hs6⟩
          have HS6 := Lib.hid hs6
          clear hs6
          go_wp2_with fail
          go_ret
          refine ⟨fun h => absurd (h.trans HY.out.symm) HEQ.out, fun _ => ⟨rfl, HS6.out.1, ?_⟩⟩
          exact only_after (Ext.trans (Ext.drew _) H5.out) HS6.out.2

set_option maxRecDepth 100000 in
set_option maxHeartbeats 1000000 in
theorem refRNum_small (B b : Nat) (c : UInt8) (t : List UInt8) (bad : Bool) (w : World) (h : RRef B w b (c :: t) bad) (hc : c.toNat < 248) :
    Calls Try.prog 63 #[.pointer (some ⟨b, 0, none⟩)] w fun e w' => e = .returned (.int .u64 c.toNat) ∧ RRef B w' b t bad ∧ Only b w w' := by
  have HH := Lib.hid h
  obtain ⟨v, hb, hr, hB⟩ := h
  have HRD := Lib.hid hr
  rcases hr with ⟨rfl, h1⟩ | ⟨x, cap, rfl, h2, h3, h4⟩
  · cases h1
  · have hc0 := h4 0 (bv c) (by simp)
    rw [add_zero] at hc0
    obtain ⟨bb, off, rfl, _⟩ := plain_of hc0
    obtain ⟨L, hLd⟩ : ∃ L, L = t.length + 1 := ⟨_, rfl⟩
    have hL : ((c :: t).map bv).length = L := by rw [hLd]; simp
    rw [hL] at h2 hb HRD
    have h0 := Rdr.cell0 hb
    have f0 := Rdr.free hb 0
    have HTL := Lib.hid (show L = t.length + 1 from hLd)
    have HB0 := Lib.hid hb
    have H4 := Lib.hid h4
    have HBB := Lib.hid (hB bb rfl)
    have HM := Lib.hid h3
    unfold bv at hc0
    have hLp : 0 < L := by omega
    have hlne : ((L : Int) == 0) = false := by rw [beq_eq_false_iff_ne]; omega
    have hnl : ¬ L < 1 := by omega
    have hcap1 : 1 ≤ cap := by omega
    unfold maxLen at h3
    have henc : enc c.toNat = [c] := by unfold enc; rw [if_pos hc]; simp
    have hbeq : (enc c.toNat == [c]) = true := by rw [henc]; exact beq_self_eq_true _
    clear hb h4 hL hLd hB henc
    go_enter Try.func63, Try.ntmps63
    go_wp2_with fail
    refine wp_loop_rounds 1 ?_
    rw [rounds_succ]
    go_wp2_with fail
    have hc0' : ∀ z : Later Ext w.drew, z.val.cell? ⟨b, 0, none⟩ = some (.slice (some ⟨bb, off, none⟩) L cap) := fun z => by
      rw [z.ext.cell (p := ⟨b, 0, none⟩) (lt_of_cell (w := w.drew) h0)]; exact h0
    have htk : Rd w (.slice (some ⟨bb, off, none⟩) 1 cap) [c] := by
      rcases HRD.out with ⟨h, _⟩ | ⟨x', cap', hx, h5, h6, h7⟩
      · cases h
      · simp only [Value.slice.injEq, Option.some.injEq] at hx
        obtain ⟨rfl, _, rfl⟩ := hx
        have := RdV.takes h5 h6 h7 1 1 (by rw [List.length_map, List.length_cons]; omega)
        rwa [← List.map_take] at this
    have hcv : ∀ z : Later Ext w.drew, (convert 33 9 (.slice (some ⟨bb, off, none⟩) 1 cap)).run Try.prog z.val = .ok (.string ⟨[c].toArray⟩) z.val := fun z => (Rd.mono htk (Ext.trans (Ext.drew _) z.ext)).string _ _ _ Try.underlying33 Try.underlying5 Try.underlying9
    obtain ⟨y, hy⟩ : ∃ y, y = [c] := ⟨_, rfl⟩
    rw [← hy] at hcv hbeq
    have hcu := c.toNat_lt
    clear htk hy
    refine wp_region_segs Ext Ext.keeps [([0, 3, 4, 5, 6, 7, 8, 9, 10], some 1), ([2, 11], none)] (by kernel_rfl) (by kernel_rfl) (fun c a a' w e h => (by exact ⟨e ▸ h.1, h.2⟩)) ?_
    simp only [pickSegs, pickOps, List.map_cons, List.map_nil, Option.map_some, Option.map_none, Option.getD_some, List.getElem?_toArray, List.getElem?_cons_zero, List.getElem?_cons_succ]
    refine wpSegs_some fun K hK => ?_
    repeat go_big_quiet_step (fail)
    refine wpQuiet_nil ?_
    clear hc0' hcv
    go_wp2_with fail
    refine (Num_of refNum_any c.toNat _ (by omega)).mono ?_
    rintro e w5 ⟨v5, rfl, hc5, hb5⟩
    go_wp2_with fail
    refine ⟨hb5, hK _ _ ?_⟩
    clear hK K
    have H5 := Lib.hid hb5
    clear hb5
    refine wpSegs_none ?_
    repeat go_big_quiet_step (fail)
    refine wpQuiet_nil ?_
    refine wpSegs_nil ?_
    clear hc5
    have E5 := Ext.trans (Ext.drew _) H5.out
    have hb5 : w5.heap[b]? = some (.cells #[.slice (some ⟨bb, off, none⟩) L cap, .bool bad] 59 (0, 0)) := (E5.block b (Array.getElem?_eq_some_iff.1 HB0.out).1).trans HB0.out
    have hst := fun a' ha ha' => Rdr.step (B := B) (s := 1) (l := c :: t) hb5 (by rw [List.length_cons]; exact HTL.out) (by rw [List.length_cons, ← HTL.out]; omega) HM.out (fun i u hu => (E5.cell (lt_of_cell (H4.out i u hu))).trans (H4.out i u hu)) HBB.out (by rw [List.length_cons]; omega) a' ha ha'
    have h05 := Rdr.cell0 hb5
    have f05 := Rdr.free hb5 0
    have HST := Lib.hid hst
    have HE5 := Lib.hid E5
    clear hst hb5 E5 h0 f0
    by_cases hcs : cap = 1
    · have HST2 := Lib.hid (HST.out ⟨bb, off, none⟩ rfl (fun hh => by rw [List.length_cons, ← HTL.out] at hh; omega))
      rw [show cap - 1 = 0 by omega, show L - 1 = 0 by omega] at HST2
      subst hcs
      clear HST
      go_wp2_with fail
      go_ret
      exact ⟨rfl, HST2.out.1, only_after HE5.out HST2.out.2⟩
    · have HST2 := Lib.hid (HST.out ⟨bb, off + 1, none⟩ rfl (fun _ i => add_add bb off 1 i))
      clear HST
      go_wp2_with fail
      go_ret
      exact ⟨rfl, HST2.out.1, only_after HE5.out HST2.out.2⟩

theorem refRNum_no (B b : Nat) (l : List UInt8) (bad : Bool) (w : World) (h : RRef B w b l bad) (hf : (front l).2 = 0) :
    Calls Try.prog 63 #[.pointer (some ⟨b, 0, none⟩)] w fun e w' => e = .returned (.int .u64 0) ∧ RRef B w' b [] true ∧ Only b w w' := by
  cases l with
  | nil => exact refRNum_empty B b bad w h
  | cons c t =>
    by_cases hs : c.toNat < 248
    · simp only [front, if_pos hs] at hf; omega
    · by_cases hsh : t.length < c.toNat - 247
      · exact refRNum_short B b c t bad w h (by omega) hsh
      · refine (refRNum_long B b c t bad w h (by omega) (by omega)).mono fun e w' hh => hh.2 fun heq => ?_
        have hl : refLen c ≤ t.length + 1 := by unfold refLen; rw [if_neg hs]; omega
        rw [front_of_ref c t hl heq] at hf
        unfold refLen at hf
        rw [if_neg hs] at hf
        simp at hf

theorem refRNum_yes (B b : Nat) (l : List UInt8) (bad : Bool) (n s : Nat) (w : World) (h : RRef B w b l bad) (hf : front l = (n, s)) (hs : s ≠ 0) :
    Calls Try.prog 63 #[.pointer (some ⟨b, 0, none⟩)] w fun e w' => e = .returned (.int .u64 n) ∧ RRef B w' b (l.drop s) bad ∧ Only b w w' := by
  cases l with
  | nil => simp [front] at hf; omega
  | cons c t =>
    by_cases hc : c.toNat < 248
    · have : front (c :: t) = (c.toNat, 1) := by simp only [front, if_pos hc]
      rw [this] at hf
      simp only [Prod.mk.injEq] at hf
      obtain ⟨rfl, rfl⟩ := hf
      exact refRNum_small B b c t bad w h hc
    · by_cases hsh : t.length < c.toNat - 247
      · have : front (c :: t) = (0, 0) := by simp only [front, if_neg hc, if_pos hsh]
        rw [this] at hf
        simp only [Prod.mk.injEq] at hf
        omega
      · have hne : (front (c :: t)).2 ≠ 0 := by rw [hf]; exact hs
        have he := front_is_ref c t hne
        rw [hf] at he
        simp only [Prod.mk.injEq] at he
        obtain ⟨rfl, rfl⟩ := he
        exact (refRNum_long B b c t bad w h (by omega) (by omega)).mono fun e w' hh => hh.1 (ref_of_front c t hne)

theorem refZag_any (u : Nat) (w : World) (h : u ≤ 18446744073709551615) :
    Calls Try.prog 62 #[.int .u64 u] w fun e w' => e = .returned (.int .i64 (zag u)) ∧ w = w' := by
  by_cases h2 : u % 2 = 1
  · have hz : zag u = -1 - (u / 2 : Nat) := if_pos h2
    have hd : (((u : Int) % 2) == 0) = false := by rw [beq_eq_false_iff_ne]; omega
    rw [hz]
    clear h2 hz
    go_enter Try.func62, Try.ntmps62
    go_wp2
    go_ret
    refine ⟨congrArg Ending.returned (congrArg (Value.int IntKind.i64) ?_), rfl⟩
    omega
  · have hz : zag u = (u / 2 : Nat) := if_neg h2
    have hd : (((u : Int) % 2) == 0) = true := by rw [beq_iff_eq]; omega
    rw [hz]
    clear h2 hz
    go_enter Try.func62, Try.ntmps62
    go_wp2
    go_ret
    exact ⟨rfl, rfl⟩

theorem refRInt_no (B b : Nat) (l : List UInt8) (bad : Bool) (w : World) (h : RRef B w b l bad) (hf : (front l).2 = 0) :
    Calls Try.prog 39 #[.pointer (some ⟨b, 0, none⟩)] w fun e w' => e = .returned (.int .i64 0) ∧ RRef B w' b [] true ∧ Only b w w' := by
  go_enter Try.func39, Try.ntmps39
  go_wp2_with fail
  refine (refRNum_no B b l bad _ h hf).mono ?_
  rintro e w1 ⟨rfl, hs⟩
  have HS := Lib.hid hs
  clear hs
  go_wp2_with fail
  refine (refZag_any 0 _ (by omega)).mono ?_
  rintro e w1 ⟨rfl, rfl⟩
  go_wp2_with fail
  go_ret
  exact ⟨rfl, HS.out⟩
theorem refRInt_yes (B b : Nat) (l : List UInt8) (bad : Bool) (n s : Nat) (w : World) (h : RRef B w b l bad) (hf : front l = (n, s)) (hs : s ≠ 0) :
    Calls Try.prog 39 #[.pointer (some ⟨b, 0, none⟩)] w fun e w' => e = .returned (.int .i64 (zag n)) ∧ RRef B w' b (l.drop s) bad ∧ Only b w w' := by
  have hn := (front_sound l n s hf hs).1
  go_enter Try.func39, Try.ntmps39
  go_wp2_with fail
  refine (refRNum_yes B b l bad n s _ h hf hs).mono ?_
  rintro e w1 ⟨rfl, hs⟩
  have HS := Lib.hid hs
  clear hs
  go_wp2_with fail
  refine (refZag_any n _ (by omega)).mono ?_
  rintro e w1 ⟨rfl, rfl⟩
  go_wp2_with fail
  go_ret
  exact ⟨rfl, HS.out⟩

theorem refEnd_any (B b : Nat) (l : List UInt8) (bad : Bool) (w : World) (h : RRef B w b l bad) :
    Calls Try.prog 40 #[.pointer (some ⟨b, 0, none⟩)] w fun e w' => e = .returned (.int .i64 (if bad = false ∧ l.length = 0 then 0 else 6)) ∧ w = w' := by
  obtain ⟨v, hb, hr, _⟩ := h
  obtain ⟨a, cap, rfl, _, _⟩ := hr.shape
  have h0 := Rdr.cell0 hb
  have h1 := Rdr.cell1 hb
  clear hb hr
  cases bad with
  | true =>
    rw [if_neg (by simp)]
    go_enter Try.func40, Try.ntmps40
    go_wp2
    go_ret
    exact ⟨rfl, rfl⟩
  | false =>
    by_cases hl : l.length = 0
    · rw [if_pos ⟨rfl, hl⟩]
      have hlt : decide (0 < l.length) = false := decide_eq_false (by omega)
      have hnp : ¬ (0 < l.length) := by omega
      clear hl
      go_enter Try.func40, Try.ntmps40
      go_wp2
      go_ret
      exact ⟨rfl, rfl⟩
    · rw [if_neg (fun h => hl h.2)]
      have hlt : decide (0 < l.length) = true := decide_eq_true (by omega)
      have hp : 0 < l.length := by omega
      clear hl
      go_enter Try.func40, Try.ntmps40
      go_wp2
      go_ret
      exact ⟨rfl, rfl⟩

end Go.Proofs.Ytlbilmmjcfiokaa
