/-
  The program's Quote.
-/
import Derived.Test.YtmlaedhmgkcdpaaDoorLikeProg
namespace Go.Proofs.YtmlaedhmgkcdpaaDoor
open Go.RowKit
open Go.Lib (decodeL decodeN)

theorem rune_small (n b0 b1 b2 b3 : Nat) (h : (decodeN n b0 b1 b2 b3).1 < 128) : b0 < 128 ∧ decodeN n b0 b1 b2 b3 = (b0, 1) := by
  unfold Go.Lib.decodeN at h ⊢
  by_cases h0 : b0 < 128
  · simp [h0]
  · exfalso
    rw [if_neg h0] at h
    repeat' split at h
    all_goals simp only at h
    all_goals omega

/-- What is a letter's number where it is one of those that a pattern is made of. -/
theorem rune_special (m : List UInt8) (hm : m ≠ []) (b : UInt8) (hb : b.toNat < 128) : (decodeL m).1 = b.toNat ↔ m.take (wid m) = [b] := by
  obtain ⟨c, r, rfl⟩ : ∃ c r, m = c :: r := by
    cases m with
    | nil => exact absurd rfl hm
    | cons c r => exact ⟨c, r, rfl⟩
  constructor
  · intro h
    have h2 := h
    rw [decodeL_eq] at h2
    obtain ⟨h3, h4⟩ := rune_small _ _ _ _ _ (by rw [h2]; exact hb)
    rw [h4] at h2
    have : c = b := UInt8.toNat_inj.1 h2
    subst this
    rw [wid_ascii c r hb]
    rfl
  · intro h
    have hc : c = b := by
      have hw := wid_bounds (c :: r) hm
      obtain ⟨k, hk⟩ : ∃ k, wid (c :: r) = k + 1 := ⟨wid (c :: r) - 1, by omega⟩
      rw [hk, List.take_succ_cons] at h
      exact (List.cons.inj h).1
    subst hc
    rw [decode_ascii' c r hb]

def spB (r : Nat) : Bool := decide (r = 37) || decide (r = 95) || decide (r = 92)
theorem spB_special (m : List UInt8) (hm : m ≠ []) : spB (decodeL m).1 = special (m.take (wid m)) := by
  have a := rune_special m hm 37 (by decide)
  have b := rune_special m hm 95 (by decide)
  have c := rune_special m hm 92 (by decide)
  unfold spB special
  rw [show (37 : UInt8).toNat = 37 from rfl] at a
  rw [show (95 : UInt8).toNat = 95 from rfl] at b
  rw [show (92 : UInt8).toNat = 92 from rfl] at c
  rw [decide_eq_decide.2 a, decide_eq_decide.2 b, decide_eq_decide.2 c]

theorem special_any (r : Nat) (w : World) :
    Calls Tryd.prog 26 #[.int .i32 r] w fun e w' => e = .returned (.bool (spB r)) ∧ w = w' := by
  unfold spB
  by_cases h1 : r = 37
  · subst h1
    go_enter Tryd.func26, Tryd.ntmps26
    go_wp2_with fail
    go_ret
    exact ⟨rfl, rfl⟩
  · by_cases h2 : r = 95
    · subst h2
      go_enter Tryd.func26, Tryd.ntmps26
      go_wp2_with fail
      go_ret
      exact ⟨rfl, rfl⟩
    · by_cases h3 : r = 92
      · subst h3
        go_enter Tryd.func26, Tryd.ntmps26
        go_wp2_with fail
        go_ret
        exact ⟨rfl, rfl⟩
      · have q1 : ((r : Int) == 37) = false := beq_eq_false_iff_ne.2 (by omega)
        have q2 : ((r : Int) == 95) = false := beq_eq_false_iff_ne.2 (by omega)
        have q3 : ((r : Int) == 92) = false := beq_eq_false_iff_ne.2 (by omega)
        rw [decide_eq_false h1, decide_eq_false h2, decide_eq_false h3]
        clear h1 h2 h3
        go_enter Tryd.func26, Tryd.ntmps26
        go_wp2_with fail
        go_ret
        exact ⟨rfl, rfl⟩

theorem quote_step (m : List UInt8) (hm : m ≠ []) : quote m = qc (m.take (wid m)) ++ quote (m.drop (wid m)) := by unfold quote; rw [lets_cons m hm, List.flatMap_cons]

set_option maxRecDepth 100000 in
set_option maxHeartbeats 1000000 in
theorem Quote_any (l : List UInt8) (w : World) (_hT : Tabs w) (hl : l.length ≤ 5000) :
    Calls Tryd.prog 15 #[sv l] w fun e w' => e = .returned (sv (quote l)) ∧ Ext w w' := by
  have HL := Lib.hid hl
  have HQL := Lib.hid (quote_len l)
  clear hl _hT
  unfold sv
  go_enter Tryd.func15, Tryd.ntmps15
  go_wp2_with fail
  go_loopw [4] (fun f wr => ∃ (fr pos : Nat) (acc : List UInt8), f = .int .i64 fr ∧ fr ≤ pos ∧ pos ≤ l.length ∧ quote l = acc ++ (l.drop fr).take (pos - fr) ++ quote (l.drop pos) ∧ Bld w.heap.size w.heap.size acc wr ∧ wr.heap[w.heap.size + 1]? = some (.stringIter ⟨l.toArray⟩ pos) ∧ Below w.heap.size w wr) (fun _ wr => l.length - wr.iterPos (w.heap.size + 1))
  case atStart =>
    refine ⟨0, 0, [], rfl, Nat.le_refl _, Nat.zero_le _, rfl, (bldFresh w).alloc _, ?_, ((Below.refl _ w).alloc (Nat.le_refl _) _).alloc (by simp) _⟩
    have := World.iter_heap (w.alloc (.cells #[.pointer none, .slice none 0 0] 48)) ⟨l.toArray⟩ 0
    simpa using this
  case round =>
    obtain ⟨fr, pos, acc, rfl, hfp, hpos, hq, hbld, hit, hbel⟩ := hrel
    have HQ := Lib.hid hq
    have HIT := Lib.hid hit
    have HBEL := Lib.hid hbel
    have HBLD := Lib.hid hbld
    have hsz : w.heap.size + 1 < wr.heap.size := (Array.getElem?_eq_some_iff.1 hit).1
    have hacc : acc.length + (pos - fr) ≤ 10000 := by
      have h1 := congrArg List.length hq
      rw [List.length_append, List.length_append, List.length_take, List.length_drop] at h1
      have := HQL.out
      have := HL.out
      omega
    clear hq hbel hbld
    by_cases hlt : pos < l.length
    · have hnx := run_next_letter_at (P := Tryd.prog) wr (w.heap.size + 1) l pos hit hlt
      have hne : l.drop pos ≠ [] := fun h => by rw [List.drop_eq_nil_iff] at h; omega
      have hw := wid_bounds _ hne
      rw [List.length_drop] at hw
      have HW := Lib.hid hw
      have HSP := Lib.hid (spB_special _ hne)
      have HSTEP := Lib.hid (quote_step _ hne)
      have HDD := Lib.hid (List.drop_drop (l := l) (i := wid (l.drop pos)) (j := pos))
      have HIT2 := Lib.hid (Lib.iterAt_heap wr (w.heap.size + 1) ⟨l.toArray⟩ pos (pos + wid (l.drop pos)) hit)
      have HB2 := Lib.hid (Lib.below_iterAt HBEL.out (k := w.heap.size + 1) (by omega) ⟨l.toArray⟩ (pos + wid (l.drop pos)))
      have HBL2 := Lib.hid (show Bld w.heap.size w.heap.size acc (wr.iterAt (w.heap.size + 1) ⟨l.toArray⟩ (pos + wid (l.drop pos))) from Lib.IsBuilderF.iterAt HBLD.out hit _)
      have HS2 := Lib.hid (Lib.iterAt_size wr (w.heap.size + 1) ⟨l.toArray⟩ (pos + wid (l.drop pos)))
      clear hit hw
      generalize hW2 : wr.iterAt (w.heap.size + 1) ⟨l.toArray⟩ (pos + wid (l.drop pos)) = W2 at hnx HIT2 HB2 HBL2 HS2
      clear hW2
      go_wp2_with fail
      refine (special_any _ _).mono ?_
      rintro e w' ⟨rfl, rfl⟩
      rw [HSP.out]
      by_cases hs : special ((l.drop pos).take (wid (l.drop pos))) = true
      · obtain ⟨b, hb, hb2⟩ := special_ascii _ hs
        have HQC := Lib.hid (show qc ((l.drop pos).take (wid (l.drop pos))) = 92 :: (l.drop pos).take (wid (l.drop pos)) by unfold qc; rw [if_pos hs])
        rw [hs]
        clear hs hb hb2
        have HX := Lib.hid (extract_mid l fr pos hpos)
        have HLEN := Lib.hid (show ((l.drop fr).take (pos - fr)).length = pos - fr by rw [List.length_take, List.length_drop]; omega)
        go_wp2_with fail
        rw [HX.out]
        refine (bldWriteString _ _ acc _ W2 HBL2.out (by rw [HLEN.out]; omega) (by have := HS2.out; omega)).mono ?_
        rintro e w3 ⟨⟨n3, rfl⟩, hb3, hbe3, hok3⟩
        have HB3 := Lib.hid hb3
        have HBE3 := Lib.hid (HB2.out.trans hbe3)
        have HIT3 := Lib.hid (hok3.iter HIT2.out (by omega))
        have hsz3 : w.heap.size ≤ w3.heap.size := HBE3.out.size
        clear hb3 hbe3 hok3
        go_wp2_with fail
        refine (bldWriteRune _ _ _ 92 (by decide) w3 HB3.out (by rw [List.length_append, HLEN.out]; omega) hsz3).mono ?_
        rintro e w4 ⟨⟨n4, rfl⟩, hb4, hbe4, hok4⟩
        have HB4 := Lib.hid hb4
        have HBE4 := Lib.hid (HBE3.out.trans hbe4)
        have HIT4 := Lib.hid (hok4.iter HIT3.out (by omega))
        clear hb4 hbe4 hok4
        go_wp2_with fail
        go_roundw
        case rel =>
          refine ⟨pos, pos + wid (l.drop pos), _, rfl, by omega, by have := HW.out; omega, ?_, HB4.out, HIT4.out, HBE4.out⟩
          rw [HQ.out, HSTEP.out, HQC.out, HDD.out, show pos + wid (l.drop pos) - pos = wid (l.drop pos) by omega]
          simp
        case measure =>
          simp only [World.iterPos, HIT.out, HIT4.out]
          have := HW.out
          omega
      · have hs' : special ((l.drop pos).take (wid (l.drop pos))) = false := by simpa using hs
        have HQC := Lib.hid (show qc ((l.drop pos).take (wid (l.drop pos))) = (l.drop pos).take (wid (l.drop pos)) by unfold qc; rw [if_neg hs])
        rw [hs']
        clear hs hs'
        go_wp2_with fail
        go_roundw
        case rel =>
          refine ⟨fr, pos + wid (l.drop pos), acc, rfl, by omega, by have := HW.out; omega, ?_, HBL2.out, HIT2.out, HB2.out⟩
          have hk : pos + wid (l.drop pos) - fr = (pos - fr) + wid (l.drop pos) := by omega
          have hd : (l.drop fr).drop (pos - fr) = l.drop pos := by rw [List.drop_drop, show fr + (pos - fr) = pos by omega]
          rw [HQ.out, HSTEP.out, HQC.out, HDD.out, hk, List.take_add, hd]
          simp
        case measure =>
          simp only [World.iterPos, HIT.out, HIT2.out]
          have := HW.out
          omega
    · have hend := fun ty => Lib.run_next_end_at (P := Tryd.prog) wr (w.heap.size + 1) ⟨l.toArray⟩ pos ty hit hlt
      have HX := Lib.hid (extract_drop l fr (by omega))
      have HQE := Lib.hid (show quote l = acc ++ l.drop fr by
        rw [HQ.out, List.take_of_length_le (by rw [List.length_drop]; omega), List.drop_eq_nil_of_le (show l.length ≤ pos by omega)]
        simp [quote, lets_nil])
      have hfl : fr ≤ l.length := by omega
      have HDL := Lib.hid (show (l.drop fr).length ≤ 5000 by rw [List.length_drop]; have := HL.out; omega)
      have hl5 : l.length ≤ 5000 := HL.out
      have hacc' : acc.length ≤ 10000 := by omega
      clear hit hacc
      go_wp2_with fail
      rw [HX.out]
      refine (bldWriteString _ _ acc _ wr HBLD.out (by have := HDL.out; omega) (by omega)).mono ?_
      rintro e w3 ⟨⟨n3, rfl⟩, hb3, hbe3, hok3⟩
      have HB3 := Lib.hid hb3
      have HBE3 := Lib.hid (HBEL.out.trans hbe3)
      have hsz3 : w.heap.size ≤ w3.heap.size := HBE3.out.size
      clear hb3 hbe3 hok3
      go_wp2_with fail
      refine (bldString _ _ _ w3 HB3.out hsz3).mono ?_
      rintro e w4 ⟨rfl, _, hbe4, _⟩
      have HBE4 := Lib.hid (HBE3.out.trans hbe4)
      clear hbe4
      go_wp2_with fail
      go_ret
      exact ⟨by rw [HQE.out]; rfl, HBE4.out⟩

end Go.Proofs.YtmlaedhmgkcdpaaDoor
