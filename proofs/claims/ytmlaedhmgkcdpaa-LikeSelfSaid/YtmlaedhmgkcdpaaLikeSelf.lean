/-
  The walk of the law LikeSelf.
-/
import Derived.Test.YtmlaedhmgkcdpaaLikeShown
import Derived.Test.YtmlaedhmgkcdpaaRangeText
namespace Go.Proofs.Ytmlaedhmgkcdpaa
open Go.RowKit

set_option maxRecDepth 100000 in
set_option maxHeartbeats 1000000 in
theorem likeSelf_walk (s : ByteArray) (t : ByteArray) (w : World) (hs : s.size ≤ maxLen) (ht : t.size ≤ maxLen) (hT : Tabs w) :
    Calls Try.prog 3 #[.string s, .string t] w fun e w' => e = .returned (.bool true) ∧ Below w.heap.size w w' := by
  obtain ⟨l, rfl, hl⟩ := bytes_list s
  obtain ⟨m, rfl, hm⟩ := bytes_list t
  unfold maxLen at hs ht
  have HT := Lib.hid hT
  have HF := Lib.hid (fun w => few_any l w (by omega))
  have HG := Lib.hid (fun w => few_any m w (by omega))
  have hle := few_le l
  have hme := few_le m
  generalize few l = x at HF hle
  generalize few m = y at HG hme
  have hql := quote_len x
  have HQ := Lib.hid (fun w hT => Quote_any x w hT (by omega))
  have HLL := Lib.hid (lets_length x)
  clear hT hs ht hl hm
  unfold sv at HF HG HQ
  go_enter Try.func3, Try.ntmps3
  go_wp2_with fail
  refine (shown_any _ HT.out).mono ?_
  rintro e w1 ⟨rfl, hb⟩
  have HB1 := Lib.hid hb
  clear hb
  go_wp2_with fail
  refine (HF.out _).mono ?_
  rintro e w' ⟨rfl, rfl⟩
  go_wp2_with fail
  refine (HG.out _).mono ?_
  rintro e w' ⟨rfl, rfl⟩
  go_wp2_with fail
  refine (HQ.out _ (HT.out.mono HB1.out)).mono ?_
  rintro e w2 ⟨rfl, hb⟩
  have HB2 := Lib.hid (Ext.trans HB1.out hb)
  clear hb
  go_wp2_with fail
  go_loopw [9] (fun o wr => ∃ (pos : Nat) (pre : List (List UInt8)), pos ≤ x.length ∧ wr = w2.iter ⟨x.toArray⟩ pos ∧ lets x = pre ++ lets (x.drop pos) ∧ o = sv (wild pre.length)) (fun _ wr => match wr.heap[w2.heap.size]? with | some (.stringIter _ p) => x.length - p | _ => 0)
  case atStart => exact ⟨0, [], Nat.zero_le _, rfl, rfl, rfl⟩
  case round =>
    obtain ⟨pos, pre, hpos, rfl, hlets, rfl⟩ := hrel
    have HLETS := Lib.hid hlets
    clear hlets
    by_cases hlt : pos < x.length
    · have hne : x.drop pos ≠ [] := fun h => by rw [List.drop_eq_nil_iff] at h; omega
      have hw := wid_bounds _ hne
      have HC := Lib.hid (lets_cons _ hne)
      obtain ⟨r, hr⟩ := run_next_letter (P := Try.prog) w2 x pos hlt
      have hpl : pre.length ≤ 300 := by have := HLL.out; have := congrArg List.length HLETS.out; rw [List.length_append] at this; omega
      have hwl : (wild pre.length).length ≤ 300 := by unfold wild; rw [List.length_replicate]; exact hpl
      have HW := Lib.hid (show wild pre.length ++ [95] = wild (pre.length + 1) by unfold wild; rw [List.replicate_succ'])
      unfold sv
      generalize wild pre.length = o at hwl HW ⊢
      go_wp2_with fail
      go_roundw
      case rel =>
        refine ⟨pos + wid (x.drop pos), pre ++ [(x.drop pos).take (wid (x.drop pos))], ?_, rfl, ?_, ?_⟩
        · rw [List.length_drop] at hw; omega
        · rw [HLETS.out, HC.out, List.append_assoc, List.drop_drop]; rfl
        · rw [List.length_append, List.length_singleton, ← HW.out, ← sv_append]
      case measure =>
        simp only [World.iter_heap]
        rw [List.length_drop] at hw
        omega
    · have hposl : pos = x.length := by omega
      have HPRE := Lib.hid (show pre.length = (lets x).length by
        have := congrArg List.length HLETS.out
        rw [hposl, List.drop_length, lets_nil, List.append_nil] at this
        exact this.symm)
      clear hposl
      rw [HPRE.out]
      have hnl : (lets x).length ≤ 300 := by have := HLL.out; omega
      have hend := fun ty => run_next_end (P := Try.prog) w2 ⟨x.toArray⟩ pos ty (by show ¬ pos < x.length; exact hlt)
      have HWL := Lib.hid (show (wild (lets x).length).length ≤ 300 by unfold wild; rw [List.length_replicate]; exact hnl)
      have HW1 := Lib.hid (show wild (lets x).length ++ [95] = wild ((lets x).length + 1) by unfold wild; rw [List.replicate_succ'])
      have HI1 := Lib.hid (show isB (quote x) x = true by rw [is_quote]; exact decide_eq_true rfl)
      have HI3 := Lib.hid (is_all x)
      have HI4 := Lib.hid (show isB (wild (lets x).length) x = true by rw [is_wild]; exact decide_eq_true rfl)
      have HI5 := Lib.hid (show isB (wild (lets x).length ++ [95]) x = false by rw [HW1.out, is_wild]; exact decide_eq_false (by omega))
      have HI6 := Lib.hid (is_wild_all x)
      have HI7 := Lib.hid (show isB ([37] ++ wild (lets x).length) x = true from is_all_wild x)
      unfold sv
      generalize wild (lets x).length = o at HI4 HI5 HI6 HI7 HWL ⊢
      have hol : o.length ≤ 300 := HWL.out
      have HX3 := Lib.hid (show Ext w (w2.iter ⟨x.toArray⟩ pos) from HB2.out.alloc HB2.out.size _)
      go_wp2_with fail
      generalize w2.iter ⟨x.toArray⟩ pos = w3 at HX3 ⊢
      refine (is_any (quote x) x _ (HT.out.mono HX3.out) (by omega) (by omega)).mono ?_
      rintro e w4 ⟨rfl, hb⟩
      rw [HI1.out]
      have HX4 := Lib.hid (Ext.trans HX3.out hb)
      clear hb
      go_wp2_with fail
      refine (is_any (quote x) y _ (HT.out.mono HX4.out) (by omega) (by omega)).mono ?_
      rintro e w5 ⟨rfl, hb⟩
      have HX5 := Lib.hid (Ext.trans HX4.out hb)
      clear hb
      obtain ⟨b, hb1, hb2⟩ : ∃ b : Bool, isB (quote x) y = b ∧ (x == y) = b := by
        rw [is_quote]
        by_cases hxy : x = y
        · exact ⟨true, decide_eq_true hxy, by rw [hxy]; exact beq_self_eq_true _⟩
        · exact ⟨false, decide_eq_false hxy, beq_eq_false_iff_ne.2 hxy⟩
      rw [hb1]
      clear hb1
      have step : ∀ b : Bool, (b == b) = true := fun b => by cases b <;> rfl
      cases b
      all_goals
        go_wp2_with fail
        refine (is_any [37] x _ (HT.out.mono HX5.out) (by decide) (by omega)).mono ?_
        rintro e w6 ⟨rfl, hb⟩
        rw [HI3.out]
        have HX6 := Lib.hid (Ext.trans HX5.out hb)
        clear hb
        go_wp2_with fail
        refine (is_any o x _ (HT.out.mono HX6.out) (by omega) (by omega)).mono ?_
        rintro e w7 ⟨rfl, hb⟩
        rw [HI4.out]
        have HX7 := Lib.hid (Ext.trans HX6.out hb)
        clear hb
        go_wp2_with fail
        rw [sv_append]
        refine (is_any (o ++ [95]) x _ (HT.out.mono HX7.out) (by rw [List.length_append]; simp; omega) (by omega)).mono ?_
        rintro e w8 ⟨rfl, hb⟩
        rw [HI5.out]
        have HX8 := Lib.hid (Ext.trans HX7.out hb)
        clear hb
        go_wp2_with fail
        rw [sv_append]
        refine (is_any (o ++ [37]) x _ (HT.out.mono HX8.out) (by rw [List.length_append]; simp; omega) (by omega)).mono ?_
        rintro e w9 ⟨rfl, hb⟩
        rw [HI6.out]
        have HX9 := Lib.hid (Ext.trans HX8.out hb)
        clear hb
        go_wp2_with fail
        rw [sv_append]
        refine (is_any ([37] ++ o) x _ (HT.out.mono HX9.out) (by rw [List.length_append]; simp; omega) (by omega)).mono ?_
        rintro e w10 ⟨rfl, hb⟩
        rw [HI7.out]
        have HX10 := Lib.hid (Ext.trans HX9.out hb)
        clear hb
        go_wp2_with fail
        go_ret
        exact ⟨rfl, HX10.out⟩

end Go.Proofs.Ytmlaedhmgkcdpaa
