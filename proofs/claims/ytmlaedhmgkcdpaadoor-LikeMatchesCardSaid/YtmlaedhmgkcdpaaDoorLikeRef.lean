/-
  The contracts of the document's own Letters, Parts, Check, Quote, Fixed, Match.
-/
import Derived.Test.YtmlaedhmgkcdpaaDoorDoor
import Derived.Test.YtmlaedhmgkcdpaaDoorSlices
import Derived.Test.YtmlaedhmgkcdpaaDoorLikeKit
namespace Go.Proofs.YtmlaedhmgkcdpaaDoor
open Go.RowKit

theorem decode_any (r : List UInt8) (w : World) (hT : Tabs w) (h : r ≠ []) :
    Calls Tryd.prog 23 #[sv r] w fun e w' => (∃ c : Nat, e = .returned (.tuple #[.int .i32 c, .int .i64 (wid r)])) ∧ Below w.heap.size w w' := by
  have hd : Lib.decodeGo (⟨r.toArray⟩ : ByteArray) = Lib.decodeL r := by
    unfold Lib.decodeGo Lib.decodeL
    rw [if_neg (by
      intro e
      have : r.length = 0 := e
      exact h (List.length_eq_zero_iff.1 this))]
  have := Any.utf8_DecodeRuneInString Tryd.laysDecode (⟨r.toArray⟩ : ByteArray) w hT
  rw [hd] at this
  exact Calls.mono this fun e w' ⟨h1, h2⟩ => ⟨⟨_, h1⟩, h2⟩

set_option maxRecDepth 100000 in
set_option maxHeartbeats 1000000 in
theorem refLetters_any (l : List UInt8) (w : World) (hT : Tabs w) (hl : l.length ≤ 5000) :
    Calls Tryd.prog 12 #[sv l] w (Fresh 9 w ((lets l).map sv)) := by
  obtain ⟨i0, hi, hz0, hz1, hz2⟩ := info_parts Tryd.info_string
  have HT := Lib.hid hT
  have HL := Lib.hid hl
  clear hT hl
  unfold sv
  go_enter Tryd.func12, Tryd.ntmps12
  go_wp2_with fail
  go_loopw [0, 3] (fun s v wr => ∃ pre r, s = sv r ∧ l.length = pre.flatten.length + r.length ∧ lets l = pre ++ lets r ∧ wr.ownsRow w.heap.size 9 1 v pre.length (pre.map sv) ∧ Below w.heap.size w wr) (fun s _ _ => match s with | .string b => b.size | _ => 0)
  case atStart => exact ⟨[], l, rfl, by simp, rfl, World.ownsRow_nil _ _ _ _, Below.refl _ _⟩
  case round =>
    obtain ⟨pre, r, rfl, hlen, hlets, hown, hbel⟩ := hrel
    have HLEN := Lib.hid hlen
    have HLETS := Lib.hid hlets
    have HOWN := Lib.hid hown
    have HBEL := Lib.hid hbel
    clear hlen hlets hown hbel
    by_cases hr : r = []
    · subst hr
      unfold sv
      go_wp2_with fail
      go_ret
      refine ⟨_, rfl, ?_, HBEL.out⟩
      have h1 := HLETS.out
      rw [lets_nil, List.append_nil] at h1
      show wr.ownsRow w.heap.size 9 1 _ _ ((lets l).map sv)
      rw [h1, List.length_map]
      exact HOWN.out
    · have hw := wid_bounds r hr
      have HD := Lib.hid (decode_any r wr (HT.out.mono HBEL.out) hr)
      have HC := Lib.hid (lets_cons r hr)
      have HX1 := Lib.hid (extract_take r (wid r) hw.2.1)
      have HX2 := Lib.hid (extract_drop r (wid r) hw.2.1)
      have HLW := Lib.hid (lets_length l)
      generalize wid r = k at hw HD HC HX1 HX2
      have hpos : decide (0 < r.length) = true := decide_eq_true (List.length_pos_iff.2 hr)
      have hr5 : r.length ≤ 5000 := by have := HL.out; have := HLEN.out; omega
      unfold sv at HD ⊢
      clear hr
      go_wp2_with fail
      refine HD.out.mono ?_
      rintro e w2 ⟨⟨c, rfl⟩, hb2⟩
      have HB2 := Lib.hid hb2
      have HO2 := Lib.hid (owns_later HOWN.out hb2)
      clear hb2
      go_wp2_with (at_builtin; go_loud (refine wpList_append_own _ rfl (.tmp 14) (.tmp 18) 25 rfl w.heap.size 9 i0 (.string ByteArray.empty) 1 16 Tryd.underlying25 hi hz0 hz1 hz2 rfl (by decide) _ _ _ rfl (HO2.out.alloc _) ⟨w2.heap.size, 0, none⟩ 1 1 [_] rfl rfl (cells_new _ _ _) (by simp [Value.oneCell']) (by have := HLW.out; have := congrArg List.length HLETS.out; rw [List.length_append] at this; have := HL.out; unfold maxLen; simp; omega) (by have := HLW.out; have := congrArg List.length HLETS.out; rw [List.length_append] at this; have := HL.out; simp; omega) (by have := HBEL.out.size; have := HB2.out.size; simp; omega) ?_); intro v3 w3 hown3 hgrow3 _; have HO3 := Lib.hid hown3; have HG3 := Lib.hid hgrow3; clear hown3 hgrow3)
      go_roundw
      case rel =>
        refine ⟨pre ++ [r.take k], r.drop k, by rw [HX2.out], ?_, ?_, ?_, ?_⟩
        · rw [HLEN.out, List.flatten_append, List.length_append, List.length_drop]
          simp
          omega
        · rw [HLETS.out, HC.out, List.append_assoc]; rfl
        · have h := HO3.out
          rw [HX1.out] at h
          rw [List.length_append, List.map_append]
          exact h
        · refine ((HBEL.out.trans (HB2.out.mono HBEL.out.size)).alloc (by have := HBEL.out.size; have := HB2.out.size; omega) _).grown HG3.out (by have := HBEL.out.size; have := HB2.out.size; simp; omega) (fun b hb => (HO2.out.lt b hb).1)
      case measure =>
        rw [HX2.out]
        show (r.drop k).length < r.length
        rw [List.length_drop]
        omega

end Go.Proofs.YtmlaedhmgkcdpaaDoor
