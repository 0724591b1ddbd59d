/-
  'few', 'is' and 'shown' (the document's examples) of layer 3.
-/
import Derived.Test.YtmlaedhmgkcdpaaDoorLikeGo
namespace Go.Proofs.YtmlaedhmgkcdpaaDoor
open Go.RowKit

/-- A text's first 300 bytes. -/
def few (l : List UInt8) : List UInt8 := l.take 300
theorem few_le (l : List UInt8) : (few l).length ≤ 300 := by unfold few; rw [List.length_take]; omega
theorem bytes_list (s : ByteArray) : ∃ l : List UInt8, s = ⟨l.toArray⟩ ∧ l.length = s.size := ⟨s.data.toList, by cases s; simp, by cases s; simp [ByteArray.size]⟩

theorem few_any (l : List UInt8) (w : World) (hl : l.length ≤ 9223372036854775807) :
    Calls Tryd.prog 8 #[sv l] w fun e w' => e = .returned (sv (few l)) ∧ w = w' := by
  have HX := Lib.hid (extract_take l (min l.length 300) (Nat.min_le_left _ _))
  have HF := Lib.hid (show l.take (min l.length 300) = few l by unfold few; rw [List.take_eq_take_iff]; omega)
  unfold sv
  by_cases h : l.length ≤ 300
  · have hm : min l.length 300 = l.length := Nat.min_eq_left h
    have hm2 : min (l.length : Int) 300 = l.length := by omega
    rw [hm] at HX HF
    clear hm
    go_enter Tryd.func8, Tryd.ntmps8
    go_wp2_with fail
    go_ret
    refine ⟨?_, rfl⟩
    rw [← HF.out, ← HX.out]
    rfl
  · have hm : min l.length 300 = 300 := Nat.min_eq_right (by omega)
    have hm2 : min (l.length : Int) 300 = 300 := by omega
    rw [hm] at HX HF
    clear hm
    go_enter Tryd.func8, Tryd.ntmps8
    go_wp2_with fail
    go_ret
    refine ⟨?_, rfl⟩
    rw [← HF.out, ← HX.out]
    rfl

theorem is_any (p s : List UInt8) (w : World) (hT : Tabs w) (hp : p.length ≤ 5000) (hs : s.length ≤ 5000) :
    Calls Tryd.prog 21 #[sv p, sv s] w fun e w' => e = .returned (.bool (isB p s)) ∧ Ext w w' := by
  have HM := Lib.hid (Match_any p s w hT hp hs)
  have HE := Lib.hid (show isB p s = true → errN p = 0 from fun h => by obtain ⟨ps, h1, _⟩ := (isB_iff _ _).1 h; exact errN_some h1)
  generalize isB p s = B at HM HE ⊢
  generalize errN p = E at HM HE
  clear hT hp hs
  unfold sv at HM ⊢
  go_enter Tryd.func21, Tryd.ntmps21
  go_wp2_with fail
  refine HM.out.mono ?_
  rintro e w1 ⟨rfl, hb⟩
  have HB := Lib.hid hb
  clear hb
  cases B with
  | true =>
    rw [HE.out rfl]
    go_wp2_with fail
    go_ret
    exact ⟨rfl, HB.out⟩
  | false =>
    go_wp2_with fail
    go_ret
    exact ⟨rfl, HB.out⟩

set_option maxRecDepth 100000 in
set_option maxHeartbeats 1000000 in
theorem shown_any (w : World) (hT : Tabs w) : Calls Tryd.prog 9 #[] w fun e w' => e = .returned (.bool true) ∧ Ext w w' := by
  have HT := Lib.hid hT
  have HF := Lib.hid (show fixS [97, 98, 92, 95, 99, 37, 100] = [97, 98, 95, 99] ∧ fixB [97, 98, 92, 95, 99, 37, 100] = false ∧ errN [97, 98, 92, 95, 99, 37, 100] = 0 by decide +kernel)
  have H1 := Lib.hid (show isB [97, 37] [97, 98, 99] = true by decide +kernel)
  have H2 := Lib.hid (show isB [95, 98, 95] [97, 98, 99] = true by decide +kernel)
  have H3 := Lib.hid (show isB [37, 99] [97, 98, 99] = true by decide +kernel)
  have H4 := Lib.hid (show isB [97, 95] [97, 98, 99] = false by decide +kernel)
  have H5 := Lib.hid (show isB [49, 48, 48, 92, 37] [49, 48, 48, 37] = true by decide +kernel)
  have H6 := Lib.hid (show quote [53, 37] = [53, 92, 37] by decide +kernel)
  clear hT
  go_enter Tryd.func9, Tryd.ntmps9
  go_wp2_with fail
  refine (Fixed_any [97, 98, 92, 95, 99, 37, 100] _ HT.out (by decide)).mono ?_
  rintro e w1 ⟨rfl, hb⟩
  rw [HF.out.1, HF.out.2.1, HF.out.2.2]
  have HB1 := Lib.hid hb
  clear hb
  unfold sv
  go_wp2_with fail
  refine (is_any [97, 37] [97, 98, 99] _ (HT.out.mono HB1.out) (by decide) (by decide)).mono ?_
  rintro e w2 ⟨rfl, hb⟩
  rw [H1.out]
  have HB2 := Lib.hid (Ext.trans HB1.out hb)
  clear hb
  go_wp2_with fail
  refine (is_any [95, 98, 95] [97, 98, 99] _ (HT.out.mono HB2.out) (by decide) (by decide)).mono ?_
  rintro e w3 ⟨rfl, hb⟩
  rw [H2.out]
  have HB3 := Lib.hid (Ext.trans HB2.out hb)
  clear hb
  go_wp2_with fail
  refine (is_any [37, 99] [97, 98, 99] _ (HT.out.mono HB3.out) (by decide) (by decide)).mono ?_
  rintro e w4 ⟨rfl, hb⟩
  rw [H3.out]
  have HB4 := Lib.hid (Ext.trans HB3.out hb)
  clear hb
  go_wp2_with fail
  refine (is_any [97, 95] [97, 98, 99] _ (HT.out.mono HB4.out) (by decide) (by decide)).mono ?_
  rintro e w5 ⟨rfl, hb⟩
  rw [H4.out]
  have HB5 := Lib.hid (Ext.trans HB4.out hb)
  clear hb
  go_wp2_with fail
  refine (is_any [49, 48, 48, 92, 37] [49, 48, 48, 37] _ (HT.out.mono HB5.out) (by decide) (by decide)).mono ?_
  rintro e w6 ⟨rfl, hb⟩
  rw [H5.out]
  have HB6 := Lib.hid (Ext.trans HB5.out hb)
  clear hb
  go_wp2_with fail
  refine (Quote_any [53, 37] _ (HT.out.mono HB6.out) (by decide)).mono ?_
  rintro e w7 ⟨rfl, hb⟩
  rw [H6.out]
  have HB7 := Lib.hid (Ext.trans HB6.out hb)
  clear hb
  unfold sv
  go_wp2_with fail
  go_ret
  exact ⟨rfl, HB7.out⟩

end Go.Proofs.YtmlaedhmgkcdpaaDoor
