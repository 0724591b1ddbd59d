/-
  The walk of the law LikeParts.
-/
import Derived.Test.YtmlaedhmgkcdpaaDoorLikeShown
import Derived.Test.YtmlaedhmgkcdpaaDoorValid
namespace Go.Proofs.YtmlaedhmgkcdpaaDoor
open Go.RowKit

set_option maxRecDepth 100000 in
set_option maxHeartbeats 1000000 in
theorem likeParts_walk (p s q t : ByteArray) (w : World) (hp : p.size ≤ maxLen) (hs : s.size ≤ maxLen) (hq : q.size ≤ maxLen) (ht : t.size ≤ maxLen) (hT : Tabs w) :
    Calls Tryd.prog 6 #[.string p, .string s, .string q, .string t] w fun e w' => e = .returned (.bool true) ∧ Below w.heap.size w w' := by
  obtain ⟨l1, rfl, hl1⟩ := bytes_list p
  obtain ⟨l2, rfl, hl2⟩ := bytes_list s
  obtain ⟨l3, rfl, hl3⟩ := bytes_list q
  obtain ⟨l4, rfl, hl4⟩ := bytes_list t
  unfold maxLen at hp hs hq ht
  have HT := Lib.hid hT
  have HF1 := Lib.hid (fun w => few_any l1 w (by omega))
  have HF2 := Lib.hid (fun w => few_any l2 w (by omega))
  have HF3 := Lib.hid (fun w => few_any l3 w (by omega))
  have HF4 := Lib.hid (fun w => few_any l4 w (by omega))
  have ha := few_le l1
  have hb := few_le l2
  have hc := few_le l3
  have hd := few_le l4
  generalize few l1 = a at HF1 ha
  generalize few l2 = b at HF2 hb
  generalize few l3 = c at HF3 hc
  generalize few l4 = d at HF4 hd
  clear hT hp hs hq ht hl1 hl2 hl3 hl4
  unfold sv at HF1 HF2 HF3 HF4
  go_enter Tryd.func6, Tryd.ntmps6
  go_wp2_with fail
  refine (shown_any _ HT.out).mono ?_
  rintro e w1 ⟨rfl, hbb⟩
  have HB1 := Lib.hid hbb
  clear hbb
  go_wp2_with fail
  refine (HF1.out _).mono ?_
  rintro e w' ⟨rfl, rfl⟩
  go_wp2_with fail
  refine (HF2.out _).mono ?_
  rintro e w' ⟨rfl, rfl⟩
  go_wp2_with fail
  refine (HF3.out _).mono ?_
  rintro e w' ⟨rfl, rfl⟩
  go_wp2_with fail
  refine (HF4.out _).mono ?_
  rintro e w' ⟨rfl, rfl⟩
  go_wp2_with fail
  have HCN := Lib.hid (cells_new w1 ([a, b, c, d].map sv) 9)
  have HBX := Lib.hid (show Ext w (w1.alloc (.cells ([a, b, c, d].map sv).toArray 9)) from HB1.out.alloc HB1.out.size _)
  obtain ⟨W, hW⟩ : ∃ W, W = w1.alloc (.cells ([a, b, c, d].map sv).toArray 9) := ⟨_, rfl⟩
  rw [← hW] at HCN HBX
  change Code.wp _ _ _ _ (w1.alloc (.cells ([a, b, c, d].map sv).toArray 9))
  rw [← hW]
  clear hW
  generalize w1.heap.size = g at HCN ⊢
  obtain ⟨L, hL⟩ : ∃ L, L = [a, b, c, d] := ⟨_, rfl⟩
  have HL := Lib.hid hL
  have HLE := Lib.hid (show ∀ x ∈ L, x.length ≤ 300 by
    rw [hL]
    intro x hx
    simp only [List.mem_cons, List.not_mem_nil, or_false] at hx
    rcases hx with rfl | rfl | rfl | rfl <;> assumption)
  rw [← hL] at HCN
  have HL4 := Lib.hid (show L.length = 4 by rw [hL]; rfl)
  clear hL
  go_loopw [31] (fun i wr => ∃ j : Nat, j ≤ 4 ∧ i = .int .i64 j ∧ (∀ (k : Nat) x, k < j → L[k]? = some x → goods x) ∧ Ext W wr) (fun i _ => 4 - (intOf i).toNat)
  case atStart => exact ⟨0, Nat.zero_le _, rfl, fun k x h => absurd h (Nat.not_lt_zero _), Below.refl _ _⟩
  case round =>
    obtain ⟨j, hj, rfl, hgood, hext⟩ := hrel
    have HGOOD := Lib.hid hgood
    have HE := Lib.hid hext
    clear hgood hext
    by_cases hlt : j < 4
    · have hjl : j < L.length := by have := HL4.out; omega
      have hc0 := HCN.out j (sv L[j]) (by rw [List.getElem?_map, List.getElem?_eq_getElem hjl]; rfl)
      rw [add_at, Nat.zero_add] at hc0
      have hcell : wr.cell? ⟨g, j, none⟩ = some (sv L[j]) := by rw [HE.out.cell (lt_of_cell hc0)]; exact hc0
      have hx3 := HLE.out _ (List.getElem_mem hjl)
      have HLJ := Lib.hid (List.getElem?_eq_getElem hjl)
      generalize L[j] = x at hcell hx3 HLJ
      clear hc0
      unfold sv at hcell
      have HV := Lib.hid (valid_any x wr (HT.out.mono (Ext.trans HBX.out HE.out)) (by omega))
      have HVG := Lib.hid (goods_valid x)
      generalize Lib.validD x = V at HV HVG
      unfold sv at HV
      go_wp2_with fail
      refine HV.out.mono ?_
      rintro e w5 ⟨rfl, hb5⟩
      have HB5 := Lib.hid (Ext.trans HE.out hb5)
      clear hb5
      cases V with
      | true =>
        go_wp2_with fail
        go_roundw
        case rel =>
          refine ⟨j + 1, by omega, by go_num, fun k y hk hy => ?_, HB5.out⟩
          by_cases e : k = j
          · subst e
            rw [HLJ.out] at hy
            cases hy
            exact HVG.out.1 (by trivial)
          · exact HGOOD.out k y (by omega) hy
        case measure => simp [intOf]; omega
      | false =>
        go_wp2_with fail
        go_ret
        exact ⟨rfl, Ext.trans HBX.out HB5.out⟩
    · have hj4 : j = 4 := by omega
      subst hj4
      have hg := HGOOD.out
      rw [HL.out] at hg
      have HGA := Lib.hid (hg 0 a (by decide) rfl)
      have HGB := Lib.hid (hg 1 b (by decide) rfl)
      have HP := Lib.hid (fun h1 h2 => is_parts a b c d HGA.out HGB.out h1 h2)
      have HI1 := Lib.hid (fun w hT => is_any a b w hT (by omega) (by omega))
      have HI2 := Lib.hid (fun w hT => is_any c d w hT (by omega) (by omega))
      have HI3 := Lib.hid (fun w hT => is_any (a ++ c) (b ++ d) w hT (by rw [List.length_append]; omega) (by rw [List.length_append]; omega))
      have HXE := Lib.hid (Ext.trans HBX.out HE.out)
      generalize isB a b = B1 at HP HI1
      generalize isB c d = B2 at HP HI2
      generalize isB (a ++ c) (b ++ d) = B3 at HP HI3
      unfold sv at HI1 HI2
      clear hg
      go_wp2_with fail
      refine (HI1.out _ (HT.out.mono HXE.out)).mono ?_
      rintro e w5 ⟨rfl, hb5⟩
      have HX5 := Lib.hid (Ext.trans HXE.out hb5)
      clear hb5
      cases B1 with
      | false =>
        go_wp2_with fail
        go_ret
        exact ⟨rfl, HX5.out⟩
      | true =>
        go_wp2_with fail
        refine (HI2.out _ (HT.out.mono HX5.out)).mono ?_
        rintro e w6 ⟨rfl, hb6⟩
        have HX6 := Lib.hid (Ext.trans HX5.out hb6)
        clear hb6
        cases B2 with
        | false =>
          go_wp2_with fail
          go_ret
          exact ⟨rfl, HX6.out⟩
        | true =>
          go_wp2_with fail
          rw [sv_append, sv_append]
          refine (HI3.out _ (HT.out.mono HX6.out)).mono ?_
          rintro e w7 ⟨rfl, hb7⟩
          rw [HP.out (by trivial) (by trivial)]
          have HX7 := Lib.hid (Ext.trans HX6.out hb7)
          clear hb7
          go_wp2_with fail
          go_ret
          exact ⟨rfl, HX7.out⟩

end Go.Proofs.YtmlaedhmgkcdpaaDoor
