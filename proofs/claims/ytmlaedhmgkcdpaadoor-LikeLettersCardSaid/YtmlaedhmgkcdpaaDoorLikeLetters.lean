/-
  The walk of the law LikeLetters.
-/
import Derived.Test.YtmlaedhmgkcdpaaDoorLikeShown
import Derived.Test.YtmlaedhmgkcdpaaDoorLikeCheck
import Derived.Test.YtmlaedhmgkcdpaaDoorLikeRef3
import Derived.BigQuiet
namespace Go.Proofs.YtmlaedhmgkcdpaaDoor
open Go.RowKit Go.BigFrame

set_option maxRecDepth 100000 in
set_option maxHeartbeats 1000000 in
/-- Two lists of the same texts. -/
theorem same_any (ls : List (List UInt8)) (v u : Value) (w : World) (hv : RdV w v (ls.map sv)) (hu : RdV w u (ls.map sv)) :
    Calls Tryd.prog 10 #[v, u] w fun e w' => e = .returned (.bool true) ∧ Ext w w' := by
  obtain ⟨ao, ac, rfl, ha1, ha2, hac⟩ := RdV.cellsAt hv
  obtain ⟨bo, bc, rfl, hb1, hb2, hbc⟩ := RdV.cellsAt hu
  unfold maxLen at ha2 hb2
  rw [List.length_map] at *
  obtain ⟨N, hN⟩ : ∃ N, N = ls.length := ⟨_, rfl⟩
  have HN := Lib.hid hN
  rw [← hN] at ha1 hb1 ⊢
  have HA := Lib.hid hac
  have HB := Lib.hid hbc
  clear hv hu hac hbc hN
  go_enter Tryd.func10, Tryd.ntmps10
  go_wp2_with fail
  go_loopw [5] (fun i wr => ∃ j : Nat, j ≤ N ∧ i = .int .i64 j ∧ Ext w wr) (fun i _ => N - (intOf i).toNat)
  case atStart => exact ⟨0, Nat.zero_le _, rfl, Below.refl _ _⟩
  case round =>
    obtain ⟨j, hj, rfl, hext⟩ := hrel
    have HE := Lib.hid hext
    clear hext
    by_cases hlt : j < N
    · have hjl : j < ls.length := by have := HN.out; omega
      obtain ⟨x, rfl, hcx⟩ := HA.out j (sv ls[j]) (by rw [List.getElem?_map, List.getElem?_eq_getElem hjl]; rfl)
      obtain ⟨y, rfl, hcy⟩ := HB.out j (sv ls[j]) (by rw [List.getElem?_map, List.getElem?_eq_getElem hjl]; rfl)
      generalize ls[j] = c at hcx hcy
      have hx : ∀ z : Later Ext wr.drew, z.val.cell? (x.add j) = some (sv c) := fun z => by
        rw [(Ext.trans HE.out (Ext.trans (Ext.drew _) z.ext)).cell (lt_of_cell hcx)]; exact hcx
      have hy : ∀ z : Later Ext wr.drew, z.val.cell? (y.add j) = some (sv c) := fun z => by
        rw [(Ext.trans HE.out (Ext.trans (Ext.drew _) z.ext)).cell (lt_of_cell hcy)]; exact hcy
      clear hcx hcy
      unfold sv at hx hy
      go_wp2_with fail
      refine wp_region_segs Ext Ext.keeps [([0, 1, 2, 3, 4, 5, 6, 7, 8], none)] (by kernel_rfl) (by kernel_rfl) (fun c a a' w e h => (by exact ⟨e ▸ h.1, h.2⟩)) ?_
      simp only [pickSegs, pickOps, List.map_cons, List.map_nil, Option.map_none, Option.getD_some, List.getElem?_toArray, List.getElem?_cons_zero, List.getElem?_cons_succ]
      refine wpSegs_none ?_
      repeat go_big_quiet_step (fail)
      refine wpQuiet_nil ?_
      refine wpSegs_nil ?_
      clear hx hy
      go_wp2_with fail
      go_roundw
      case rel => exact ⟨j + 1, by omega, by go_num, Ext.trans HE.out (Ext.drew _)⟩
      case measure => simp [intOf]; omega
    · go_wp2_with fail
      go_ret
      exact ⟨rfl, HE.out⟩

set_option maxRecDepth 100000 in
set_option maxHeartbeats 1000000 in
theorem likeLetters_walk (s : ByteArray) (w : World) (hs : s.size ≤ maxLen) (hT : Tabs w) :
    Calls Tryd.prog 3 #[.string s] w fun e w' => e = .returned (.bool true) ∧ Below w.heap.size w w' := by
  obtain ⟨l, rfl, hl⟩ := bytes_list s
  unfold maxLen at hs
  have HT := Lib.hid hT
  have HF := Lib.hid (few_any l w (by omega))
  have hle := few_le l
  generalize few l = x at HF hle
  have HX := Lib.hid (show x.length ≤ 5000 by omega)
  clear hT hs hl hle
  unfold sv at HF
  go_enter Tryd.func3, Tryd.ntmps3
  go_wp2_with fail
  refine HF.out.mono ?_
  rintro e w' ⟨rfl, rfl⟩
  go_wp2_with fail
  refine (shown_any _ HT.out).mono ?_
  rintro e w1 ⟨rfl, hb⟩
  have HB1 := Lib.hid hb
  clear hb
  go_wp2_with fail
  refine (Letters_any x _ (HT.out.mono HB1.out) HX.out).mono ?_
  rintro e w2 ⟨v2, rfl, ho2, hb⟩
  have HO2 := Lib.hid (RdV.of_owns ho2)
  have HB2 := Lib.hid (Ext.trans HB1.out hb)
  clear hb ho2
  go_wp2_with fail
  refine (refLetters_any x _ (HT.out.mono HB2.out) HX.out).mono ?_
  rintro e w3 ⟨v3, rfl, ho3, hb⟩
  have HO3 := Lib.hid (RdV.of_owns ho3)
  have HO23 := Lib.hid (HO2.out.mono hb)
  have HB3 := Lib.hid (Ext.trans HB2.out hb)
  clear hb ho3
  go_wp2_with fail
  refine (same_any (lets x) _ _ _ HO23.out HO3.out).mono ?_
  rintro e w4 ⟨rfl, hb⟩
  have HB4 := Lib.hid (Ext.trans HB3.out hb)
  clear hb
  go_wp2_with fail
  refine (Check_any x _ (HT.out.mono HB4.out) HX.out).mono ?_
  rintro e w5 ⟨rfl, hb⟩
  have HB5 := Lib.hid (Ext.trans HB4.out hb)
  clear hb
  go_wp2_with fail
  refine (refCheck_any x _ (HT.out.mono HB5.out) HX.out).mono ?_
  rintro e w6 ⟨rfl, hb⟩
  have HB6 := Lib.hid (Ext.trans HB5.out hb)
  clear hb
  go_wp2_with fail
  refine (Quote_any x _ (HT.out.mono HB6.out) HX.out).mono ?_
  rintro e w7 ⟨rfl, hb⟩
  have HB7 := Lib.hid (Ext.trans HB6.out hb)
  clear hb
  go_wp2_with fail
  refine (refQuote_any x _ (HT.out.mono HB7.out) HX.out).mono ?_
  rintro e w8 ⟨rfl, hb⟩
  have HB8 := Lib.hid (Ext.trans HB7.out hb)
  clear hb
  generalize quote x = q
  unfold sv
  go_wp2_with fail
  go_ret
  exact ⟨rfl, HB8.out⟩

end Go.Proofs.YtmlaedhmgkcdpaaDoor
