/-
  The law's own 'shown': the document's examples.
-/
import Derived.Test.YtcokdkhfnlhnlaaPurseRef
namespace Go.Proofs.Ytcokdkhfnlhnlaa
open Go.RowKit Go.BigFrame

def exV : V := ⟨3, 0, [97, 98]⟩
theorem ex_row (w : World) (t : TypeId) : RdVals (w.alloc (.cells #[.int .u8 3, .int .i64 0, .string ⟨#[97, 98]⟩, .int .u8 0, .int .i64 0, .string ⟨#[]⟩] t)) (.slice (some ⟨w.heap.size, 0, none⟩) 2 2) [exV, V.zero] := by
  have hc := row_new w [.int .u8 3, .int .i64 0, .string ⟨#[97, 98]⟩, .int .u8 0, .int .i64 0, .string ⟨#[]⟩] t
  refine ⟨_, 2, rfl, by decide, by decide, fun j hj => ⟨w.heap.size, 0, rfl, fun i y hy => ?_⟩⟩
  match j, hj with
  | 0, _ => match i, hy with
    | 0, hy => cases hy; exact hc 0 _ rfl
    | 1, hy => cases hy; exact hc 1 _ rfl
    | 2, hy => cases hy; exact hc 2 _ rfl
  | 1, _ => match i, hy with
    | 0, hy => cases hy; exact hc 3 _ rfl
    | 1, hy => cases hy; exact hc 4 _ rfl
    | 2, hy => cases hy; exact hc 5 _ rfl

theorem ex_take1 : takeP ⟨10, 0, 0⟩ 7 = (0, ⟨10, 7, 7⟩) := by simp [takeP]; decide
theorem ex_take2 : takeP ⟨10, 7, 7⟩ 4 = (5, ⟨10, 7, 7⟩) := by simp [takeP]
theorem ex_give : giveP ⟨10, 7, 7⟩ 3 = (0, ⟨10, 4, 7⟩) := by simp [giveP]
theorem ex_take3 : takeP ⟨10, 4, 7⟩ 4 = (0, ⟨10, 8, 8⟩) := by simp [takeP]; decide

set_option maxRecDepth 100000 in
set_option maxHeartbeats 1000000 in
theorem shown6_any (w : World) : Calls Try.prog 8 #[] w fun e w' => e = .returned (.bool true) ∧ Ext w w' := by
  go_enter Try.func8, Try.ntmps8
  go_wp2_with fail
  refine (purNew_any 10 w (by decide)).mono ?_
  rintro e w1 hN
  unfold PurNewed at hN
  rcases hN with ⟨_, _, p, rfl, hp, hp0, hx⟩ | ⟨h, _, _⟩
  · have HP1 := Lib.hid hp
    have HX1 := Lib.hid hx
    have HP0 := Lib.hid hp0
    clear hp hx hp0
    go_wp2_with fail
    refine (purTake_any 7 HP1.out (by decide)).mono ?_
    rintro e w2 ⟨rfl, hp, ho⟩
    rw [ex_take1] at hp ⊢
    have HP2 := Lib.hid hp
    have HO2 := Lib.hid ho
    clear hp ho
    go_wp2_with fail
    refine (purTake_any 4 HP2.out (by decide)).mono ?_
    rintro e w3 ⟨rfl, hp, ho⟩
    rw [ex_take2] at hp ⊢
    have HP3 := Lib.hid hp
    have HO3 := Lib.hid (HO2.out.trans ho)
    clear hp ho
    go_wp2_with fail
    refine (purGive_any 3 HP3.out (by decide)).mono ?_
    rintro e w4 ⟨rfl, hp, ho⟩
    rw [ex_give] at hp ⊢
    have HP4 := Lib.hid hp
    have HO4 := Lib.hid (HO3.out.trans ho)
    clear hp ho
    go_wp2_with fail
    refine (purTake_any 4 HP4.out (by decide)).mono ?_
    rintro e w5 ⟨rfl, hp, ho⟩
    rw [ex_take3] at hp ⊢
    have HP5 := Lib.hid hp
    have HO5 := Lib.hid (HO4.out.trans ho)
    clear hp ho
    go_wp2_with fail
    refine (purNow_any HP5.out).mono ?_
    rintro e w6 ⟨rfl, rfl⟩
    go_wp2_with fail
    refine (purPeak_any HP5.out).mono ?_
    rintro e w6 ⟨rfl, rfl⟩
    have HR := Lib.hid (ex_row w5 51)
    have HX := Lib.hid (show Ext w w5 from Below.trans HX1.out ((OnlyS.of_onlyP (X := fun b => b = p) HO5.out rfl).below HX1.out.size (fun b hb => by rw [hb]; exact HP0.out)))
    go_wp2_with fail
    refine (purRow_any _ _ _ HR.out (by decide)).mono ?_
    rintro e w7 ⟨rfl, hx⟩
    have HX7 := Lib.hid (Ext.trans HX.out (Ext.trans (ext_new w5 _) hx))
    rw [show rowCost [exV, V.zero] = 26 from rfl]
    clear hx
    go_wp2_with fail
    go_ret
    exact ⟨rfl, HX7.out⟩
  · exact absurd (by decide) h

end Go.Proofs.Ytcokdkhfnlhnlaa
