/-
  The walk of the law LikeMatches.
-/
import Derived.Test.YtmlaedhmgkcdpaaDoorLikeShown
import Derived.Test.YtmlaedhmgkcdpaaDoorLikeMatch0
namespace Go.Proofs.YtmlaedhmgkcdpaaDoor
open Go.RowKit

set_option maxRecDepth 100000 in
set_option maxHeartbeats 1000000 in
theorem likeMatches_walk (p : ByteArray) (s : ByteArray) (w : World) (hp : p.size ≤ maxLen) (hs : s.size ≤ maxLen) (hT : Tabs w) :
    Calls Tryd.prog 4 #[.string p, .string s] w fun e w' => e = .returned (.bool true) ∧ Below w.heap.size w w' := by
  obtain ⟨l, rfl, hl⟩ := bytes_list p
  obtain ⟨m, rfl, hm⟩ := bytes_list s
  unfold maxLen at hp hs
  have HT := Lib.hid hT
  have HF := Lib.hid (fun w => few_any l w (by omega))
  have HG := Lib.hid (fun w => few_any m w (by omega))
  have hle := few_le l
  have hme := few_le m
  generalize few l = x at HF hle
  generalize few m = y at HG hme
  have HM := Lib.hid (fun w hT => Match_any x y w hT (by omega) (by omega))
  have HM2 := Lib.hid (fun w hT => refMatch_any x y w hT (by omega) (by omega))
  have HX := Lib.hid (fun w hT => Fixed_any x w hT (by omega))
  have HX2 := Lib.hid (fun w hT => refFixed_any x w hT (by omega))
  generalize isB x y = B at HM HM2
  generalize errN x = E at HM HM2 HX HX2
  generalize fixS x = S at HX HX2
  generalize fixB x = C at HX HX2
  clear hT hp hs hl hm hle hme
  unfold sv at HF HG HM HM2 HX HX2
  go_enter Tryd.func4, Tryd.ntmps4
  go_wp2_with fail
  refine (HF.out _).mono ?_
  rintro e w' ⟨rfl, rfl⟩
  go_wp2_with fail
  refine (HG.out _).mono ?_
  rintro e w' ⟨rfl, rfl⟩
  go_wp2_with fail
  refine (HM.out _ HT.out).mono ?_
  rintro e w1 ⟨rfl, hb⟩
  have HB1 := Lib.hid hb
  clear hb
  go_wp2_with fail
  refine (HF.out _).mono ?_
  rintro e w' ⟨rfl, rfl⟩
  go_wp2_with fail
  refine (HG.out _).mono ?_
  rintro e w' ⟨rfl, rfl⟩
  go_wp2_with fail
  refine (HM2.out _ (HT.out.mono HB1.out)).mono ?_
  rintro e w2 ⟨rfl, hb⟩
  have HB2 := Lib.hid (Ext.trans HB1.out hb)
  clear hb
  go_wp2_with fail
  refine (HF.out _).mono ?_
  rintro e w' ⟨rfl, rfl⟩
  go_wp2_with fail
  refine (HX.out _ (HT.out.mono HB2.out)).mono ?_
  rintro e w3 ⟨rfl, hb⟩
  have HB3 := Lib.hid (Ext.trans HB2.out hb)
  clear hb
  go_wp2_with fail
  refine (HF.out _).mono ?_
  rintro e w' ⟨rfl, rfl⟩
  go_wp2_with fail
  refine (HX2.out _ (HT.out.mono HB3.out)).mono ?_
  rintro e w4 ⟨rfl, hb⟩
  have HB4 := Lib.hid (Ext.trans HB3.out hb)
  clear hb
  go_wp2_with fail
  refine (shown_any _ (HT.out.mono HB4.out)).mono ?_
  rintro e w5 ⟨rfl, hb⟩
  have HB5 := Lib.hid (Ext.trans HB4.out hb)
  clear hb
  cases B <;> cases C
  all_goals
    go_wp2_with fail
    go_ret
    exact ⟨rfl, HB5.out⟩

end Go.Proofs.YtmlaedhmgkcdpaaDoor
