/-
  The program's Check.
-/
import Derived.Test.YtmlaedhmgkcdpaaDoorLikeElem
namespace Go.Proofs.YtmlaedhmgkcdpaaDoor
open Go.RowKit

set_option maxRecDepth 100000 in
set_option maxHeartbeats 400000 in
theorem Check_any (l : List UInt8) (w : World) (hT : Tabs w) (hl : l.length ≤ 5000) :
    Calls Tryd.prog 13 #[sv l] w fun e w' => e = .returned (.int .i64 (errN l)) ∧ Ext w w' := by
  have HP := Lib.hid (elements_any l w hT hl)
  generalize hE : errN l = E
  have HE := Lib.hid hE
  clear hT hl hE
  unfold sv at HP ⊢
  go_enter Tryd.func13, Tryd.ntmps13
  go_wp2_with fail
  refine HP.out.mono ?_
  rintro e w1 ⟨⟨ps, v, h, rfl, _⟩ | ⟨h, rfl⟩, hb⟩
  · have H := Lib.hid h
    have HB := Lib.hid hb
    clear h hb
    go_wp2_with fail
    go_ret
    exact ⟨by rw [← HE.out, errN_some H.out]; rfl, HB.out⟩
  · have H := Lib.hid h
    have HB := Lib.hid hb
    clear h hb
    go_wp2_with fail
    go_ret
    exact ⟨by rw [← HE.out, errN_none H.out]; rfl, HB.out⟩

end Go.Proofs.YtmlaedhmgkcdpaaDoor
