/-
  The contracts of the document's own And, Or, Not.
-/
import Derived.Test.YtedkalmdhbpleaaProg
import Derived.Test.YtedkalmdhbpleaaVal
import Derived.Test.YtedkalmdhbpleaaCan
import Derived.Test.YtedkalmdhbpleaaBase
import Derived.BigQuiet
namespace Go.Proofs.Ytedkalmdhbpleaa
open Go.RowKit Go.BigFrame

theorem refTruth_any (a : Int) (_ha : 0 ≤ a ∧ a ≤ 255) (w : World) :
    Calls Try.prog 50 #[.int .u8 a] w fun e w' => e = .returned (.int .u8 (tr a)) ∧ w = w' := by
  unfold tr
  by_cases h : 2 < a
  · rw [if_pos h]
    go_enter Try.func50, Try.ntmps50
    go_wp2_with fail
    go_ret
    exact ⟨rfl, rfl⟩
  · rw [if_neg h]
    go_enter Try.func50, Try.ntmps50
    go_wp2_with fail
    go_ret
    exact ⟨rfl, rfl⟩

theorem refAnd_any (a b : Int) (ha : 0 ≤ a ∧ a ≤ 255) (hb : 0 ≤ b ∧ b ≤ 255) (w : World) :
    Calls Try.prog 20 #[.int .u8 a, .int .u8 b] w fun e w' => e = .returned (.int .u8 (andT a b)) ∧ Ext w w' := by
  unfold andT
  have HA := Lib.hid (refTruth_any a ha)
  have HB := Lib.hid (refTruth_any b hb)
  have ta := tr_three ha.1
  have tb := tr_three hb.1
  clear ha hb
  generalize tr a = x at HA ta ⊢
  generalize tr b = y at HB tb ⊢
  go_enter Try.func20, Try.ntmps20
  go_wp2_with fail
  refine (HA.out _).mono ?_
  rintro e w' ⟨rfl, rfl⟩
  go_wp2_with fail
  refine (HB.out _).mono ?_
  rintro e w' ⟨rfl, rfl⟩
  go_wp2_with fail
  go_ret
  exact ⟨rfl, by first | exact Ext.keeps.refl _ | exact Ext.drew _⟩

theorem refOr_any (a b : Int) (ha : 0 ≤ a ∧ a ≤ 255) (hb : 0 ≤ b ∧ b ≤ 255) (w : World) :
    Calls Try.prog 22 #[.int .u8 a, .int .u8 b] w fun e w' => e = .returned (.int .u8 (orT a b)) ∧ Ext w w' := by
  unfold orT
  have HA := Lib.hid (refTruth_any a ha)
  have HB := Lib.hid (refTruth_any b hb)
  have ta := tr_three ha.1
  have tb := tr_three hb.1
  clear ha hb
  generalize tr a = x at HA ta ⊢
  generalize tr b = y at HB tb ⊢
  go_enter Try.func22, Try.ntmps22
  go_wp2_with fail
  refine (HA.out _).mono ?_
  rintro e w' ⟨rfl, rfl⟩
  go_wp2_with fail
  refine (HB.out _).mono ?_
  rintro e w' ⟨rfl, rfl⟩
  go_wp2_with fail
  go_ret
  exact ⟨rfl, by first | exact Ext.keeps.refl _ | exact Ext.drew _⟩

theorem refNot_any (a : Int) (ha : 0 ≤ a ∧ a ≤ 255) (w : World) :
    Calls Try.prog 24 #[.int .u8 a] w fun e w' => e = .returned (.int .u8 (notT a)) ∧ Ext w w' := by
  unfold notT
  have HA := Lib.hid (refTruth_any a ha)
  have ta := tr_three ha.1
  clear ha
  generalize tr a = x at HA ta ⊢
  have h0 : 0 ≤ x := by omega
  have h2 : x ≤ 2 := by omega
  clear ta
  go_enter Try.func24, Try.ntmps24
  go_wp2_with fail
  refine (HA.out _).mono ?_
  rintro e w' ⟨rfl, rfl⟩
  go_wp2_with fail
  go_ret
  exact ⟨rfl, Ext.keeps.refl _⟩

end Go.Proofs.Ytedkalmdhbpleaa
