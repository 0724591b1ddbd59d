/-
  sort.Search, over a function that only reads and makes new memory.
-/
import Derived.Shelf.Abstract
import Derived.RegionTactic
import Derived.ChangeAlike
import Derived.Test.YtcaidgdnneomaaaOnly
import Derived.Test.YtcaidgdnneomaaaRows
namespace Go.Proofs.Ytcaidgdnneomaaa
open Go.RowKit Go.BigFrame Go.Shelf

set_option maxRecDepth 100000 in
theorem search_any (G : Nat) (p q : Value) (N : Nat) (P : Nat → Bool) (w : World) (hN : N ≤ 1000000) (he : ∀ args w, (callFunc G args).run Try.prog w = .ok (.enter G args) w)
    (hf : ∀ (i : Nat) (W : World), i < N → Ext w W → Calls Try.prog G #[.int .i64 i, p, q] W fun e w' => e = .returned (.bool (P i)) ∧ Ext W w') :
    Calls Try.prog 38 #[.int .i64 N, .func (.func G) #[] #[p, q]] w fun e w' => (∃ r : Nat, e = .returned (.int .i64 r) ∧ r ≤ N ∧ (0 < r → P (r - 1) = false) ∧ (r < N → P r = true)) ∧ Ext w w' := by
  have HF := Lib.hid hf
  clear hf
  go_enter Try.func38, Try.ntmps38
  go_wp2_with fail
  go_loopw [5, 6] (fun i j wr => ∃ a b : Nat, a ≤ b ∧ b ≤ N ∧ i = .int .i64 a ∧ j = .int .i64 b ∧ (0 < a → P (a - 1) = false) ∧ (b < N → P b = true) ∧ Ext w wr) (fun i j _ => (intOf j).toNat - (intOf i).toNat)
  case atStart => exact ⟨0, N, Nat.zero_le _, Nat.le_refl _, rfl, rfl, fun h => absurd h (Nat.lt_irrefl 0), fun h => absurd h (Nat.lt_irrefl N), Ext.keeps.refl _⟩
  case round =>
    obtain ⟨a, b, hab, hbN, rfl, rfl, hpa, hpb, hx⟩ := hrel
    have HPA := Lib.hid hpa
    have HPB := Lib.hid hpb
    have HX := Lib.hid hx
    clear hpa hpb hx
    by_cases hlt : a < b
    · obtain ⟨h, eh, hah, hhb⟩ : ∃ h : Nat, ((a : Int) + (b : Int)) / 2 = (h : Int) ∧ a ≤ h ∧ h < b := ⟨(a + b) / 2, by omega, by omega, by omega⟩
      have HE := Lib.hid eh
      have HEN := he
      clear eh
      go_wp2_with fail
      rw [HE.out]
      have HFC := Lib.hid (HF.out h wr (by omega) HX.out)
      cases hp : P h with
      | true =>
        rw [hp] at HFC
        have HP := Lib.hid hp
        clear hp
        refine HFC.out.mono ?_
        rintro e w2 ⟨rfl, hx2⟩
        have HX2 := Lib.hid (Ext.trans HX.out hx2)
        clear hx2
        go_wp2_with fail
        go_roundw
        case rel => exact ⟨a, h, hah, by omega, rfl, rfl, HPA.out, fun _ => HP.out, HX2.out⟩
        case measure => simp [intOf]; omega
      | false =>
        rw [hp] at HFC
        have HP := Lib.hid hp
        clear hp
        refine HFC.out.mono ?_
        rintro e w2 ⟨rfl, hx2⟩
        have HX2 := Lib.hid (Ext.trans HX.out hx2)
        clear hx2
        go_wp2_with fail
        go_roundw
        case rel => exact ⟨h + 1, b, by omega, hbN, by go_num, rfl, fun _ => HP.out, HPB.out, HX2.out⟩
        case measure => simp [intOf]; omega
    · have e : a = b := by omega
      subst e
      go_wp2_with fail
      go_ret
      exact ⟨⟨_, rfl, hbN, HPA.out, HPB.out⟩, HX.out⟩

end Go.Proofs.Ytcaidgdnneomaaa
