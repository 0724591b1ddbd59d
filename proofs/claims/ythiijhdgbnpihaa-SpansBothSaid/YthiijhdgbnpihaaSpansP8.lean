/-
  The program's spans: And, Or, Minus.
-/
import Derived.Shelf.Abstract
import Derived.Test.YthiijhdgbnpihaaSpansP7
namespace Go.Proofs.Ythiijhdgbnpihaa
open Go.RowKit Go.BigFrame Go.Shelf

theorem enters_and : ∀ args w, (callFunc 31 args).run Try.prog w = .ok (.enter 31 args) w := enters_of Try.func31 (by kernel_rfl) rfl
theorem enters_or : ∀ args w, (callFunc 32 args).run Try.prog w = .ok (.enter 32 args) w := enters_of Try.func32 (by kernel_rfl) rfl
theorem enters_minus : ∀ args w, (callFunc 33 args).run Try.prog w = .ok (.enter 33 args) w := enters_of Try.func33 (by kernel_rfl) rfl

theorem and1_any (x y : Bool) (w : World) : Calls Try.prog 31 #[.bool x, .bool y] w fun e w' => e = .returned (.bool (x && y)) ∧ w = w' := by
  cases x <;> cases y <;> (
    go_enter Try.func31, Try.ntmps31
    go_wp2_with fail
    go_ret
    exact ⟨rfl, rfl⟩)
theorem or1_any (x y : Bool) (w : World) : Calls Try.prog 32 #[.bool x, .bool y] w fun e w' => e = .returned (.bool (x || y)) ∧ w = w' := by
  cases x <;> cases y <;> (
    go_enter Try.func32, Try.ntmps32
    go_wp2_with fail
    go_ret
    exact ⟨rfl, rfl⟩)
theorem minus1_any (x y : Bool) (w : World) : Calls Try.prog 33 #[.bool x, .bool y] w fun e w' => e = .returned (.bool (x && !y)) ∧ w = w' := by
  cases x <;> cases y <;> (
    go_enter Try.func33, Try.ntmps33
    go_wp2_with fail
    go_ret
    exact ⟨rfl, rfl⟩)

theorem pAndSp_any (u v : Value) (a b : List Sp) (w : World) (hu : InSp w u a) (hv : InSp w v b) :
    Calls Try.prog 21 #[u, v] w fun e w' => AnsSp w (andS a b) e w' := by
  have HC := Lib.hid (choose_any 31 (fun x y => x && y) rfl enters_and and1_any u v a b w hu.rd hv.rd)
  obtain ⟨ua, uc, rfl, -, -⟩ := hu.rd.shape
  obtain ⟨va, vc, rfl, -, -⟩ := hv.rd.shape
  show Calls _ _ _ _ fun e w' => AnsSp w (bothS a b fun x y => x && y) e w'
  generalize a.length = N at HC ⊢
  generalize b.length = M at HC ⊢
  generalize (bothS a b fun x y => x && y) = R at HC ⊢
  obtain ⟨r, n⟩ := R
  clear hu hv
  go_enter Try.func21, Try.ntmps21
  go_wp2_with fail
  refine HC.out.mono ?_
  rintro e w1 ⟨v1, rfl, ho, hx⟩
  have HO := Lib.hid ho
  have HX := Lib.hid hx
  clear ho hx
  go_wp2_with fail
  go_ret2
  exact ⟨_, rfl, HO.out, HX.out⟩
theorem pOrSp_any (u v : Value) (a b : List Sp) (w : World) (hu : InSp w u a) (hv : InSp w v b) :
    Calls Try.prog 22 #[u, v] w fun e w' => AnsSp w (orS a b) e w' := by
  have HC := Lib.hid (choose_any 32 (fun x y => x || y) rfl enters_or or1_any u v a b w hu.rd hv.rd)
  obtain ⟨ua, uc, rfl, -, -⟩ := hu.rd.shape
  obtain ⟨va, vc, rfl, -, -⟩ := hv.rd.shape
  show Calls _ _ _ _ fun e w' => AnsSp w (bothS a b fun x y => x || y) e w'
  generalize a.length = N at HC ⊢
  generalize b.length = M at HC ⊢
  generalize (bothS a b fun x y => x || y) = R at HC ⊢
  obtain ⟨r, n⟩ := R
  clear hu hv
  go_enter Try.func22, Try.ntmps22
  go_wp2_with fail
  refine HC.out.mono ?_
  rintro e w1 ⟨v1, rfl, ho, hx⟩
  have HO := Lib.hid ho
  have HX := Lib.hid hx
  clear ho hx
  go_wp2_with fail
  go_ret2
  exact ⟨_, rfl, HO.out, HX.out⟩
theorem pMinusSp_any (u v : Value) (a b : List Sp) (w : World) (hu : InSp w u a) (hv : InSp w v b) :
    Calls Try.prog 23 #[u, v] w fun e w' => AnsSp w (minusS a b) e w' := by
  have HC := Lib.hid (choose_any 33 (fun x y => x && !y) rfl enters_minus minus1_any u v a b w hu.rd hv.rd)
  obtain ⟨ua, uc, rfl, -, -⟩ := hu.rd.shape
  obtain ⟨va, vc, rfl, -, -⟩ := hv.rd.shape
  show Calls _ _ _ _ fun e w' => AnsSp w (bothS a b fun x y => x && !y) e w'
  generalize a.length = N at HC ⊢
  generalize b.length = M at HC ⊢
  generalize (bothS a b fun x y => x && !y) = R at HC ⊢
  obtain ⟨r, n⟩ := R
  clear hu hv
  go_enter Try.func23, Try.ntmps23
  go_wp2_with fail
  refine HC.out.mono ?_
  rintro e w1 ⟨v1, rfl, ho, hx⟩
  have HO := Lib.hid ho
  have HX := Lib.hid hx
  clear ho hx
  go_wp2_with fail
  go_ret2
  exact ⟨_, rfl, HO.out, HX.out⟩

end Go.Proofs.Ythiijhdgbnpihaa
