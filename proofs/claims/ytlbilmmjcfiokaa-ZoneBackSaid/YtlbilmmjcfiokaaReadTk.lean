/-
  The program's reader (its bytes lie where P holds): a number, an int, a text, taken off the front; the end.
-/
import Derived.Test.YtlbilmmjcfiokaaReadP
import Derived.Test.YtlbilmmjcfiokaaRefTk
namespace Go.Proofs.Ytlbilmmjcfiokaa
open Go.RowKit Go.BigFrame

theorem RNum_tk (P : Nat → Prop) (g : Nat) (l : List UInt8) (bad : Bool) (w : World) (hbl : bad = true → l = []) (h : RdO P w g l bad) :
    Calls Try.prog 84 #[.pointer (some ⟨g, 0, none⟩)] w fun e w' => e = .returned (.int .u64 (tk l).1) ∧ RdO P w' g (tk l).2.1 (tk l).2.2 ∧ Only g w w' := by
  cases bad with
  | true =>
    have hl := hbl rfl
    subst hl
    rw [tk_no (show (front []).2 = 0 from rfl)]
    exact (RNum_badP P g [] w h).mono fun e w' hh => ⟨hh.1, by rw [← hh.2]; exact h, by rw [← hh.2]; exact Only.refl _ _⟩
  | false =>
    by_cases h0 : (front l).2 = 0
    · rw [tk_no h0]
      exact RNum_noP P g l w h h0
    · rw [tk_ok h0]
      exact RNum_yesP P g l _ _ w h rfl h0
theorem RInt_tk (P : Nat → Prop) (g : Nat) (l : List UInt8) (bad : Bool) (w : World) (hbl : bad = true → l = []) (h : RdO P w g l bad) :
    Calls Try.prog 58 #[.pointer (some ⟨g, 0, none⟩)] w fun e w' => e = .returned (.int .i64 (zag (tk l).1)) ∧ RdO P w' g (tk l).2.1 (tk l).2.2 ∧ Only g w w' := by
  cases bad with
  | true =>
    have hl := hbl rfl
    subst hl
    rw [tk_no (show (front []).2 = 0 from rfl)]
    exact (RInt_badP P g [] w h).mono fun e w' hh => ⟨hh.1, by rw [← hh.2]; exact h, by rw [← hh.2]; exact Only.refl _ _⟩
  | false =>
    by_cases h0 : (front l).2 = 0
    · rw [tk_no h0]
      exact RInt_noP P g l w h h0
    · rw [tk_ok h0]
      exact RInt_yesP P g l _ _ w h rfl h0
theorem RText_tk (P : Nat → Prop) (g : Nat) (l : List UInt8) (bad : Bool) (w : World) (hbl : bad = true → l = []) (h : RdO P w g l bad) :
    Calls Try.prog 78 #[.pointer (some ⟨g, 0, none⟩)] w fun e w' => e = .returned (.string ⟨(tkT l).1.toArray⟩) ∧ RdO P w' g (tkT l).2.1 (tkT l).2.2 ∧ Only g w w' := by
  cases bad with
  | true =>
    have hl := hbl rfl
    subst hl
    rw [tkT_no (show (front []).2 = 0 from rfl)]
    exact (RText_badP P g [] w h).mono fun e w' hh => ⟨hh.1, by rw [← hh.2]; exact h, by rw [← hh.2]; exact Only.refl _ _⟩
  | false =>
    by_cases h0 : (front l).2 = 0
    · rw [tkT_no h0]
      exact RText_noP P g l w h h0
    · by_cases hn : 1024 < (front l).1 ∨ (l.drop (front l).2).length < (front l).1
      · rw [tkT_long h0 hn]
        exact RText_longP P g l _ _ _ w h rfl h0 rfl hn
      · rw [tkT_ok h0 hn]
        exact RText_yesP P g l _ _ _ w h rfl h0 rfl (by omega) (by omega)
theorem End_tk (P : Nat → Prop) (g : Nat) (l : List UInt8) (bad : Bool) (w : World) (h : RdO P w g l bad) :
    Calls Try.prog 59 #[.pointer (some ⟨g, 0, none⟩)] w fun e w' => e = .returned (.int .i64 (if bad = false ∧ l.length = 0 then 0 else 6)) ∧ w = w' := by
  cases bad with
  | true =>
    rw [if_neg (fun h => by cases h.1)]
    exact End_badP P g l w h
  | false =>
    by_cases hl : l.length = 0
    · rw [if_pos ⟨rfl, hl⟩]
      have h1 := End_anyP P g l w h
      rw [if_pos hl] at h1
      exact h1
    · rw [if_neg (fun h => hl h.2)]
      have h1 := End_anyP P g l w h
      rw [if_neg hl] at h1
      exact h1
theorem zig_zag {n : Nat} (h : n < 2 ^ 64) : zig (zag n) = n := by
  unfold zag
  split
  · have := zig_neg (-1 - ((n / 2 : Nat) : Int)) (by omega)
    omega
  · have := zig_pos ((n / 2 : Nat) : Int) (by omega)
    omega

end Go.Proofs.Ytlbilmmjcfiokaa
