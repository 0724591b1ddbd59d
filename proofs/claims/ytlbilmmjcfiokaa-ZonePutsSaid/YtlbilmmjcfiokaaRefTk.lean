/-
  The document's reader (its bytes lie where P holds): a number, an int, taken off the front.
-/
import Derived.Test.YtlbilmmjcfiokaaRefReadP
import Derived.Test.YtlbilmmjcfiokaaTk
import Derived.Test.YtlbilmmjcfiokaaOnly
namespace Go.Proofs.Ytlbilmmjcfiokaa
open Go.RowKit Go.BigFrame

theorem RdrP.below {T : TypeId} {P : Nat → Prop} {N g : Nat} {w w' : World} {l : List UInt8} {bad : Bool} (h : RdrP T P w g l bad) (hb : Below N w w') (hg : g < N) (hP : ∀ k, P k → k < N) : RdrP T P w' g l bad := by
  obtain ⟨v, h1, h2, h3⟩ := h
  have ho : OnlyS (fun k => N ≤ k) w w' := ⟨hb.os, hb.tape, hb.output, hb.size, fun b _ hx => hb.block b (by omega)⟩
  exact ⟨v, (hb.block g hg).trans h1, h2.onlyS ho (fun _ k hk => by have := hP k (h3 k hk); omega), h3⟩
theorem refRNum_tk (P : Nat → Prop) (g : Nat) (l : List UInt8) (bad : Bool) (w : World) (hbl : bad = true → l = []) (h : RRefP P w g l bad) :
    Calls Try.prog 63 #[.pointer (some ⟨g, 0, none⟩)] w fun e w' => e = .returned (.int .u64 (tk l).1) ∧ RRefP P w' g (tk l).2.1 (tk l).2.2 ∧ Only g w w' := by
  by_cases h0 : (front l).2 = 0
  · rw [tk_no h0]
    exact refRNum_noP P g l bad w h h0
  · have hb : bad = false := by
      cases bad with
      | false => rfl
      | true => rw [hbl rfl] at h0; exact absurd rfl h0
    subst hb
    rw [tk_ok h0]
    exact refRNum_yesP P g l false _ _ w h rfl h0
theorem refRInt_tk (P : Nat → Prop) (g : Nat) (l : List UInt8) (bad : Bool) (w : World) (hbl : bad = true → l = []) (h : RRefP P w g l bad) :
    Calls Try.prog 39 #[.pointer (some ⟨g, 0, none⟩)] w fun e w' => e = .returned (.int .i64 (zag (tk l).1)) ∧ RRefP P w' g (tk l).2.1 (tk l).2.2 ∧ Only g w w' := by
  by_cases h0 : (front l).2 = 0
  · rw [tk_no h0]
    exact refRInt_noP P g l bad w h h0
  · have hb : bad = false := by
      cases bad with
      | false => rfl
      | true => rw [hbl rfl] at h0; exact absurd rfl h0
    subst hb
    rw [tk_ok h0]
    exact refRInt_yesP P g l false _ _ w h rfl h0
theorem only_belowR {g N : Nat} {w w' : World} (h : Only g w w') (hN : N ≤ w.heap.size) (hg : N ≤ g) : Below N w w' :=
  ⟨h.os, h.tape, h.output, h.size, fun k hk => h.block k (by omega) (fun e => by have : k = g := (by simpa using e); omega)⟩

end Go.Proofs.Ytlbilmmjcfiokaa
