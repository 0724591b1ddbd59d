/-
  The program's spans: passed, entered, border.
-/
import Derived.Test.YthiijhdgbnpihaaSpansP3
namespace Go.Proofs.Ythiijhdgbnpihaa
open Go.RowKit Go.BigFrame

def passedS : List Sp → Int → Bool
  | [], _ => false
  | s :: _, k => decide (s.t ≤ k)
def enteredS : List Sp → Int → Bool
  | [], _ => false
  | s :: _, k => decide (s.f ≤ k)
def borderS : List Sp → Int → Int
  | [], _ => 4096
  | s :: _, k => if s.f ≤ k then s.t else s.f

theorem RdSp.head {w : World} {u : Value} {s : Sp} {l : List Sp} (h : RdSp w u (s :: l)) : ∃ g off cap, u = .slice (some ⟨g, off, none⟩) (l.length + 1) cap ∧ l.length + 1 ≤ cap ∧ cap ≤ maxLen ∧ w.cell? ⟨g, off, none⟩ = some (.int .i64 s.f) ∧ w.cell? ⟨g, off + 1, none⟩ = some (.int .i64 s.t) := by
  obtain ⟨ao, cap, rfl, h2, h3, h4, _⟩ := h
  obtain ⟨g, off, rfl, h5, h6⟩ := h4 0 (by simp)
  exact ⟨g, off, cap, rfl, h2, h3, by simpa using h5, by simpa using h6⟩
theorem RdSp.none {w : World} {u : Value} (h : RdSp w u []) : ∃ ao cap, u = .slice ao 0 cap ∧ cap ≤ maxLen := by
  obtain ⟨ao, cap, rfl, _, h3, _⟩ := h
  exact ⟨ao, cap, rfl, h3⟩

theorem passed_any (u : Value) (l : List Sp) (k : Int) (w : World) (hu : RdSp w u l) :
    Calls Try.prog 34 #[u, .int .i64 k] w fun e w' => e = .returned (.bool (passedS l k)) ∧ w = w' := by
  cases l with
  | nil =>
    obtain ⟨ao, cap, rfl, h1⟩ := hu.none
    clear hu
    go_enter Try.func34, Try.ntmps34
    go_wp2_with fail
    go_ret
    exact ⟨rfl, rfl⟩
  | cons s l =>
    obtain ⟨g, off, cap, rfl, h1, h2, h3, h4⟩ := hu.head
    have e : passedS (s :: l) k = decide (s.t ≤ k) := rfl
    rw [e]
    generalize s.f = F at h3
    generalize s.t = C at h4 ⊢
    generalize l.length = N at h1 ⊢
    clear hu e
    unfold maxLen at h2
    go_enter Try.func34, Try.ntmps34
    go_wp2_with fail
    go_ret
    exact ⟨rfl, rfl⟩
theorem entered_any (u : Value) (l : List Sp) (k : Int) (w : World) (hu : RdSp w u l) :
    Calls Try.prog 36 #[u, .int .i64 k] w fun e w' => e = .returned (.bool (enteredS l k)) ∧ w = w' := by
  cases l with
  | nil =>
    obtain ⟨ao, cap, rfl, h1⟩ := hu.none
    clear hu
    go_enter Try.func36, Try.ntmps36
    go_wp2_with fail
    go_ret
    exact ⟨rfl, rfl⟩
  | cons s l =>
    obtain ⟨g, off, cap, rfl, h1, h2, h3, h4⟩ := hu.head
    have e : enteredS (s :: l) k = decide (s.f ≤ k) := rfl
    rw [e]
    generalize s.f = F at h3 ⊢
    generalize s.t = C at h4
    generalize l.length = N at h1 ⊢
    clear hu e
    unfold maxLen at h2
    go_enter Try.func36, Try.ntmps36
    go_wp2_with fail
    go_ret
    exact ⟨rfl, rfl⟩
theorem border_any (u : Value) (l : List Sp) (k : Int) (w : World) (hu : RdSp w u l) :
    Calls Try.prog 35 #[u, .int .i64 k] w fun e w' => e = .returned (.int .i64 (borderS l k)) ∧ w = w' := by
  cases l with
  | nil =>
    obtain ⟨ao, cap, rfl, h1⟩ := hu.none
    clear hu
    go_enter Try.func35, Try.ntmps35
    go_wp2_with fail
    go_ret
    exact ⟨rfl, rfl⟩
  | cons s l =>
    have HE := Lib.hid (entered_any u (s :: l) k w hu)
    obtain ⟨g, off, cap, rfl, h1, h2, h3, h4⟩ := hu.head
    have e : enteredS (s :: l) k = decide (s.f ≤ k) := rfl
    rw [e] at HE
    have e2 : borderS (s :: l) k = if s.f ≤ k then s.t else s.f := rfl
    rw [e2]
    generalize s.f = F at h3 HE ⊢
    generalize s.t = C at h4 ⊢
    generalize l.length = N at h1 HE ⊢
    clear hu e e2
    unfold maxLen at h2
    by_cases hq : F ≤ k
    · rw [if_pos hq]
      rw [decide_eq_true hq] at HE
      go_enter Try.func35, Try.ntmps35
      go_wp2_with fail
      refine HE.out.mono ?_
      rintro e w1 ⟨rfl, rfl⟩
      go_wp2_with fail
      go_ret
      exact ⟨rfl, rfl⟩
    · rw [if_neg hq]
      rw [decide_eq_false hq] at HE
      go_enter Try.func35, Try.ntmps35
      go_wp2_with fail
      refine HE.out.mono ?_
      rintro e w1 ⟨rfl, rfl⟩
      go_wp2_with fail
      go_ret
      exact ⟨rfl, rfl⟩

end Go.Proofs.Ythiijhdgbnpihaa
