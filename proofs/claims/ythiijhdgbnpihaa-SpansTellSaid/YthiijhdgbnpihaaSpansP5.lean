/-
  The program's spans: extend.
-/
import Derived.Test.YthiijhdgbnpihaaSpansP4
namespace Go.Proofs.Ythiijhdgbnpihaa
open Go.RowKit Go.BigFrame

/-- Spans, and behind them the places from F up to T. -/
def extS (m : List Sp) (F T : Int) : List Sp := match m.getLast? with
  | some s => if s.t = F then m.dropLast ++ [⟨s.f, T⟩] else m ++ [⟨F, T⟩]
  | none => [⟨F, T⟩]
theorem extS_nil (F T : Int) : extS [] F T = [⟨F, T⟩] := rfl
theorem extS_bump (p : List Sp) (a F T : Int) : extS (p ++ [⟨a, F⟩]) F T = p ++ [⟨a, T⟩] := by
  simp [extS]
theorem extS_new (p : List Sp) (s : Sp) (F T : Int) (h : s.t ≠ F) : extS (p ++ [s]) F T = p ++ [s] ++ [⟨F, T⟩] := by
  simp [extS, h]
theorem extS_len (m : List Sp) (F T : Int) : (extS m F T).length ≤ m.length + 1 := by
  rcases List.eq_nil_or_concat m with rfl | ⟨p, s, rfl⟩
  · exact Nat.le_refl _
  · rw [List.concat_eq_append]
    by_cases h : s.t = F
    · obtain ⟨a, b⟩ := s
      simp only at h
      subst h
      rw [extS_bump]
      simp
    · rw [extS_new _ _ _ _ h]
      simp

set_option maxRecDepth 100000 in
set_option maxHeartbeats 1000000 in
theorem extend_any (base : Nat) (v : Value) (m : List Sp) (F T : Int) (w : World) (hb : base ≤ w.heap.size) (hl : m.length ≤ 5000) (ho : w.ownsRow base 39 2 v m.length (m.flatMap Sp.cells)) :
    Calls Try.prog 25 #[v, .int .i64 F, .int .i64 T] w fun e w' => (∃ v', e = .returned v' ∧ w'.ownsRow base 39 2 v' (extS m F T).length ((extS m F T).flatMap Sp.cells)) ∧ Below base w w' := by
  have HO := Lib.hid ho
  have HB := Lib.hid hb
  have HL := Lib.hid hl
  clear hb hl
  rcases List.eq_nil_or_concat m with rfl | ⟨p, s, rfl⟩
  · have hv : v = .slice none 0 0 ∨ ∃ g cap, v = .slice (some ⟨g, 0, none⟩) 0 cap ∧ cap ≤ maxLen := by
      rcases ho.2 with ⟨h, _⟩ | ⟨g, cap, cur, h1, h2, h3, h4, h5, _⟩
      · exact .inl h
      · exact .inr ⟨g, cap, h1, h5⟩
    clear ho
    rw [extS_nil]
    rcases hv with rfl | ⟨g, cap, rfl, hcap⟩
    · go_enter Try.func25, Try.ntmps25
      go_wp2_with (at_builtin; go_must (refine wpList_append_sp rfl (.tmp 28) (.tmp 32) rfl base _ [] ⟨F, T⟩ rfl HO.out rfl (by simp) HB.out ?_); intro v3 w3 hown3 hb3; have HO3 := Lib.hid hown3; have HB3 := Lib.hid hb3; clear hown3 hb3)
      go_ret
      exact ⟨⟨_, rfl, HO3.out⟩, HB3.out⟩
    · unfold maxLen at hcap
      go_enter Try.func25, Try.ntmps25
      go_wp2_with (at_builtin; go_must (refine wpList_append_sp rfl (.tmp 28) (.tmp 32) rfl base _ [] ⟨F, T⟩ rfl HO.out rfl (by simp) HB.out ?_); intro v3 w3 hown3 hb3; have HO3 := Lib.hid hown3; have HB3 := Lib.hid hb3; clear hown3 hb3)
      go_ret
      exact ⟨⟨_, rfl, HO3.out⟩, HB3.out⟩
  · rw [List.concat_eq_append] at *
    obtain ⟨a, b⟩ := s
    have hlen : (p ++ [(⟨a, b⟩ : Sp)]).length = p.length + 1 := by simp
    rw [hlen] at ho HO HL
    obtain ⟨g, cap, rfl, hg0, hg1, hc0, hc1⟩ : ∃ g cap, v = .slice (some ⟨g, 0, none⟩) (p.length + 1) cap ∧ base ≤ g ∧ g < w.heap.size ∧ p.length + 1 ≤ cap ∧ cap ≤ maxLen := by
      rcases ho.2 with ⟨_, h⟩ | ⟨g, cap, cur, h1, h2, h3, h4, h5, _⟩
      · omega
      · exact ⟨g, cap, h1, h2, (Array.getElem?_eq_some_iff.1 h3).1, h4, h5⟩
    have hcell : w.cell? ⟨g, p.length * 2 + 1, none⟩ = some (.int .i64 b) := by
      have h := ho.cells (g := g) rfl (p.length * 2 + 1) (Value.int .i64 b) (by
        rw [List.flatMap_append, List.getElem?_append_right (by rw [spCells_length]; omega), spCells_length, show p.length * 2 + 1 - p.length * 2 = 1 by omega]
        rfl)
      rw [add_at, Nat.zero_add] at h
      exact h
    have hfree := ho.frozenAt (p.length * 2 + 1)
    unfold maxLen at hc1
    by_cases hbF : b = F
    · subst hbF
      rw [extS_bump]
      have HST := Lib.hid (show (w.setCell ⟨g, p.length * 2 + 1, none⟩ (Value.int .i64 T)).ownsRow base 39 2 (.slice (some ⟨g, 0, none⟩) (p.length + 1) cap) (p.length + 1) ((p ++ [(⟨a, T⟩ : Sp)]).flatMap Sp.cells) ∧ Below base w (w.setCell ⟨g, p.length * 2 + 1, none⟩ (Value.int .i64 T)) from by
        have h := (ho.stored (p.length * 2 + 1) (Value.int .i64 T)).1
        rw [cells_bump] at h
        exact ⟨by simpa using h, ((OnlyS.of_onlyP (X := fun b => b = g) (OnlyP.set g (p.length * 2 + 1) w (Value.int .i64 T)) rfl).below HB.out (fun b hb => by rw [hb]; exact hg0))⟩)
      have hq : (b == b) = true := beq_self_eq_true _
      have HLE := Lib.hid (show (p ++ [(⟨a, T⟩ : Sp)]).length = p.length + 1 by simp)
      clear ho hlen
      generalize hM : p.length = M at hcell hfree HST HL hc0 HLE ⊢
      clear hM
      go_enter Try.func25, Try.ntmps25
      go_wp2_with fail
      go_ret
      exact ⟨⟨_, rfl, by rw [HLE.out]; exact HST.out.1⟩, HST.out.2⟩
    · rw [extS_new _ _ _ _ hbF]
      have hq : (b == F) = false := beq_eq_false_iff_ne.2 hbF
      have HLE := Lib.hid hlen
      clear ho hlen hbF
      generalize hM : p.length = M at hcell hfree HL hc0 HO HLE ⊢
      clear hM
      go_enter Try.func25, Try.ntmps25
      go_wp2_with (at_builtin; go_must (refine wpList_append_sp rfl (.tmp 28) (.tmp 32) rfl base _ (p ++ [⟨a, b⟩]) ⟨F, T⟩ rfl (by rw [HLE.out]; exact HO.out) rfl (by rw [HLE.out]; exact HL.out) HB.out ?_); intro v3 w3 hown3 hb3; have HO3 := Lib.hid hown3; have HB3 := Lib.hid hb3; clear hown3 hb3)
      go_ret
      exact ⟨⟨_, rfl, HO3.out⟩, HB3.out⟩

end Go.Proofs.Ythiijhdgbnpihaa
