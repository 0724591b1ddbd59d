/-
  The contracts of the document's own spans: spans of a set, Of, List, Both.
-/
import Derived.Test.YthiijhdgbnpihaaSpansSet
namespace Go.Proofs.Ythiijhdgbnpihaa
open Go.RowKit Go.BigFrame

theorem sp_oneCell (s : Sp) : ∀ u ∈ s.cells, u.oneCell' = true := by
  intro u hu
  simp only [Sp.cells, List.mem_cons, List.not_mem_nil, or_false] at hu
  rcases hu with rfl | rfl <;> rfl

/-- append(l, s) of a span. -/
theorem wpList_append_sp {ops : Array Oper} {rest : List Oper} {o : Oper} {a : Act} {Q : Exit → Act → World → Prop} {w : World} (hgd : o.guard = none) (s x : Operand)
    (ho : o.op = .call { callee := .builtin .append, args := #[s, x], argTypes := #[24, 24] })
    (base : Nat) (v : Value) (ps : List Sp) (e : Sp) (hs : a.eval s = v) (hown : w.ownsRow base 39 2 v ps.length (ps.flatMap Sp.cells))
    (hx : a.eval x = .slice (some ⟨w.heap.size, 0, none⟩) 1 1) (hp : ps.length ≤ 5000) (hbase : base ≤ w.heap.size)
    (h : ∀ v' w', w'.ownsRow base 39 2 v' (ps ++ [e]).length ((ps ++ [e]).flatMap Sp.cells) → Below base w w' → wpList Try.prog ops Q rest (a.put o.dst v') w') :
    wpList Try.prog ops Q (o :: rest) a (w.alloc (.cells e.cells.toArray 39)) := by
  obtain ⟨i0, hi, hz0, hz1, hz2⟩ := info_parts Try.info_span
  have hc := row_new w e.cells 39
  refine wpList_append_own _ hgd s x 24 ho base 39 i0 _ 2 16 Try.underlying24 hi hz0 hz1 hz2 rfl (by decide) v ps.length _ hs (hown.alloc _) ⟨w.heap.size, 0, none⟩ 1 1 e.cells hx rfl hc (sp_oneCell e) (by unfold maxLen; omega) (by omega) (by simp; omega) fun v' w' h1 h2 _ => h v' w' ?_ ?_
  · rw [List.length_append, List.flatMap_append]
    simpa using h1
  · exact (((Below.refl base w).alloc hbase _).grown h2 (by simp; omega) (fun b hb => (hown.lt b hb).1))

theorem spansTo_len (f : Int → Bool) (k : Nat) : (spansTo f k).length ≤ k := by
  induction k with
  | zero => exact Nat.le_refl _
  | succ k ih =>
    show (if f k = true then (if 0 < k ∧ f ((k : Int) - 1) = true then (spansTo f k).dropLast ++ [_] else spansTo f k ++ [_]) else spansTo f k).length ≤ k + 1
    split
    · split
      · rw [List.length_append, List.length_dropLast, List.length_singleton]; omega
      · rw [List.length_append, List.length_singleton]; omega
    · omega
theorem spansTo_bump {f : Int → Bool} {k : Nat} {m : List Sp} {a : Int} (h1 : f k = true) (h2 : 0 < k) (h3 : f ((k : Int) - 1) = true) (hl : spansTo f k = m ++ [⟨a, k⟩]) : spansTo f (k + 1) = m ++ [⟨a, (k : Int) + 1⟩] := by
  show (if f k = true then _ else _) = _
  rw [if_pos h1, if_pos ⟨h2, h3⟩, hl]
  simp
theorem spansTo_new {f : Int → Bool} {k : Nat} (h1 : f k = true) (h2 : ¬ (0 < k ∧ f ((k : Int) - 1) = true)) : spansTo f (k + 1) = spansTo f k ++ [⟨k, (k : Int) + 1⟩] := by
  show (if f k = true then _ else _) = _
  rw [if_pos h1, if_neg h2]
theorem spansTo_off {f : Int → Bool} {k : Nat} (h1 : f k = false) : spansTo f (k + 1) = spansTo f k := by
  show (if f k = true then _ else _) = _
  rw [if_neg (by rw [h1]; decide)]
theorem cells_bump (m : List Sp) (a b c : Int) : (((m ++ [(⟨a, b⟩ : Sp)]).flatMap Sp.cells).set (m.length * 2 + 1) (Value.int .i64 c)) = (m ++ [(⟨a, c⟩ : Sp)]).flatMap Sp.cells := by
  have hl : (m.flatMap Sp.cells).length = m.length * 2 := spCells_length m
  rw [List.flatMap_append, List.flatMap_append, List.set_append_right _ _ (by omega), hl, show m.length * 2 + 1 - m.length * 2 = 1 by omega]
  rfl

set_option maxRecDepth 100000 in
set_option maxHeartbeats 2000000 in
theorem refSpans_any (G : Nat) (f : Int → Bool) (w : World) (hon : OnF w G f) :
    Calls Try.prog 26 #[.slice (some ⟨G, 0, none⟩) 4096 4096] w fun e w' => (∃ v, e = .returned v ∧ OwnSp w.heap.size w' v (normS f)) ∧ Ext w w' := by
  have HO := Lib.hid hon
  clear hon
  have HEND := Lib.hid (show normS f = spansTo f 4096 from rfl)
  go_enter Try.func26, Try.ntmps26
  go_wp2_with fail
  go_loopw [3, 4] (fun l i wr => ∃ k : Nat, k ≤ 4096 ∧ i = .int .i64 k ∧ wr.ownsRow w.heap.size 39 2 l (spansTo f k).length ((spansTo f k).flatMap Sp.cells) ∧ Below w.heap.size w wr) (fun _ i _ => 4096 - (intOf i).toNat)
  case atStart => exact ⟨0, Nat.zero_le _, rfl, ⟨rfl, .inl ⟨rfl, rfl⟩⟩, Ext.keeps.refl _⟩
  case round =>
    obtain ⟨k, hk, rfl, hown, hx⟩ := hrel
    have HOWN := Lib.hid hown
    have HX := Lib.hid hx
    clear hown hx
    by_cases hlt : k < 4096
    · have HOR := Lib.hid (HO.out.ext HX.out)
      have hc := HOR.out.cell k hlt
      have HLEN := Lib.hid (spansTo_len f k)
      have HW := Lib.hid HX.out.size
      cases hf : f k with
      | false =>
        rw [hf] at hc
        have HS := Lib.hid (spansTo_off hf)
        clear hf
        go_wp2_with fail
        go_roundw
        case rel => exact ⟨k + 1, by omega, by go_num, by rw [HS.out]; exact HOWN.out, HX.out⟩
        case measure => simp [intOf]; omega
      | true =>
        rw [hf] at hc
        have HF := Lib.hid hf
        clear hf
        by_cases hk0 : k = 0
        · subst hk0
          have HS := Lib.hid (spansTo_new (k := 0) HF.out (fun h => Nat.lt_irrefl 0 h.1))
          go_wp2_with (at_builtin; go_must (refine wpList_append_sp rfl (.tmp 40) (.tmp 45) rfl w.heap.size _ (spansTo f 0) ⟨0, 1⟩ rfl HOWN.out rfl (by have := HLEN.out; omega) HW.out ?_); intro v3 w3 hown3 hb3; have HO3 := Lib.hid hown3; have HB3 := Lib.hid hb3; clear hown3 hb3)
          go_roundw
          case rel => exact ⟨0 + 1, by omega, by go_num, by rw [HS.out]; exact HO3.out, HX.out.trans HB3.out⟩
          case measure => simp [intOf]
        · obtain ⟨J, rfl⟩ : ∃ J, k = J + 1 := ⟨k - 1, by omega⟩
          have e1 : (((J + 1 : Nat) : Int) - 1) = (J : Int) := by omega
          have hp := HOR.out.cell J (by omega)
          cases hfp : f J with
          | false =>
            rw [hfp] at hp
            have HS := Lib.hid (spansTo_new HF.out (fun h => by rw [e1, hfp] at h; exact absurd h.2 (by decide)))
            clear hfp e1
            go_wp2_with (at_builtin; go_must (refine wpList_append_sp rfl (.tmp 40) (.tmp 45) rfl w.heap.size _ (spansTo f (J + 1)) ⟨((J + 1 : Nat) : Int), ((J + 1 : Nat) : Int) + 1⟩ rfl HOWN.out rfl (by have := HLEN.out; omega) HW.out ?_); intro v3 w3 hown3 hb3; have HO3 := Lib.hid hown3; have HB3 := Lib.hid hb3; clear hown3 hb3)
            go_roundw
            case rel => exact ⟨J + 1 + 1, by omega, by go_num, by rw [HS.out]; exact HO3.out, HX.out.trans HB3.out⟩
            case measure => simp [intOf]; omega
          | true =>
            rw [hfp] at hp
            obtain ⟨m, a, hl⟩ := (spansTo_ok f (J + 1) hk).last (Nat.succ_pos _) (by rw [e1]; exact hfp)
            have HS := Lib.hid (spansTo_bump HF.out (Nat.succ_pos _) (by rw [e1]; exact hfp) hl)
            have HR := HOWN.out
            have HLL := HLEN.out
            rw [hl] at HR HLL
            have hlen : (m ++ [(⟨a, ((J + 1 : Nat) : Int)⟩ : Sp)]).length = m.length + 1 := by simp
            rw [hlen] at HR HLL
            obtain ⟨g, cap, rfl, hg0, hg1, hc0, hc1⟩ : ∃ g cap, u3 = .slice (some ⟨g, 0, none⟩) (m.length + 1) cap ∧ w.heap.size ≤ g ∧ g < wr.heap.size ∧ m.length + 1 ≤ cap ∧ cap ≤ maxLen := by
              rcases HR.2 with ⟨_, h⟩ | ⟨g, cap, cur, h1, h2, h3, h4, h5, _⟩
              · omega
              · exact ⟨g, cap, h1, h2, (Array.getElem?_eq_some_iff.1 h3).1, h4, h5⟩
            have hcell : wr.cell? ⟨g, m.length * 2 + 1, none⟩ = some (.int .i64 ((J : Int) + 1)) := by
              have h := HR.cells (g := g) rfl (m.length * 2 + 1) (Value.int .i64 (((J + 1 : Nat) : Int))) (by
                rw [List.flatMap_append, List.getElem?_append_right (by rw [spCells_length]; omega), spCells_length, show m.length * 2 + 1 - m.length * 2 = 1 by omega]
                rfl)
              rw [add_at, Nat.zero_add] at h
              rw [h]
              simp
            have hfree := HR.frozenAt (m.length * 2 + 1)
            have HST := Lib.hid (show (wr.setCell ⟨g, m.length * 2 + 1, none⟩ (Value.int .i64 ((J : Int) + 1 + 1))).ownsRow w.heap.size 39 2 (.slice (some ⟨g, 0, none⟩) (m.length + 1) cap) (m.length + 1) ((m ++ [(⟨a, (((J + 1 : Nat) : Int)) + 1⟩ : Sp)]).flatMap Sp.cells) ∧ Below w.heap.size w (wr.setCell ⟨g, m.length * 2 + 1, none⟩ (Value.int .i64 ((J : Int) + 1 + 1))) from by
              have h := (HR.stored (m.length * 2 + 1) (Value.int .i64 ((J : Int) + 1 + 1))).1
              rw [cells_bump] at h
              exact ⟨by simpa using h, HX.out.trans ((OnlyS.of_onlyP (X := fun b => b = g) (OnlyP.set g (m.length * 2 + 1) wr (Value.int .i64 ((J : Int) + 1 + 1))) rfl).below HW.out (fun b hb => by rw [hb]; exact hg0))⟩)
            have HLN := Lib.hid (show (spansTo f (J + 1)).length = m.length + 1 by rw [hl, hlen])
            unfold maxLen at hc1
            clear HR hl hlen hfp e1
            generalize hM : m.length = M at hcell hfree HST HLL hc0 HLN ⊢
            have HLM := Lib.hid hM
            clear hM
            go_wp2_with fail
            go_roundw
            case rel => exact ⟨J + 1 + 1, by omega, by go_num, by rw [HS.out, List.length_append, HLM.out]; exact HST.out.1, HST.out.2⟩
            case measure => simp [intOf]; omega
    · have HK := Lib.hid (show k = 4096 by omega)
      go_wp2_with fail
      go_ret
      refine ⟨⟨_, rfl, ?_⟩, HX.out⟩
      rw [HEND.out, ← HK.out]
      exact OwnSp.of_owns HOWN.out

end Go.Proofs.Ythiijhdgbnpihaa
