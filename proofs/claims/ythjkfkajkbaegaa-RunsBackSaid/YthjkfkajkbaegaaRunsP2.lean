/-
  The program's own runs: Of.
-/
import Derived.Test.YthjkfkajkbaegaaRunsP1
namespace Go.Proofs.Ythjkfkajkbaegaa
open Go.RowKit Go.BigFrame

theorem own_shapeN {base size : Nat} {e : TypeId} {w : World} {v : Value} {n : Nat} {xs : List Value} (h : w.ownsRow base e size v n xs) : ∃ a cap, v = .slice a n cap ∧ n ≤ cap ∧ cap ≤ maxLen := by
  rcases h.2 with ⟨rfl, rfl⟩ | ⟨g, cap, cur, rfl, h2, h3, h4, h5, _⟩
  · exact ⟨none, 0, rfl, Nat.le_refl _, by simp [maxLen]⟩
  · exact ⟨_, cap, rfl, h4, h5⟩

set_option maxRecDepth 100000 in
set_option maxHeartbeats 2000000 in
theorem pOf9_any (u : Value) (xs : List Int) (w : World) (hu : RdV w u (xs.map (Value.int .i64))) (hxl : xs.length ≤ 5000) (_hf : ∀ x ∈ xs, -9223372036854775808 ≤ x ∧ x ≤ 9223372036854775807) :
    Calls Try.prog 13 #[u] w fun e w' => (∃ v, e = .returned v ∧ OwnSp w.heap.size w' v (ofR xs)) ∧ Ext w w' := by
  obtain ⟨ao, ca, rfl, -, -, -⟩ := RdV.cellsAt hu
  simp only [List.length_map] at *
  obtain ⟨-, h1, h2, hca⟩ := RdV.plain hu
  have HA := Lib.hid hca
  obtain ⟨N, hN⟩ : ∃ N, xs.length = N := ⟨_, rfl⟩
  have HN := Lib.hid hN
  unfold maxLen at h2
  rw [hN] at h1 hxl ⊢
  clear hu hca hN _hf
  go_enter Try.func13, Try.ntmps13
  go_wp2_with fail
  go_loopw [3, 5, 6, 9] (fun l _ _ i wr => ∃ k : Nat, k ≤ N ∧ i = .int .i64 k ∧ wr.ownsRow w.heap.size 45 2 l (ofR (xs.take k)).length ((ofR (xs.take k)).flatMap Sp.cells) ∧ Below w.heap.size w wr) (fun _ _ _ i _ => N - (intOf i).toNat)
  case atStart => exact ⟨0, Nat.zero_le _, rfl, ⟨rfl, .inl ⟨rfl, rfl⟩⟩, Ext.keeps.refl _⟩
  case round =>
    obtain ⟨k, hk, rfl, hown, hx⟩ := hrel
    have HX := Lib.hid hx
    have HW := Lib.hid hx.size
    by_cases hlt : k < N
    · have hkx : k < xs.length := by have := HN.out; omega
      obtain ⟨g, off, rfl, hcx⟩ := HA.out k hkx
      have hcw := (hx.cell (lt_of_cell hcx)).trans hcx
      by_cases hk0 : k = 0
      · subst hk0
        have HS := Lib.hid (ofR_take_new hkx (.inl rfl))
        have hown0 : wr.ownsRow w.heap.size 45 2 u3 ([] : List Sp).length (([] : List Sp).flatMap Sp.cells) := hown
        obtain ⟨so, sc, rfl, hs1, hs2⟩ := own_shapeN hown0
        have HO := Lib.hid hown0
        generalize xs[0] = X at hcw HS
        rw [Nat.add_zero] at hcw
        simp only [List.length_nil] at hs1 ⊢
        unfold maxLen at hs2
        clear hcx hkx hown hown0 hx
        go_wp2_with (at_builtin; go_must (refine wpList_append_run rfl (.tmp 35) (.tmp 38) rfl w.heap.size _ [] ⟨X, 1⟩ rfl HO.out rfl (by simp) HW.out ?_); intro v3 w3 hown3 hb3; have HO3 := Lib.hid hown3; have HB3 := Lib.hid hb3; clear hown3 hb3)
        go_roundw
        case rel => exact ⟨0 + 1, by omega, by go_num, by rw [HS.out]; exact HO3.out, HX.out.trans HB3.out⟩
        case measure => simp [intOf]; omega
      · obtain ⟨J, rfl⟩ : ∃ J, k = J + 1 := ⟨k - 1, by omega⟩
        have hjx : J < xs.length := by omega
        obtain ⟨m, a, hm, ha1, ha2⟩ := ofR_last (List.take_succ_eq_append_getElem hjx)
        have HNEW := Lib.hid (fun h => ofR_take_new hkx (.inr ⟨J, hjx, rfl, h⟩))
        have HSAME := Lib.hid (show xs[J] = xs[J + 1] → ofR (xs.take (J + 1 + 1)) = m ++ [⟨xs[J + 1], a + 1⟩] from fun h => by rw [List.take_succ_eq_append_getElem hkx, ofR_snoc, hm, h, snocR_same])
        rw [hm] at hown
        have hlen : (m ++ [(⟨xs[J], a⟩ : Sp)]).length = m.length + 1 := by simp
        have hlm : m.length + 1 ≤ 5000 := by
          have h := ofR_len (xs.take (J + 1))
          rw [hm, hlen, List.length_take] at h
          omega
        rw [hlen] at hown
        have HM := Lib.hid hm
        have HR := hown
        have HA12 := Lib.hid (show 1 ≤ a ∧ a ≤ J + 1 by rw [List.length_take] at ha2; omega)
        rw [hm] at HNEW
        generalize xs[J + 1] = X at hcw HNEW HSAME
        generalize hY : xs[J] = Y at HM HNEW HSAME HR hown
        obtain ⟨g', cap, rfl, hg0, hg1, hc0, hc1⟩ : ∃ g cap, u3 = .slice (some ⟨g, 0, none⟩) (m.length + 1) cap ∧ w.heap.size ≤ g ∧ g < wr.heap.size ∧ m.length + 1 ≤ cap ∧ cap ≤ maxLen := by
          rcases HR.2 with ⟨_, h⟩ | ⟨g, cap, cur, h1, h2, h3, h4, h5, _⟩
          · omega
          · exact ⟨g, cap, h1, h2, (Array.getElem?_eq_some_iff.1 h3).1, h4, h5⟩
        have hcell0 : wr.cell? ⟨g', m.length * 2, none⟩ = some (.int .i64 Y) := by
          have h := HR.cells (g := g') rfl (m.length * 2) (Value.int .i64 Y) (by
            rw [List.flatMap_append, List.getElem?_append_right (by rw [spCells_length]; omega), spCells_length, show m.length * 2 - m.length * 2 = 0 by omega]
            rfl)
          rw [add_at, Nat.zero_add] at h
          exact h
        have hcell : wr.cell? ⟨g', m.length * 2 + 1, none⟩ = some (.int .i64 a) := by
          have h := HR.cells (g := g') rfl (m.length * 2 + 1) (Value.int .i64 a) (by
            rw [List.flatMap_append, List.getElem?_append_right (by rw [spCells_length]; omega), spCells_length, show m.length * 2 + 1 - m.length * 2 = 1 by omega]
            rfl)
          rw [add_at, Nat.zero_add] at h
          exact h
        have HO := Lib.hid hown
        unfold maxLen at hc1
        by_cases he : Y = X
        · subst he
          have heq : (Y == Y) = true := beq_self_eq_true Y
          have HS := Lib.hid (HSAME.out rfl)
          have hfree := HR.frozenAt (m.length * 2 + 1)
          have HST := Lib.hid (show (wr.setCell ⟨g', m.length * 2 + 1, none⟩ (Value.int .i64 (a + 1))).ownsRow w.heap.size 45 2 (.slice (some ⟨g', 0, none⟩) (m.length + 1) cap) (m.length + 1) ((m ++ [(⟨Y, a + 1⟩ : Sp)]).flatMap Sp.cells) ∧ Below w.heap.size w (wr.setCell ⟨g', m.length * 2 + 1, none⟩ (Value.int .i64 (a + 1))) from by
            have h := (HR.stored (m.length * 2 + 1) (Value.int .i64 (a + 1))).1
            rw [runs_bump] at h
            exact ⟨by simpa using h, HX.out.trans ((OnlyS.of_onlyP (X := fun b => b = g') (OnlyP.set g' (m.length * 2 + 1) wr (Value.int .i64 (a + 1))) rfl).below HW.out (fun b hb => by rw [hb]; exact hg0))⟩)
          have HLM := Lib.hid (show (m ++ [(⟨Y, a + 1⟩ : Sp)]).length = m.length + 1 by simp)
          have ha3 : a ≤ 5000 := by have := HA12.out; omega
          generalize m.length = M at hlm hc0 hcell0 hcell hfree HST HLM ⊢
          clear HR hown hm hlen hx hcx hkx hjx hY ha1 ha2 HO HNEW HSAME HM
          have ha1 := HA12.out.1
          go_wp2_with fail
          go_roundw
          case rel => exact ⟨J + 1 + 1, by omega, by go_num, by rw [HS.out, HLM.out]; exact HST.out.1, HST.out.2⟩
          case measure => simp [intOf]; omega
        · have HS := Lib.hid (HNEW.out he)
          have hne : (Y == X) = false := beq_eq_false_iff_ne.2 he
          have HOA := Lib.hid (show wr.ownsRow w.heap.size 45 2 (.slice (some ⟨g', 0, none⟩) (m.length + 1) cap) (m ++ [(⟨Y, a⟩ : Sp)]).length ((m ++ [(⟨Y, a⟩ : Sp)]).flatMap Sp.cells) by rw [show (m ++ [(⟨Y, a⟩ : Sp)]).length = m.length + 1 by simp]; exact HO.out)
          have HLM := Lib.hid (show (m ++ [(⟨Y, a⟩ : Sp)]).length = m.length + 1 by simp)
          generalize m.length = M at hlm hc0 hcell0 hcell HOA HLM ⊢
          clear HR hown hm hlen hx hcx hkx hjx hY ha1 ha2
          go_wp2_with (at_builtin; go_must (refine wpList_append_run rfl (.tmp 35) (.tmp 38) rfl w.heap.size _ (m ++ [(⟨Y, a⟩ : Sp)]) ⟨X, 1⟩ rfl HOA.out rfl (by rw [HLM.out]; omega) HW.out ?_); intro v3 w3 hown3 hb3; have HO3 := Lib.hid hown3; have HB3 := Lib.hid hb3; clear hown3 hb3)
          go_roundw
          case rel => exact ⟨J + 1 + 1, by omega, by go_num, by rw [HS.out]; exact HO3.out, HX.out.trans HB3.out⟩
          case measure => simp [intOf]; omega
    · have HK := Lib.hid (show k = N by omega)
      have HO := Lib.hid hown
      clear hown hx
      go_wp2_with fail
      go_ret
      refine ⟨⟨_, rfl, ?_⟩, HX.out⟩
      have h := OwnSp.of_owns HO.out
      rw [HK.out, List.take_of_length_le (by rw [HN.out]; exact Nat.le_refl _)] at h
      exact h

end Go.Proofs.Ythjkfkajkbaegaa
