/-
  The walk of the law SpansOf.
-/
import Derived.Test.YthiijhdgbnpihaaSpansShown
import Derived.Test.YthiijhdgbnpihaaInts
namespace Go.Proofs.Ythiijhdgbnpihaa
open Go.ChangeAt Go.RowKit Go.BigFrame

/-- The first ones of a slice. -/
theorem rdV_head {w : World} {ao : Option Addr} {N cap : Nat} {xs : List Value} (h : RdV w (.slice ao N cap) xs) (K : Nat) (hK : K ≤ N) : RdV w (.slice ao K cap) (xs.take K) := by
  rcases h with ⟨h1, h2⟩ | ⟨x, cap', h1, h2, h3, h4⟩
  · simp only [Value.slice.injEq] at h1
    obtain ⟨rfl, rfl, rfl⟩ := h1
    have hk : K = 0 := by omega
    subst hk
    subst h2
    exact .inl ⟨rfl, rfl⟩
  · simp only [Value.slice.injEq] at h1
    obtain ⟨rfl, rfl, rfl⟩ := h1
    exact RdV.takes h2 h3 h4 K K (by omega)
theorem empty_int (w : World) : (w.alloc (.cells #[] 3)).ownsRow w.heap.size 3 1 (.slice (some ⟨w.heap.size, 0, none⟩) 0 0) 0 [] := World.ownsRow_made w #[] 0 (Nat.le_refl _) (by simp [maxLen]) rfl
theorem int_oneCell (l : List Int) : ∀ u ∈ l.map (Value.int .i64), u.oneCell' = true := by
  intro u hu
  obtain ⟨c, _, rfl⟩ := List.mem_map.1 hu
  rfl

set_option maxRecDepth 100000 in
set_option maxHeartbeats 1000000 in
theorem spansOf_walk (u : Value) (zs : List Int) (w : World) (hu : RdV w u (zs.map (Value.int .i64))) (hf : ∀ n ∈ zs, (Lit.int .i64 n).wf = true) :
    Calls Try.prog 3 #[u] w fun e w' => e = .returned (.bool true) ∧ Below w.heap.size w w' := by
  obtain ⟨i0, hi, hz0, hz1, hz2⟩ := info_parts Try.info_int7
  have HU := Lib.hid hu
  obtain ⟨ao, cap, rfl, h1, h2, -⟩ := RdV.cellsAt hu
  rw [List.length_map] at h1 HU ⊢
  unfold maxLen at h2
  obtain ⟨K, hK, hKa, hKb⟩ : ∃ K : Nat, (if (1000 : Int) < (zs.length : Int) then 1000 else (zs.length : Int)) = (K : Int) ∧ K ≤ zs.length ∧ K ≤ 1000 := ⟨min zs.length 1000, by split <;> omega, by omega, by omega⟩
  have HX := Lib.hid (show RdV w (.slice ao K cap) ((zs.take K).map (Value.int .i64)) by rw [List.map_take]; exact rdV_head HU.out K hKa)
  have HB := Lib.hid (show ∀ x ∈ zs.take K, -9223372036854775808 ≤ x ∧ x ≤ 9223372036854775807 from fun x hx => bounds_i64 (hf x (List.mem_of_mem_take hx)))
  have HL := Lib.hid (show (zs.take K).length = K by rw [List.length_take]; omega)
  generalize zs.take K = xs at HX HB HL
  have hKc : K ≤ cap := by omega
  generalize zs.length = N at h1 hK hKa ⊢
  clear hu HU hf
  go_enter Try.func3, Try.ntmps3
  go_wp2_with fail
  refine (shown7_any _).mono ?_
  rintro e w1 ⟨rfl, hx1⟩
  have HX1 := Lib.hid hx1
  have HR1 := Lib.hid (HX.out.mono (Ext.trans hx1 (ext_new w1 (.cells #[] 3))))
  have HO1 := Lib.hid (empty_int w1)
  have HOC := Lib.hid (int_oneCell xs)
  have HLM := Lib.hid (show (xs.map (Value.int .i64)).length = K by rw [List.length_map, HL.out])
  clear hx1
  go_wp2_with (at_builtin; go_must (refine wpList_append_rd rfl (.tmp 16) (.tmp 17) 22 rfl w1.heap.size 3 i0 (.int .i64 0) 8 Try.underlying22 hi hz0 hz1 hz2 rfl _ _ _ rfl HO1.out _ _ rfl HR1.out HOC.out (by rw [HLM.out]; unfold maxLen; omega) (by rw [HLM.out]; omega) (by simp) ?_); intro v2 w2 hown2 hgrow2; have HO2 := Lib.hid hown2; have HE2 := Lib.hid (show Ext w1 w2 from (ext_new w1 _).grown hgrow2 (by simp) (fun k hk => by cases hk; exact Nat.le_refl _)); clear hown2 hgrow2)
  have HX2 := Lib.hid (HX.out.mono (Ext.trans HX1.out HE2.out))
  go_wp2_with fail
  refine (pOfSp_any _ xs w2 HX2.out (by rw [HL.out]; omega) HB.out).mono ?_
  rintro e w3 ⟨v3, rfl, ho3, hx3⟩
  have HO3 := Lib.hid ho3
  have HX3 := Lib.hid hx3
  clear ho3 hx3
  go_wp2_with fail
  refine (refOf_any _ xs w3 (HX2.out.mono HX3.out)).mono ?_
  rintro e w4 ⟨v4, rfl, ho4, hx4⟩
  have HO4 := Lib.hid ho4
  have HX4 := Lib.hid hx4
  clear ho4 hx4
  generalize ofS xs = R at HO3 HO4 ⊢
  obtain ⟨r1, r2⟩ := R
  simp only at HO3 HO4 ⊢
  have hrr : (r2 == r2) = true := beq_self_eq_true _
  go_wp2_with fail
  refine (refSame_any _ _ r1 r1 w4 (HO3.out.rd.mono HX4.out) HO4.out.rd).mono ?_
  rintro e w5 ⟨rfl, hx5⟩
  rw [decide_eq_true rfl]
  have HX5 := Lib.hid (Ext.trans HX3.out (Ext.trans HX4.out hx5))
  clear hx5
  go_wp2_with fail
  refine (refInts_any _ _ xs xs w5 (HX2.out.mono HX5.out) ((RdV.of_owns HO2.out).mono HX5.out) (by rw [HL.out]; omega) (by rw [HL.out]; omega)).mono ?_
  rintro e w6 ⟨rfl, hx6⟩
  rw [decide_eq_true rfl]
  have HX6 := Lib.hid (Ext.trans HX1.out (Ext.trans HE2.out (Ext.trans HX5.out hx6)))
  clear hx6
  go_wp2_with fail
  go_ret
  exact ⟨rfl, HX6.out⟩

end Go.Proofs.Ythiijhdgbnpihaa
