/-
  The program's own steps: Step, Rises.
-/
import Derived.Test.YtepbdlmpknegiaaAnswers
import Derived.Test.YtepbdlmpknegiaaHead
import Derived.Test.YtepbdlmpknegiaaDeltaPure
namespace Go.Proofs.Ytepbdlmpknegiaa
open Go.RowKit Go.BigFrame

theorem pStep11_any (a b : Int) (w : World) (ha : -9223372036854775808 ≤ a ∧ a ≤ 9223372036854775807) (hb : -9223372036854775808 ≤ b ∧ b ≤ 9223372036854775807) :
    Calls Try.prog 9 #[.int .i64 a, .int .i64 b] w fun e w' => e = .returned (.tuple #[.int .i64 (stepS a b).1, .int .i64 (stepS a b).2]) ∧ Ext w w' := by
  by_cases h : okStep a b
  · rw [stepS_ok h]
    have h1 := h.1
    have h2 := h.2
    clear h
    by_cases hlt : b < a
    · have d1 : decide (b < a) = true := decide_eq_true hlt
      have d2 : decide (b - a < 0) = true := decide_eq_true (by omega)
      go_enter Try.func9, Try.ntmps9
      go_wp2_with fail
      go_ret2
      exact ⟨rfl, Ext.keeps.refl _⟩
    · have d1 : decide (b < a) = false := decide_eq_false hlt
      have d2 : decide (b - a < 0) = false := decide_eq_false (by omega)
      go_enter Try.func9, Try.ntmps9
      go_wp2_with fail
      go_ret2
      exact ⟨rfl, Ext.keeps.refl _⟩
  · rw [stepS_no h]
    unfold okStep at h
    by_cases hlt : b < a
    · have d1 : decide (b < a) = true := decide_eq_true hlt
      have d2 : decide (wrap64 (b - a) < 0) = false := decide_eq_false (by unfold wrap64; omega)
      clear h hlt
      go_enter Try.func9, Try.ntmps9
      go_wp2_with fail
      go_ret2
      exact ⟨rfl, Ext.keeps.refl _⟩
    · have d1 : decide (b < a) = false := decide_eq_false hlt
      have d2 : decide (wrap64 (b - a) < 0) = true := decide_eq_true (by unfold wrap64; omega)
      clear h hlt
      go_enter Try.func9, Try.ntmps9
      go_wp2_with fail
      go_ret2
      exact ⟨rfl, Ext.keeps.refl _⟩

theorem isNaN11_any (x : Int) (w : World) :
    Calls Try.prog 46 #[.int .i64 x] w fun e w' => e = .returned (.bool false) ∧ w = w' := by
  go_enter Try.func46, Try.ntmps46
  go_wp2_with fail
  go_ret
  exact ⟨by simp, rfl⟩
theorem less11_any (x y : Int) (w : World) :
    Calls Try.prog 36 #[.int .i64 x, .int .i64 y] w fun e w' => e = .returned (.bool (decide (x < y))) ∧ w = w' := by
  have HN := Lib.hid (isNaN11_any x w)
  cases hd : decide (x < y) with
  | true =>
    go_enter Try.func36, Try.ntmps36
    go_wp2_with fail
    refine HN.out.mono ?_
    rintro e w1 ⟨rfl, rfl⟩
    go_wp2_with fail
    go_ret
    exact ⟨rfl, rfl⟩
  | false =>
    go_enter Try.func36, Try.ntmps36
    go_wp2_with fail
    refine HN.out.mono ?_
    rintro e w1 ⟨rfl, rfl⟩
    go_wp2_with fail
    go_ret
    exact ⟨rfl, rfl⟩

set_option maxRecDepth 100000 in
set_option maxHeartbeats 1000000 in
theorem isSorted11_any (u : Value) (l : List Int) (w : World) (hu : RdV w u (l.map (Value.int .i64))) :
    Calls Try.prog 24 #[u] w fun e w' => e = .returned (.bool (risesS l)) ∧ Ext w w' := by
  obtain ⟨ao, cap, rfl, -, -, -⟩ := RdV.cellsAt hu
  rw [List.length_map] at hu ⊢
  obtain ⟨-, h1, h2, hat⟩ := RdV.plain hu
  have HAT := Lib.hid hat
  obtain ⟨N, hN⟩ : ∃ N, l.length = N := ⟨_, rfl⟩
  have HN := Lib.hid hN
  unfold maxLen at h2
  rw [hN] at h1 ⊢
  clear hat hN hu
  go_enter Try.func24, Try.ntmps24
  go_wp2_with fail
  go_loopw [3] (fun i wr => ∃ j : Int, -1 ≤ j ∧ j < N ∧ i = .int .i64 j ∧ (∀ k, (h : k + 1 < l.length) → j < (k : Int) + 1 → l[k] ≤ l[k + 1]) ∧ Ext w wr) (fun i _ => (intOf i).toNat)
  case atStart => exact ⟨(N : Int) - 1, by omega, by omega, by go_num, fun k hk h => by have := HN.out; omega, Ext.keeps.refl _⟩
  case round =>
    obtain ⟨j, hj1, hj, rfl, hr, hx⟩ := hrel
    have HR := Lib.hid hr
    have HX := Lib.hid hx
    clear hr hx
    by_cases hlt : 0 < j
    · obtain ⟨J, rfl⟩ : ∃ J : Nat, j = (J : Int) + 1 := ⟨(j - 1).toNat, by omega⟩
      have hj0 : J < l.length := by have := HN.out; omega
      have hjl : J + 1 < l.length := by have := HN.out; omega
      obtain ⟨g, off, rfl, hcx⟩ := HAT.out (J + 1) hjl
      obtain ⟨g', off', he, hcy⟩ := HAT.out J hj0
      simp only [Option.some.injEq, Addr.mk.injEq, and_true] at he
      obtain ⟨rfl, rfl⟩ := he
      have hzx : ∀ z : Later Ext wr.drew, z.val.cell? ⟨g, off + (J + 1), none⟩ = some (.int .i64 l[J + 1]) := fun z => ((Ext.trans HX.out (Ext.trans (Ext.drew wr) z.ext)).cell (lt_of_cell hcx)).trans hcx
      have hzy : ∀ z : Later Ext wr.drew, z.val.cell? ⟨g, off + J, none⟩ = some (.int .i64 l[J]) := fun z => ((Ext.trans HX.out (Ext.trans (Ext.drew wr) z.ext)).cell (lt_of_cell hcy)).trans hcy
      have HA := Lib.hid (fun (h : l[J] ≤ l[J + 1]) => (show ∀ k, (h : k + 1 < l.length) → (J : Int) < (k : Int) + 1 → l[k] ≤ l[k + 1] from fun k h1 h2 => by
        by_cases e : k = J
        · subst e; exact h
        · exact HR.out k h1 (by omega)))
      have HB := Lib.hid (fun (h : ¬ l[J] ≤ l[J + 1]) => (show risesS l = false from risesS_no (fun hh => h (hh J hjl))))
      generalize l[J + 1] = p at hzx HA HB
      generalize l[J] = q at hzy HA HB
      have HL := Lib.hid (fun (W : World) => less11_any p q W)
      clear hcx hcy
      go_wp2_with fail
      refine wp_region_segs Ext Ext.keeps [([0, 1, 2, 3, 4, 5, 6, 7, 8], some 9)] (by kernel_rfl) (by kernel_rfl) (fun c a a' w e h => (by exact ⟨e ▸ h.1, h.2⟩)) ?_
      simp only [pickSegs, pickOps, List.map_cons, List.map_nil, Option.map_some, Option.getD_some, List.getElem?_toArray, List.getElem?_cons_zero, List.getElem?_cons_succ]
      refine wpSegs_some fun K' hK' => ?_
      repeat go_big_quiet_step (fail)
      refine wpQuiet_nil ?_
      clear hzx hzy
      have HXD := Lib.hid (Ext.trans HX.out (Ext.drew wr))
      generalize wr.drew = wd at HXD ⊢
      by_cases hpq : p < q
      · have HNO := Lib.hid (HB.out (by omega))
        have d1 : decide (p < q) = true := decide_eq_true hpq
        go_wp2_with fail
        refine (HL.out wd).mono ?_
        rintro e w3 ⟨rfl, rfl⟩
        go_wp2_with fail
        refine ⟨Ext.keeps.refl _, hK' _ _ ?_⟩
        clear hK' K'
        refine wpSegs_nil ?_
        go_wp2_with fail
        go_ret
        exact ⟨by rw [HNO.out]; rfl, HXD.out⟩
      · have HYES := Lib.hid (HA.out (by omega))
        have d1 : decide (p < q) = false := decide_eq_false hpq
        go_wp2_with fail
        refine (HL.out wd).mono ?_
        rintro e w3 ⟨rfl, rfl⟩
        go_wp2_with fail
        refine ⟨Ext.keeps.refl _, hK' _ _ ?_⟩
        clear hK' K'
        refine wpSegs_nil ?_
        go_wp2_with fail
        go_roundw
        case rel => exact ⟨(J : Int), by omega, by omega, by go_num, HYES.out, HXD.out⟩
        case measure => simp [intOf]
    · have HOK := Lib.hid (show risesS l = true from (risesS_iff l).2 (fun k h => HR.out k h (by omega)))
      go_wp2_with fail
      go_ret
      exact ⟨by rw [HOK.out]; rfl, HX.out⟩

theorem pRises11_any (u : Value) (l : List Int) (w : World) (hu : RdV w u (l.map (Value.int .i64))) (_hl : l.length ≤ 100000) (_hf : fitsI l) :
    Calls Try.prog 15 #[u] w fun e w' => e = .returned (.bool (risesS l)) ∧ Ext w w' := by
  obtain ⟨ao, cap, rfl, -, -, -⟩ := RdV.cellsAt hu
  have HS := Lib.hid (isSorted11_any _ l w hu)
  clear hu _hl
  generalize (l.map (Value.int .i64)).length = N at HS ⊢
  go_enter Try.func15, Try.ntmps15
  go_wp2_with fail
  refine HS.out.mono ?_
  rintro e w1 ⟨rfl, hx⟩
  have HX := Lib.hid hx
  clear hx
  go_wp2_with fail
  go_ret
  exact ⟨rfl, HX.out⟩

end Go.Proofs.Ytepbdlmpknegiaa
