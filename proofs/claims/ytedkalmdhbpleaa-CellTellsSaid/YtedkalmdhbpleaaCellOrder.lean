/-
  The walk of the law CellOrder.
-/
import Derived.Test.YtedkalmdhbpleaaCellShown
import Derived.Test.YtedkalmdhbpleaaCellRefE
namespace Go.Proofs.Ytedkalmdhbpleaa
open Go.RowKit Go.BigFrame

theorem cells_three (w : World) (xs ys zs : List Value) (t : TypeId) :
    (∀ j u, xs[j]? = some u → (((w.alloc (.cells xs.toArray t)).alloc (.cells ys.toArray t)).alloc (.cells zs.toArray t)).cell? ⟨w.heap.size, j, none⟩ = some u) ∧
    (∀ j u, ys[j]? = some u → (((w.alloc (.cells xs.toArray t)).alloc (.cells ys.toArray t)).alloc (.cells zs.toArray t)).cell? ⟨w.heap.size + 1, j, none⟩ = some u) ∧
    (∀ j u, zs[j]? = some u → (((w.alloc (.cells xs.toArray t)).alloc (.cells ys.toArray t)).alloc (.cells zs.toArray t)).cell? ⟨w.heap.size + 2, j, none⟩ = some u) := by
  refine ⟨kept_cell (cells_two0 w xs ys t) (ext_one _ _), kept_cell (cells_two1 w xs ys t) (ext_one _ _), ?_⟩
  have h := new_cell ((w.alloc (.cells xs.toArray t)).alloc (.cells ys.toArray t)) zs t
  have e : ((w.alloc (.cells xs.toArray t)).alloc (.cells ys.toArray t)).heap.size = w.heap.size + 2 := by simp
  rw [e] at h
  exact h

def V.list (v : V) : List Value := [.int .u8 v.k, .int .i64 v.n, .string ⟨v.s.toArray⟩]

set_option maxRecDepth 100000 in
set_option maxHeartbeats 1000000 in
theorem cellOrder_walk (a b c : V) (w : World) (ha : a.fits) (la : a.s.length ≤ maxLen) (hb : b.fits) (lb : b.s.length ≤ maxLen) (hc : c.fits) (lc : c.s.length ≤ maxLen) :
    Calls Try.prog 5 #[a.val, b.val, c.val] w fun e w' => e = .returned (.bool true) ∧ Below w.heap.size w w' := by
  unfold maxLen at la lb lc
  by_cases hlong : a.s.length ≤ 3000 ∧ b.s.length ≤ 3000 ∧ c.s.length ≤ 3000
  · obtain ⟨l1, l2, l3⟩ := hlong
    have HAB := Lib.hid (fun w => Compare_any a b ha hb (by omega) (by omega) w)
    have HBC := Lib.hid (fun w => Compare_any b c hb hc (by omega) (by omega) w)
    have HAC := Lib.hid (fun w => Compare_any a c ha hc (by omega) (by omega) w)
    have HBA := Lib.hid (fun w => Compare_any b a hb ha (by omega) (by omega) w)
    have hneg := cmpV_neg a b
    have hlaw := cmpV_law a b c
    have h3 := cmpV_three a b
    have h4 := cmpV_three b c
    have h5 := cmpV_three a c
    have hEQ := fun w => eq_val a b w
    have HZ := Lib.hid (show (cmpV a b == 0) = decide (a = b) by rw [← decide_eq_decide.2 (cmpV_zero (a := a) (b := b))]; rfl)
    generalize decide (a = b) = B at hEQ HZ
    generalize cmpV a b = x at *
    generalize cmpV b c = y at *
    generalize cmpV a c = z at *
    generalize cmpV b a = x' at *
    clear ha hb hc la lb lc
    have HCASES := Lib.hid (show (x = 1) ∨ (x = -1 ∧ y = 1) ∨ (x = 0 ∧ y = 1) ∨ (x = 0 ∧ y = 0 ∧ z ≤ 0) ∨ (x = -1 ∧ y = -1 ∧ z = -1) ∨ (x = -1 ∧ y = 0 ∧ z = -1) ∨ (x = 0 ∧ y = -1 ∧ z = -1) by omega)
    subst hneg
    clear hlaw h3 h4 h5
    obtain ⟨k, n, s⟩ := a
    obtain ⟨k', n', s'⟩ := b
    obtain ⟨k'', n'', s''⟩ := c
    unfold V.val at HAB HBC HAC HBA hEQ ⊢
    simp only at HAB HBC HAC HBA hEQ l1 l2 l3 ⊢
    go_enter Try.func5, Try.ntmps5
    go_wp2_with fail
    have hcells := cells_three w [.int .u8 k, .int .i64 n, .string ⟨s.toArray⟩] [.int .u8 k', .int .i64 n', .string ⟨s'.toArray⟩] [.int .u8 k'', .int .i64 n'', .string ⟨s''.toArray⟩] 23
    have HX := Lib.hid (Ext.trans (ext_two w (.cells #[.int .u8 k, .int .i64 n, .string ⟨s.toArray⟩] 23) (.cells #[.int .u8 k', .int .i64 n', .string ⟨s'.toArray⟩] 23)) (ext_one _ (.cells #[.int .u8 k'', .int .i64 n'', .string ⟨s''.toArray⟩] 23)))
    refine (shown_any _).mono ?_
    rintro e w1 ⟨rfl, hb⟩
    have HA1 := Lib.hid (kept_cell hcells.1 hb)
    have HB1 := Lib.hid (kept_cell hcells.2.1 hb)
    have HC1 := Lib.hid (kept_cell hcells.2.2 hb)
    have HE1 := Lib.hid (Ext.trans HX.out hb)
    have ha2 := HA1.out 2 _ rfl
    have hb2 := HB1.out 2 _ rfl
    have hc2 := HC1.out 2 _ rfl
    clear hb hcells
    go_wp2_with fail
    clear ha2 hb2 hc2
    have ha0 := later_cell HA1.out 0 _ rfl
    have ha1 := later_cell HA1.out 1 _ rfl
    have ha2 := later_cell HA1.out 2 _ rfl
    have hb0 := later_cell HB1.out 0 _ rfl
    have hb1 := later_cell HB1.out 1 _ rfl
    have hb2 := later_cell HB1.out 2 _ rfl
    have hc0 := later_cell HC1.out 0 _ rfl
    have hc1 := later_cell HC1.out 1 _ rfl
    have hc2 := later_cell HC1.out 2 _ rfl
    refine wp_region_segs Ext Ext.keeps [([0, 1, 3, 4, 6, 7], some 2), ([], some 5), ([], some 8), ([9, 10, 11], none)] (by kernel_rfl) (by kernel_rfl) (fun c a a' w e h => (by exact ⟨e ▸ h.1, h.2⟩)) ?_
    simp only [pickSegs, pickOps, List.map_cons, List.map_nil, Option.map_some, Option.map_none, Option.getD_some, List.getElem?_toArray, List.getElem?_cons_zero, List.getElem?_cons_succ]
    refine wpSegs_some fun K hK => ?_
    repeat go_big_quiet_step (fail)
    refine wpQuiet_nil ?_
    clear ha0 ha1 ha2 hb0 hb1 hb2 hc0 hc1 hc2
    go_wp2_with fail
    refine (HAB.out _).mono ?_
    rintro e w2 ⟨rfl, hb⟩
    have E2 := Lib.hid hb
    clear hb
    go_wp2_with fail
    refine ⟨E2.out, hK _ _ ?_⟩
    clear hK K
    refine wpSegs_some fun K hK => ?_
    refine wpQuiet_nil ?_
    go_wp2_with fail
    refine (HBC.out _).mono ?_
    rintro e w3 ⟨rfl, hb⟩
    have E3 := Lib.hid hb
    clear hb
    go_wp2_with fail
    refine ⟨E3.out, hK _ _ ?_⟩
    clear hK K
    refine wpSegs_some fun K hK => ?_
    refine wpQuiet_nil ?_
    go_wp2_with fail
    refine (HAC.out _).mono ?_
    rintro e w4 ⟨rfl, hb⟩
    have E4 := Lib.hid hb
    have EA := Lib.hid (Ext.trans (Ext.drew w1) (Ext.trans E2.out (Ext.trans E3.out hb)))
    clear hb
    go_wp2_with fail
    refine ⟨E4.out, hK _ _ ?_⟩
    clear hK K
    refine wpSegs_none ?_
    repeat go_big_quiet_step (fail)
    refine wpQuiet_nil (wpSegs_nil ?_)
    have ha0 := kept_cell HA1.out EA.out 0 _ rfl
    have ha1 := kept_cell HA1.out EA.out 1 _ rfl
    have ha2 := kept_cell HA1.out EA.out 2 _ rfl
    have hb0 := kept_cell HB1.out EA.out 0 _ rfl
    have hb1 := kept_cell HB1.out EA.out 1 _ rfl
    have hb2 := kept_cell HB1.out EA.out 2 _ rfl
    go_wp2_with fail
    refine (HBA.out _).mono ?_
    rintro e w5 ⟨rfl, hb⟩
    clear ha0 ha1 ha2 hb0 hb1 hb2
    have EB := Lib.hid (Ext.trans EA.out hb)
    have ha0 := kept_cell HA1.out EB.out 0 _ rfl
    have ha1 := kept_cell HA1.out EB.out 1 _ rfl
    have ha2 := kept_cell HA1.out EB.out 2 _ rfl
    have hb0 := kept_cell HB1.out EB.out 0 _ rfl
    have hb1 := kept_cell HB1.out EB.out 1 _ rfl
    have hb2 := kept_cell HB1.out EB.out 2 _ rfl
    have HEND := Lib.hid (Ext.trans HE1.out EB.out)
    clear hb
    have HZ' := HZ.out
    rcases HCASES.out with rfl | ⟨rfl, rfl⟩ | ⟨rfl, rfl⟩ | ⟨rfl, rfl, hz⟩ | ⟨rfl, rfl, rfl⟩ | ⟨rfl, rfl, rfl⟩ | ⟨rfl, rfl, rfl⟩
    all_goals
      simp only [show ((1:Int) == 0) = false from rfl, show ((-1:Int) == 0) = false from rfl, show ((0:Int) == 0) = true from rfl] at HZ'
      subst HZ'
      go_wp2_with fail
      go_ret
      exact ⟨rfl, HEND.out⟩
  · obtain ⟨k, n, s⟩ := a
    obtain ⟨k', n', s'⟩ := b
    obtain ⟨k'', n'', s''⟩ := c
    unfold V.val
    simp only at la lb lc hlong ⊢
    clear ha hb hc
    go_enter Try.func5, Try.ntmps5
    go_wp2_with fail
    have hcells := cells_three w [.int .u8 k, .int .i64 n, .string ⟨s.toArray⟩] [.int .u8 k', .int .i64 n', .string ⟨s'.toArray⟩] [.int .u8 k'', .int .i64 n'', .string ⟨s''.toArray⟩] 23
    have HX := Lib.hid (Ext.trans (ext_two w (.cells #[.int .u8 k, .int .i64 n, .string ⟨s.toArray⟩] 23) (.cells #[.int .u8 k', .int .i64 n', .string ⟨s'.toArray⟩] 23)) (ext_one _ (.cells #[.int .u8 k'', .int .i64 n'', .string ⟨s''.toArray⟩] 23)))
    refine (shown_any _).mono ?_
    rintro e w1 ⟨rfl, hb⟩
    have HE1 := Lib.hid (Ext.trans HX.out hb)
    have ha2 := kept_cell hcells.1 hb 2 _ rfl
    have hb2 := kept_cell hcells.2.1 hb 2 _ rfl
    have hc2 := kept_cell hcells.2.2 hb 2 _ rfl
    clear hb hcells
    by_cases l1 : 3000 < s.length
    · clear hlong
      go_wp2_with fail
      go_ret
      exact ⟨rfl, HE1.out⟩
    · by_cases l2 : 3000 < s'.length
      · clear hlong
        go_wp2_with fail
        go_ret
        exact ⟨rfl, HE1.out⟩
      · have l3 : 3000 < s''.length := by omega
        clear hlong
        go_wp2_with fail
        go_ret
        exact ⟨rfl, HE1.out⟩

end Go.Proofs.Ytedkalmdhbpleaa
