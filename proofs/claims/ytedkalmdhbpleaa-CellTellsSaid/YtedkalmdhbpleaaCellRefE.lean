/-
  The contracts of the document's own Equal and Less.
-/
import Derived.Test.YtedkalmdhbpleaaCellEq
namespace Go.Proofs.Ytedkalmdhbpleaa
open Go.RowKit Go.BigFrame

theorem new_cell (w : World) (xs : List Value) (t : TypeId) : ∀ j u, xs[j]? = some u → (w.alloc (.cells xs.toArray t)).cell? ⟨w.heap.size, j, none⟩ = some u := by
  intro j u hj
  unfold World.cell?
  rw [heap_alloc_new]
  simpa using hj
theorem kept_cell {w w' : World} {b : Nat} {xs : List Value} (h : ∀ j u, xs[j]? = some u → w.cell? ⟨b, j, none⟩ = some u) (hb : Ext w w') : ∀ j u, xs[j]? = some u → w'.cell? ⟨b, j, none⟩ = some u := fun j u hj => by
  have hc := h j u hj
  rw [← hc]
  exact hb.cell (lt_of_cell hc)
theorem cells_two0 (w : World) (xs ys : List Value) (t : TypeId) : ∀ j u, xs[j]? = some u → ((w.alloc (.cells xs.toArray t)).alloc (.cells ys.toArray t)).cell? ⟨w.heap.size, j, none⟩ = some u :=
  kept_cell (new_cell w xs t) (ext_one _ _)
theorem cells_two1 (w : World) (xs ys : List Value) (t : TypeId) : ∀ j u, ys[j]? = some u → ((w.alloc (.cells xs.toArray t)).alloc (.cells ys.toArray t)).cell? ⟨w.heap.size + 1, j, none⟩ = some u := by
  have h := new_cell (w.alloc (.cells xs.toArray t)) ys t
  have e : (w.alloc (.cells xs.toArray t)).heap.size = w.heap.size + 1 := by simp
  rw [e] at h
  exact h
/-- What is there stays, in whatever later world of a statement. -/
theorem later_cell {w : World} {b : Nat} {xs : List Value} (h : ∀ j u, xs[j]? = some u → w.cell? ⟨b, j, none⟩ = some u) (j : Nat) (u : Value) (hj : xs[j]? = some u) : ∀ z : Later Ext w.drew, z.val.cell? ⟨b, j, none⟩ = some u :=
  fun z => kept_cell h (Ext.trans (Ext.drew w) z.ext) j u hj

theorem now_cell {w : World} {b : Nat} {xs : List Value} (h : ∀ j u, xs[j]? = some u → w.cell? ⟨b, j, none⟩ = some u) (j : Nat) (u : Value) (hj : xs[j]? = some u) : ∀ z : Later Ext w, z.val.cell? ⟨b, j, none⟩ = some u :=
  fun z => kept_cell h z.ext j u hj

theorem refKnown_any (a b : V) (is : Bool) (w : World) :
    Calls Try.prog 48 #[a.val, b.val, .bool is] w fun e w' => e = .returned (.int .u8 (knownT a b is)) ∧ Ext w w' := by
  obtain ⟨k, n, s⟩ := a
  obtain ⟨k', n', s'⟩ := b
  unfold knownT V.val
  simp only
  by_cases h : k = 0
  · subst h
    rw [if_pos (.inl rfl)]
    go_enter Try.func48, Try.ntmps48
    go_wp2_with fail
    go_ret
    exact ⟨rfl, ext_two w _ _⟩
  · have q : (k == 0) = false := beq_eq_false_iff_ne.2 h
    by_cases h' : k' = 0
    · subst h'
      rw [if_pos (.inr rfl)]
      clear h
      go_enter Try.func48, Try.ntmps48
      go_wp2_with fail
      go_ret
      exact ⟨rfl, ext_two w _ _⟩
    · have q' : (k' == 0) = false := beq_eq_false_iff_ne.2 h'
      rw [if_neg (by rintro (e | e) <;> contradiction)]
      clear h h'
      cases is with
      | true =>
        rw [if_pos rfl]
        go_enter Try.func48, Try.ntmps48
        go_wp2_with fail
        go_ret
        exact ⟨rfl, ext_two w _ _⟩
      | false =>
        rw [if_neg (by decide)]
        go_enter Try.func48, Try.ntmps48
        go_wp2_with fail
        go_ret
        exact ⟨rfl, ext_two w _ _⟩

theorem equalT_eq (a b : V) : equalT a b = knownT a b (decide (a = b)) := by
  unfold equalT
  rw [decide_eq_decide.2 cmpV_zero]

set_option maxRecDepth 100000 in
theorem refEqual_any (a b : V) (w : World) :
    Calls Try.prog 16 #[a.val, b.val] w fun e w' => e = .returned (.int .u8 (equalT a b)) ∧ Ext w w' := by
  rw [equalT_eq]
  have hEQ := fun w => eq_val a b w
  have HK := Lib.hid (fun w => refKnown_any a b (decide (a = b)) w)
  generalize decide (a = b) = B at HK hEQ ⊢
  generalize knownT a b B = T at HK ⊢
  obtain ⟨k, n, s⟩ := a
  obtain ⟨k', n', s'⟩ := b
  unfold V.val at HK hEQ ⊢
  simp only at HK hEQ ⊢
  go_enter Try.func16, Try.ntmps16
  go_wp2_with fail
  have HX := Lib.hid (ext_two w (.cells #[.int .u8 k, .int .i64 n, .string ⟨s.toArray⟩] 23) (.cells #[.int .u8 k', .int .i64 n', .string ⟨s'.toArray⟩] 23))
  have ha := cells_two0 w [.int .u8 k, .int .i64 n, .string ⟨s.toArray⟩] [.int .u8 k', .int .i64 n', .string ⟨s'.toArray⟩] 23
  have hb := cells_two1 w [.int .u8 k, .int .i64 n, .string ⟨s.toArray⟩] [.int .u8 k', .int .i64 n', .string ⟨s'.toArray⟩] 23
  generalize (w.alloc (.cells #[.int .u8 k, .int .i64 n, .string ⟨s.toArray⟩] 23)).alloc (.cells #[.int .u8 k', .int .i64 n', .string ⟨s'.toArray⟩] 23) = W at ha hb HX ⊢
  have ha0 := later_cell ha 0 _ rfl
  have ha1 := later_cell ha 1 _ rfl
  have ha2 := later_cell ha 2 _ rfl
  have hb0 := later_cell hb 0 _ rfl
  have hb1 := later_cell hb 1 _ rfl
  have hb2 := later_cell hb 2 _ rfl
  clear ha hb
  refine wp_region_segs Ext Ext.keeps [([0, 1, 2, 3, 4], some 5), ([6], none)] (by kernel_rfl) (by kernel_rfl) (fun c a a' w e h => (by exact ⟨e ▸ h.1, h.2⟩)) ?_
  simp only [pickSegs, pickOps, List.map_cons, List.map_nil, Option.map_some, Option.map_none, Option.getD_some, List.getElem?_toArray, List.getElem?_cons_zero, List.getElem?_cons_succ]
  refine wpSegs_some fun K hK => ?_
  repeat go_big_quiet_step (fail)
  refine wpQuiet_nil ?_
  clear ha0 ha1 ha2 hb0 hb1 hb2
  go_wp2_with fail
  refine (HK.out _).mono ?_
  rintro e w2 ⟨rfl, hb2⟩
  have HB2 := Lib.hid hb2
  clear hb2
  go_wp2_with fail
  refine ⟨HB2.out, hK _ _ ?_⟩
  clear hK K
  refine wpSegs_none ?_
  repeat go_big_quiet_step (fail)
  refine wpQuiet_nil (wpSegs_nil ?_)
  go_wp2_with fail
  go_ret
  exact ⟨rfl, Ext.trans HX.out (Ext.trans (Ext.drew _) HB2.out)⟩

set_option maxRecDepth 100000 in
theorem refLess_any (a b : V) (ha : a.fits) (hb : b.fits) (w : World) :
    Calls Try.prog 18 #[a.val, b.val] w fun e w' => e = .returned (.int .u8 (lessT a b)) ∧ Ext w w' := by
  unfold lessT
  have HC := Lib.hid (fun w => refCompare_any a b ha hb w)
  obtain ⟨B, hB⟩ : ∃ B, decide (cmpV a b < 0) = B := ⟨_, rfl⟩
  have HK := Lib.hid (fun w => refKnown_any a b B w)
  rw [hB]
  generalize cmpV a b = C at HC hB
  generalize knownT a b B = T at HK ⊢
  clear ha hb
  obtain ⟨k, n, s⟩ := a
  obtain ⟨k', n', s'⟩ := b
  unfold V.val at HK HC ⊢
  simp only at HK HC ⊢
  go_enter Try.func18, Try.ntmps18
  go_wp2_with fail
  have HX := Lib.hid (ext_two w (.cells #[.int .u8 k, .int .i64 n, .string ⟨s.toArray⟩] 23) (.cells #[.int .u8 k', .int .i64 n', .string ⟨s'.toArray⟩] 23))
  have ha := cells_two0 w [.int .u8 k, .int .i64 n, .string ⟨s.toArray⟩] [.int .u8 k', .int .i64 n', .string ⟨s'.toArray⟩] 23
  have hb := cells_two1 w [.int .u8 k, .int .i64 n, .string ⟨s.toArray⟩] [.int .u8 k', .int .i64 n', .string ⟨s'.toArray⟩] 23
  generalize (w.alloc (.cells #[.int .u8 k, .int .i64 n, .string ⟨s.toArray⟩] 23)).alloc (.cells #[.int .u8 k', .int .i64 n', .string ⟨s'.toArray⟩] 23) = W at ha hb HX ⊢
  have ha0 := later_cell ha 0 _ rfl
  have ha1 := later_cell ha 1 _ rfl
  have ha2 := later_cell ha 2 _ rfl
  have hb0 := later_cell hb 0 _ rfl
  have hb1 := later_cell hb 1 _ rfl
  have hb2 := later_cell hb 2 _ rfl
  clear ha hb
  refine wp_region_segs Ext Ext.keeps [([0, 1, 2, 3], some 4), ([5], some 6), ([7], none)] (by kernel_rfl) (by kernel_rfl) (fun c a a' w e h => (by exact ⟨e ▸ h.1, h.2⟩)) ?_
  simp only [pickSegs, pickOps, List.map_cons, List.map_nil, Option.map_some, Option.map_none, Option.getD_some, List.getElem?_toArray, List.getElem?_cons_zero, List.getElem?_cons_succ]
  refine wpSegs_some fun K hK => ?_
  repeat go_big_quiet_step (fail)
  refine wpQuiet_nil ?_
  clear ha0 ha1 ha2 hb0 hb1 hb2
  go_wp2_with fail
  refine (HC.out _).mono ?_
  rintro e w2 ⟨rfl, hb2⟩
  have HB2 := Lib.hid hb2
  clear hb2
  go_wp2_with fail
  refine ⟨HB2.out, hK _ _ ?_⟩
  clear hK K
  refine wpSegs_some fun K hK => ?_
  repeat go_big_quiet_step (fail)
  refine wpQuiet_nil ?_
  go_wp2_with fail
  refine (HK.out _).mono ?_
  rintro e w3 ⟨rfl, hb3⟩
  have HB3 := Lib.hid hb3
  clear hb3
  go_wp2_with fail
  refine ⟨HB3.out, hK _ _ ?_⟩
  clear hK K
  refine wpSegs_none ?_
  repeat go_big_quiet_step (fail)
  refine wpQuiet_nil (wpSegs_nil ?_)
  go_wp2_with fail
  go_ret
  exact ⟨rfl, Ext.trans HX.out (Ext.trans (Ext.drew _) (Ext.trans HB2.out HB3.out))⟩

end Go.Proofs.Ytedkalmdhbpleaa
