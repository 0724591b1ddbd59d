/-
  'shown' (the document's examples) of layer 4.
-/
import Derived.Test.YtedkalmdhbpleaaCellSays
import Derived.Shelf.Abstract
namespace Go.Proofs.Ytedkalmdhbpleaa
open Go.RowKit Go.Shelf

theorem cells_new0 (w : World) (xs : List Value) (t : TypeId) : ∀ j u, xs[j]? = some u → (w.alloc (.cells xs.toArray t)).cell? ⟨w.heap.size, j, none⟩ = some u := by
  intro j u hj
  unfold World.cell?
  rw [heap_alloc_new]
  simpa using hj
theorem cells_kept {w w' : World} {b : Nat} {xs : List Value} (h : ∀ j u, xs[j]? = some u → w.cell? ⟨b, j, none⟩ = some u) (hb : Ext w w') : ∀ j u, xs[j]? = some u → w'.cell? ⟨b, j, none⟩ = some u := fun j u hj => by
  have hc := h j u hj
  rw [← hc]
  exact hb.cell (lt_of_cell hc)
theorem cells_old {w w' : World} {x y z : Value} {t : TypeId} (hb : Ext (w.alloc (.cells #[x, y, z] t)) w') : ∀ j u, [x, y, z][j]? = some u → w'.cell? ⟨w.heap.size, j, none⟩ = some u :=
  cells_kept (cells_new0 w [x, y, z] t) hb

theorem enters_shown : ∀ args w, (callFunc 40 args).run Try.prog w = .ok (.enter 40 args) w := enters_of Try.func40 (by kernel_rfl) rfl

theorem shown1_any (w : World) : Calls Try.prog 40 #[] w fun e w' => (∃ u pv, e = .panicked [{ v := .iface u pv, recovered := false }]) ∧ Ext w w' := by
  go_enter Try.func40, Try.ntmps40
  go_wp2_with fail
  refine (Number_other 9 _ (by decide) _).mono ?_
  rintro e w1 ⟨⟨u, pv, rfl⟩, hb⟩
  have HB := Lib.hid hb
  clear hb
  go_wp2_with fail
  exact ⟨rfl, ⟨u, pv, rfl⟩, HB.out⟩

set_option maxRecDepth 100000 in
set_option maxHeartbeats 1000000 in
theorem shown_any (w : World) : Calls Try.prog 10 #[] w fun e w' => e = .returned (.bool true) ∧ Ext w w' := by
  go_enter Try.func10, Try.ntmps10
  go_wp2_with fail
  refine (Unbox_other 41 _ (by decide) _).mono ?_
  rintro e w1 ⟨rfl, hb⟩
  have hz := cells_old hb
  have HB1 := Lib.hid (show Ext w w1 from Ext.trans ((Below.refl _ w).alloc (Nat.le_refl _) _) hb)
  have HZ := Lib.hid hz
  clear hb hz
  go_wp2_with fail
  refine (Unbox_int 5 _).mono ?_
  rintro e w2 ⟨rfl, hb⟩
  have HX2 := Lib.hid (show Ext w1 w2 from Ext.trans ((Below.refl _ w1).alloc (Nat.le_refl _) _) hb)
  have HB2 := Lib.hid (Ext.trans HB1.out HX2.out)
  have HZ2 := Lib.hid (cells_kept HZ.out HX2.out)
  have hza : ∀ o, Ext w2 (w2.alloc o) := fun o => (Below.refl _ w2).alloc (Nat.le_refl _) _
  have hz0 := fun o => cells_kept HZ2.out (hza o) 0 _ rfl
  have hz1 := fun o => cells_kept HZ2.out (hza o) 1 _ rfl
  have hz2 := fun o => cells_kept HZ2.out (hza o) 2 _ rfl
  clear hb hza
  go_wp2_with fail
  have HX3 := Lib.hid (show Ext w2 (w2.alloc (Obj.cells #[.int .u8 2, .int .i64 5, .string ⟨#[]⟩] 23)) from (Below.refl _ w2).alloc (Nat.le_refl _) _)
  have HV := Lib.hid (show ∀ j u, [Value.int .u8 2, .int .i64 5, .string ⟨#[]⟩][j]? = some u → (w2.alloc (Obj.cells #[.int .u8 2, .int .i64 5, .string ⟨#[]⟩] 23)).cell? ⟨w2.heap.size, j, none⟩ = some u from fun j u hj => cells_new0 w2 _ _ j u hj)
  clear hz0 hz1 hz2
  refine (Compare_any ⟨0, 0, []⟩ ⟨2, 0, []⟩ ⟨by decide, by decide, by decide, by decide⟩ ⟨by decide, by decide, by decide, by decide⟩ (by decide) (by decide) _).mono ?_
  rintro e w3 ⟨rfl, hb⟩
  have HX4 := Lib.hid (Ext.trans HX3.out hb)
  have HV3 := Lib.hid (cells_kept HV.out hb)
  rw [show cmpV ⟨0, 0, []⟩ ⟨2, 0, []⟩ = -1 from by decide]
  clear hb
  go_wp2_with fail
  refine (Equal_any ⟨0, 0, []⟩ ⟨0, 0, []⟩ ⟨by decide, by decide, by decide, by decide⟩ ⟨by decide, by decide, by decide, by decide⟩ (by decide) (by decide) _).mono ?_
  rintro e w4 ⟨rfl, hb⟩
  have HX5 := Lib.hid (Ext.trans HX4.out hb)
  have HV4 := Lib.hid (cells_kept HV3.out hb)
  rw [show equalT ⟨0, 0, []⟩ ⟨0, 0, []⟩ = 1 from by decide]
  clear hb
  go_wp2_with fail
  refine (And_any 0 1 (by decide) (by decide) _).mono ?_
  rintro e w5 ⟨rfl, hb⟩
  have HX6 := Lib.hid (Ext.trans HX5.out hb)
  have HV5 := Lib.hid (cells_kept HV4.out hb)
  rw [show andT 0 1 = 0 from by decide]
  clear hb
  go_wp2_with fail
  refine (Or_any 0 1 (by decide) (by decide) _).mono ?_
  rintro e w6 ⟨rfl, hb⟩
  have HX7 := Lib.hid (Ext.trans HX6.out hb)
  have hv6 := cells_kept HV5.out hb
  have hz0 := hv6 0 _ rfl
  have hz1 := hv6 1 _ rfl
  have hz2 := hv6 2 _ rfl
  rw [show orT 0 1 = 1 from by decide]
  clear hb hv6
  go_wp2_with fail
  refine (panics_yes _ #[] _ enters_shown fun w7 _ => shown1_any w7).mono ?_
  rintro e w7 ⟨rfl, hb⟩
  have HX8 := Lib.hid (Ext.trans HB2.out (Ext.trans HX7.out hb))
  clear hb hz0 hz1 hz2
  go_wp2_with fail
  go_ret
  exact ⟨rfl, HX8.out⟩

end Go.Proofs.Ytedkalmdhbpleaa
