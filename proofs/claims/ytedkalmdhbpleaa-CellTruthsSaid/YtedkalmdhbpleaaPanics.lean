/-
  'panics' of layer 4: what a function's panic is told as.
-/
import Derived.Test.YtedkalmdhbpleaaProg
import Derived.Test.YtedkalmdhbpleaaCan
import Derived.Test.YtedkalmdhbpleaaBase
import Derived.WalkKit
import Derived.Laws.Pointers
import Derived.Defers
import Derived.Recover
namespace Go.Proofs.Ytedkalmdhbpleaa
open Go.RowKit

theorem catch_panicking (p : Addr) (u : TypeId) (pv x : Value) (older : List PanicEntry) (w : World) (hc : w.cell? p = some x) (hz : w.frozen? p = false) :
    CallsD Try.prog 53 #[.pointer (some p)] (.panicking ({ v := .iface u pv, recovered := false } :: older)) w fun e u' w' =>
      e = .returned (.tuple #[]) ∧ u' = .panicking ({ v := .iface u pv, recovered := true } :: older) ∧ w' = w.setCell p (.bool true) := by
  refine callsD_of_wpS Try.func53 rfl fun c₀ cs hu => ?_
  apply wpS_region
  simp [wpOpsS, go_sem, recoverD, hu, hc, hz, Try.ntmps53, bodyPostS, results, Try.results53]

theorem catch_idle (p : Addr) (x : Value) (w : World) (hc : w.cell? p = some x) (hz : w.frozen? p = false) :
    CallsD Try.prog 53 #[.pointer (some p)] .returning w fun e u' w' => e = .returned (.tuple #[]) ∧ u' = .returning ∧ w' = w.setCell p (.bool false) := by
  refine callsD_of_wpS Try.func53 rfl fun c₀ cs hu => ?_
  apply wpS_region
  simp [wpOpsS, go_sem, recoverD, hu, hc, hz, Try.ntmps53, bodyPostS, results, Try.results53]
  cases c₀
  simp_all

theorem bool_block {w w2 : World} {b : Bool} (h : Ext (w.alloc (.cells #[.bool b] 4)) w2) : w2.heap[w.heap.size]? = some (.cells #[.bool b] 4 (0, 0)) := by
  rw [h.block w.heap.size (by simp)]
  exact heap_alloc_new w _

/-- A function that panics. -/
theorem panics_yes (G : Nat) (caps : Array Value) (w : World) (he : ∀ args w, (callFunc G args).run Try.prog w = .ok (.enter G args) w) (hf : ∀ w1, Ext w w1 → Calls Try.prog G caps w1 fun e w' => (∃ u pv, e = .panicked [{ v := .iface u pv, recovered := false }]) ∧ Ext w1 w') :
    Calls Try.prog 27 #[.func (.func G) #[] caps] w fun e w' => e = .returned (.bool true) ∧ Ext w w' := by
  have hmf : ∀ (fn : Fn) (first cap : Array Value) (w : World), (Instr.makeFunc fn first cap).run Try.prog w = .ok (.func fn first cap) w := fun _ _ _ _ => rfl
  have HF := Lib.hid hf
  clear hf
  go_enter_defers Try.func27, Try.ntmps27
  go_wp2_with fail
  have HX := Lib.hid (show Ext w (w.alloc (.cells #[.bool false] 4)) from (Below.refl _ w).alloc (Nat.le_refl _) _)
  refine (HF.out _ HX.out).mono ?_
  rintro e w2 ⟨⟨u, pv, rfl⟩, hb⟩
  have HB := Lib.hid (bool_block hb)
  have HE := Lib.hid (Ext.trans HX.out hb)
  clear hb
  go_wp2_with fail
  refine leaves_cons (f := 53) (args := #[.pointer (some ⟨w.heap.size, 0, none⟩)]) (by simp) (by simp [go_sem]) ?_
  refine (catch_panicking ⟨w.heap.size, 0, none⟩ u pv (.bool false) [] w2 (by simp [World.cell?, HB.out]) (by simp [World.frozen?, HB.out])).mono ?_
  rintro e u' w'' ⟨rfl, rfl, rfl⟩
  have hc : (w2.setCell ⟨w.heap.size, 0, none⟩ (.bool true)).cell? ⟨w.heap.size, 0, none⟩ = some (.bool true) := World.cell?_setCell_same _ _ _ (u := .bool false) (by simp [World.cell?, HB.out])
  refine ⟨.bool true, ?_, rfl, HE.out.setCell (p := ⟨w.heap.size, 0, none⟩) (Nat.le_refl _) _⟩
  simp [results, Try.results27, go_sem, hc]

/-- A function that returns, whatever it leaves (R). -/
theorem panics_no (G : Nat) (caps : Array Value) (w : World) (R : World → Prop) (he : ∀ args w, (callFunc G args).run Try.prog w = .ok (.enter G args) w)
    (hf : Calls Try.prog G caps (w.alloc (.cells #[.bool false] 4)) fun e w' => e = .returned (.tuple #[]) ∧ R w' ∧ w'.heap[w.heap.size]? = some (.cells #[.bool false] 4 (0, 0))) :
    Calls Try.prog 27 #[.func (.func G) #[] caps] w fun e w' => e = .returned (.bool false) ∧ ∃ w2, R w2 ∧ w2.heap[w.heap.size]? = some (.cells #[.bool false] 4 (0, 0)) ∧ w' = (w2.setCell ⟨w.heap.size, 0, none⟩ (.bool false)).setCell ⟨w.heap.size, 0, none⟩ (.bool false) := by
  have hmf : ∀ (fn : Fn) (first cap : Array Value) (w : World), (Instr.makeFunc fn first cap).run Try.prog w = .ok (.func fn first cap) w := fun _ _ _ _ => rfl
  have HF := Lib.hid hf
  clear hf
  go_enter_defers Try.func27, Try.ntmps27
  go_wp2_with fail
  refine HF.out.mono ?_
  rintro e w2 ⟨rfl, hr, hb⟩
  have HR := Lib.hid hr
  have HB := Lib.hid hb
  have hc1 : w2.cell? ⟨w.heap.size, 0, none⟩ = some (.bool false) := by simp [World.cell?, hb]
  have hz1 : w2.frozen? ⟨w.heap.size, 0, none⟩ = false := by simp [World.frozen?, hb]
  clear hr hb
  go_wp2_with fail
  have hc2 : (w2.setCell ⟨w.heap.size, 0, none⟩ (.bool false)).cell? ⟨w.heap.size, 0, none⟩ = some (.bool false) := World.cell?_setCell_same _ _ _ hc1
  have hz2 : (w2.setCell ⟨w.heap.size, 0, none⟩ (.bool false)).frozen? ⟨w.heap.size, 0, none⟩ = false := by simp [go_sem, hz1]
  refine leaves_cons (f := 53) (args := #[.pointer (some ⟨w.heap.size, 0, none⟩)]) (by simp) (by simp [go_sem]) ?_
  refine (catch_idle ⟨w.heap.size, 0, none⟩ (.bool false) _ hc2 hz2).mono ?_
  rintro e u' w'' ⟨rfl, rfl, rfl⟩
  have hc3 : ((w2.setCell ⟨w.heap.size, 0, none⟩ (.bool false)).setCell ⟨w.heap.size, 0, none⟩ (.bool false)).cell? ⟨w.heap.size, 0, none⟩ = some (.bool false) := World.cell?_setCell_same _ _ _ hc2
  refine ⟨.bool false, ?_, rfl, w2, HR.out, HB.out, rfl⟩
  simp [results, Try.results27, go_sem, hc3]

end Go.Proofs.Ytedkalmdhbpleaa
