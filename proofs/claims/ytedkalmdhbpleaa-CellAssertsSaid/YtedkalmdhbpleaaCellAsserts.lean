/-
  The walk of the law CellAsserts.
-/
import Derived.Test.YtedkalmdhbpleaaCellShown
import Derived.Test.YtedkalmdhbpleaaCellRefE
namespace Go.Proofs.Ytedkalmdhbpleaa
open Go.RowKit Go.Shelf

theorem enters_1 : ∀ args w, (callFunc 28 args).run Try.prog w = .ok (.enter 28 args) w := enters_of Try.func28 (by kernel_rfl) rfl
theorem enters_2 : ∀ args w, (callFunc 30 args).run Try.prog w = .ok (.enter 30 args) w := enters_of Try.func30 (by kernel_rfl) rfl
theorem enters_3 : ∀ args w, (callFunc 32 args).run Try.prog w = .ok (.enter 32 args) w := enters_of Try.func32 (by kernel_rfl) rfl
theorem enters_4 : ∀ args w, (callFunc 33 args).run Try.prog w = .ok (.enter 33 args) w := enters_of Try.func33 (by kernel_rfl) rfl
theorem enters_5 : ∀ args w, (callFunc 34 args).run Try.prog w = .ok (.enter 34 args) w := enters_of Try.func34 (by kernel_rfl) rfl
theorem enters_6 : ∀ args w, (callFunc 35 args).run Try.prog w = .ok (.enter 35 args) w := enters_of Try.func35 (by kernel_rfl) rfl

/-- Something that is neither a number nor a text. -/
def Bad (x : Value) : Prop := x = .nilIface ∨ ∃ T u, x = .iface T u ∧ T ≠ 3 ∧ T ≠ 9

theorem number_bad (x : Value) (hx : Bad x) (w : World) : Calls Try.prog 29 #[x] w fun e w' => (∃ u pv, e = .panicked [{ v := .iface u pv, recovered := false }]) ∧ Ext w w' := by
  rcases hx with rfl | ⟨T, u, rfl, h1, _⟩
  · exact Number_nil w
  · exact Number_other T u h1 w
theorem word_bad (x : Value) (hx : Bad x) (w : World) : Calls Try.prog 31 #[x] w fun e w' => (∃ u pv, e = .panicked [{ v := .iface u pv, recovered := false }]) ∧ Ext w w' := by
  rcases hx with rfl | ⟨T, u, rfl, _, h2⟩
  · exact Word_nil w
  · exact Word_other T u h2 w

theorem asserts3 (x : Value) (hx : Bad x) (p : Addr) (w : World) (hc : w.cell? p = some x) :
    Calls Try.prog 32 #[.pointer (some p)] w fun e w' => (∃ u pv, e = .panicked [{ v := .iface u pv, recovered := false }]) ∧ Ext w w' := by
  go_enter Try.func32, Try.ntmps32
  go_wp2_with fail
  refine (number_bad x hx _).mono ?_
  rintro e w1 ⟨⟨u, pv, rfl⟩, hb⟩
  have HB := Lib.hid hb
  clear hb
  go_wp2_with fail
  exact ⟨rfl, ⟨u, pv, rfl⟩, HB.out⟩
theorem asserts4 (x : Value) (hx : Bad x) (p : Addr) (w : World) (hc : w.cell? p = some x) :
    Calls Try.prog 33 #[.pointer (some p)] w fun e w' => (∃ u pv, e = .panicked [{ v := .iface u pv, recovered := false }]) ∧ Ext w w' := by
  go_enter Try.func33, Try.ntmps33
  go_wp2_with fail
  refine (word_bad x hx _).mono ?_
  rintro e w1 ⟨⟨u, pv, rfl⟩, hb⟩
  have HB := Lib.hid hb
  clear hb
  go_wp2_with fail
  exact ⟨rfl, ⟨u, pv, rfl⟩, HB.out⟩
theorem asserts5 (b : Nat) (s : ByteArray) (w : World) (hc : w.cell? ⟨b, 2, none⟩ = some (.string s)) :
    Calls Try.prog 34 #[.pointer (some ⟨b, 0, none⟩)] w fun e w' => (∃ u pv, e = .panicked [{ v := .iface u pv, recovered := false }]) ∧ Ext w w' := by
  go_enter Try.func34, Try.ntmps34
  go_wp2_with fail
  refine (Number_other 9 _ (by decide) _).mono ?_
  rintro e w1 ⟨⟨u, pv, rfl⟩, hb⟩
  have HB := Lib.hid hb
  clear hb
  go_wp2_with fail
  exact ⟨rfl, ⟨u, pv, rfl⟩, HB.out⟩
theorem asserts6 (b : Nat) (n : Int) (w : World) (hc : w.cell? ⟨b, 1, none⟩ = some (.int .i64 n)) :
    Calls Try.prog 35 #[.pointer (some ⟨b, 0, none⟩)] w fun e w' => (∃ u pv, e = .panicked [{ v := .iface u pv, recovered := false }]) ∧ Ext w w' := by
  go_enter Try.func35, Try.ntmps35
  go_wp2_with fail
  refine (Word_other 3 _ (by decide) _).mono ?_
  rintro e w1 ⟨⟨u, pv, rfl⟩, hb⟩
  have HB := Lib.hid hb
  clear hb
  go_wp2_with fail
  exact ⟨rfl, ⟨u, pv, rfl⟩, HB.out⟩

theorem asserts1 (b bn : Nat) (n m : Int) (w : World) (hc : w.cell? ⟨b, 1, none⟩ = some (.int .i64 n)) (hn : w.heap[bn]? = some (.cells #[.int .i64 m] 3 (0, 0))) :
    Calls Try.prog 28 #[.pointer (some ⟨b, 0, none⟩), .pointer (some ⟨bn, 0, none⟩)] w fun e w' => e = .returned (.tuple #[]) ∧ ∃ w1, Ext w w1 ∧ w' = w1.setCell ⟨bn, 0, none⟩ (.int .i64 n) := by
  have HN := Lib.hid hn
  clear hn
  go_enter Try.func28, Try.ntmps28
  go_wp2_with fail
  refine (Number_int n _).mono ?_
  rintro e w1 ⟨rfl, hb⟩
  have HB := Lib.hid hb
  have h1 : w1.heap[bn]? = some (.cells #[.int .i64 m] 3 (0, 0)) := by
    rw [hb.block bn (Array.getElem?_eq_some_iff.1 HN.out).1]
    exact HN.out
  have hc1 : w1.cell? ⟨bn, 0, none⟩ = some (.int .i64 m) := by simp [World.cell?, h1]
  have hz1 : w1.frozen? ⟨bn, 0, none⟩ = false := by simp [World.frozen?, h1]
  clear hb h1
  go_wp2_with fail
  go_end0
  exact ⟨rfl, w1, HB.out, rfl⟩
theorem asserts2 (b bn : Nat) (n m : ByteArray) (w : World) (hc : w.cell? ⟨b, 2, none⟩ = some (.string n)) (hn : w.heap[bn]? = some (.cells #[.string m] 9 (0, 0))) :
    Calls Try.prog 30 #[.pointer (some ⟨b, 0, none⟩), .pointer (some ⟨bn, 0, none⟩)] w fun e w' => e = .returned (.tuple #[]) ∧ ∃ w1, Ext w w1 ∧ w' = w1.setCell ⟨bn, 0, none⟩ (.string n) := by
  have HN := Lib.hid hn
  clear hn
  go_enter Try.func30, Try.ntmps30
  go_wp2_with fail
  refine (Word_text n _).mono ?_
  rintro e w1 ⟨rfl, hb⟩
  have HB := Lib.hid hb
  have h1 : w1.heap[bn]? = some (.cells #[.string m] 9 (0, 0)) := by
    rw [hb.block bn (Array.getElem?_eq_some_iff.1 HN.out).1]
    exact HN.out
  have hc1 : w1.cell? ⟨bn, 0, none⟩ = some (.string m) := by simp [World.cell?, h1]
  have hz1 : w1.frozen? ⟨bn, 0, none⟩ = false := by simp [World.frozen?, h1]
  clear hb h1
  go_wp2_with fail
  go_end0
  exact ⟨rfl, w1, HB.out, rfl⟩

end Go.Proofs.Ytedkalmdhbpleaa
