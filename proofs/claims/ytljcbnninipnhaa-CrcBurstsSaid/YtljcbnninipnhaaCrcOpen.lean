/-
  The contract of the document's own Open.
-/
import Derived.Test.YtljcbnninipnhaaCrcRef
import Derived.BigQuiet
import Derived.Lib.Strings
namespace Go.Proofs.Ytljcbnninipnhaa
open Go.RowKit Go.BigFrame

/-- What is opened. -/
def opens (l : List UInt8) : Bool := decide (4 ≤ l.length) && decide (sumOf l = 0#32)
def opened (l : List UInt8) : List UInt8 := if opens l = true then l.take (l.length - 4) else []
/-- A call that opens. -/
def Opened (w : World) (l : List UInt8) (e : Ending) (w' : World) : Prop := ∃ u, e = .returned (.tuple #[u, .int .i64 (if opens l = true then 0 else 6)]) ∧ Rd w' u (opened l) ∧ Ext w w'

theorem opened_no {w w' : World} {l : List UInt8} (h : opens l = false) (hb : Ext w w') : Opened w l (.returned (.tuple #[.slice none 0 0, .int .i64 6])) w' := by
  refine ⟨.slice none 0 0, ?_, ?_, hb⟩
  · rw [h]; rfl
  · unfold opened; rw [h]; exact Rd.nil _
theorem opened_yes {w w' : World} {l : List UInt8} {u : Value} (h : opens l = true) (hr : Rd w' u (l.take (l.length - 4))) (hb : Ext w w') : Opened w l (.returned (.tuple #[u, .int .i64 0])) w' := by
  refine ⟨u, ?_, ?_, hb⟩
  · rw [h]; rfl
  · unfold opened; rw [h]; exact hr

set_option maxRecDepth 100000 in
set_option maxHeartbeats 1000000 in
theorem refOpen_short (a : Option Addr) (L cap : Nat) (l : List UInt8) (w : World) (hL : L = l.length) (h4 : L < 4) :
    Calls Try.prog 16 #[.slice a L cap] w (Opened w l) := by
  have ho : opens l = false := by unfold opens; rw [decide_eq_false (by omega)]; rfl
  have HO := Lib.hid ho
  have hd : decide ((L : Int) < 4) = true := decide_eq_true (by omega)
  clear ho hL
  go_enter Try.func16, Try.ntmps16
  go_wp2_with fail
  refine wp_region_segs Ext Ext.keeps [([0, 1, 2, 3, 4, 5, 6, 7, 8, 11, 12], some 9), ([10, 13, 14], none)] (by kernel_rfl) (by kernel_rfl) (fun c a a' w e h => (by exact ⟨e ▸ h.1, h.2⟩)) ?_
  simp only [pickSegs, pickOps, List.map_cons, List.map_nil, Option.map_some, Option.map_none, Option.getD_some, List.getElem?_toArray, List.getElem?_cons_zero, List.getElem?_cons_succ]
  refine wpSegs_some fun K hK => ?_
  repeat go_big_quiet_step (fail)
  refine wpQuiet_nil ?_
  go_wp2_with fail
  refine ⟨Below.refl _ _, hK _ _ ?_⟩
  clear hK K
  refine wpSegs_none ?_
  repeat go_big_quiet_step (fail)
  refine wpQuiet_nil ?_
  refine wpSegs_nil ?_
  go_wp2_with fail
  go_ret2
  exact opened_no HO.out (Ext.drew _)

set_option maxRecDepth 100000 in
set_option maxHeartbeats 1000000 in
theorem refOpen_long (x : Addr) (L cap : Nat) (l : List UInt8) (w : World) (hL : L = l.length) (h4 : 4 ≤ L) (_hc : L ≤ cap) (_hm : cap ≤ 9223372036854775807) (hl : l.length + 4 ≤ 140737488355328) (hr : Rd w (.slice (some x) L cap) l) :
    Calls Try.prog 16 #[.slice (some x) L cap] w (Opened w l) := by
  have HL := Lib.hid hL
  have htk : ∀ W, Rd W (.slice (some x) L cap) l → Rd W (.slice (some x) (L - 4) cap) (l.take (l.length - 4)) := fun W h => by
    rcases h with ⟨h0, _⟩ | ⟨x', cap', h0, h5, h6, h7⟩
    · cases h0
    · simp only [Value.slice.injEq, Option.some.injEq] at h0
      obtain ⟨rfl, _, rfl⟩ := h0
      have := RdV.takes h5 h6 h7 (L - 4) (L - 4) (by rw [List.length_map]; omega)
      rw [← List.map_take, hL] at this
      rw [hL]
      exact this
  have HTK := Lib.hid htk
  have HR := Lib.hid hr
  have hd : decide ((L : Int) < 4) = false := decide_eq_false (by omega)
  clear htk hr hL
  go_enter Try.func16, Try.ntmps16
  go_wp2_with fail
  have hcv : ∀ z : Later Ext w.drew, (convert 23 9 (.slice (some x) L cap)).run Try.prog z.val = .ok (.string ⟨l.toArray⟩) z.val := fun z => (Rd.mono (Rd.mono HR.out (Ext.drew _)) z.ext).string _ _ _ Try.underlying23 Try.underlying5 Try.underlying9
  refine wp_region_segs Ext Ext.keeps [([0, 1, 2, 3, 4, 5, 6, 7, 8, 11, 12], some 9), ([10, 13, 14], none)] (by kernel_rfl) (by kernel_rfl) (fun c a a' w e h => (by exact ⟨e ▸ h.1, h.2⟩)) ?_
  simp only [pickSegs, pickOps, List.map_cons, List.map_nil, Option.map_some, Option.map_none, Option.getD_some, List.getElem?_toArray, List.getElem?_cons_zero, List.getElem?_cons_succ]
  refine wpSegs_some fun K hK => ?_
  repeat go_big_quiet_step (fail)
  refine wpQuiet_nil ?_
  clear hcv
  go_wp2_with fail
  refine (refSeal_any _ (l.take (l.length - 4)) _ (HTK.out _ (Rd.mono HR.out (Ext.drew _))) (by rw [List.length_take]; omega)).mono ?_
  rintro e w5 ⟨v5, rfl, hown5, hb5⟩
  go_wp2_with fail
  refine ⟨hb5, hK _ _ ?_⟩
  clear hK K
  have H5 := Lib.hid (Ext.trans (Ext.drew _) hb5)
  have R5 := Lib.hid (show Rd w5 v5 (sealed (l.take (l.length - 4))) from RdV.of_owns hown5)
  have hcv : ∀ z : Later Ext w5, (convert 23 9 v5).run Try.prog z.val = .ok (.string ⟨(sealed (l.take (l.length - 4))).toArray⟩) z.val := fun z => (Rd.mono R5.out z.ext).string _ _ _ Try.underlying23 Try.underlying5 Try.underlying9
  clear hb5 hown5
  have HOZ := Lib.hid (opens_zero l (by have := HL.out; omega))
  by_cases he : sealed (l.take (l.length - 4)) = l
  · have ho : opens l = true := by unfold opens; rw [decide_eq_true (by have := HL.out; omega), decide_eq_true (HOZ.out.1 he)]; rfl
    have HOP := Lib.hid ho
    have hbeq : (sealed (l.take (l.length - 4)) == l) = true := by rw [he]; exact beq_self_eq_true _
    clear ho he
    refine wpSegs_none ?_
    repeat go_big_quiet_step (fail)
    refine wpQuiet_nil ?_
    refine wpSegs_nil ?_
    clear hcv
    go_wp2_with fail
    go_ret2
    exact opened_yes HOP.out (HTK.out _ (HR.out.mono H5.out)) H5.out
  · have ho : opens l = false := by unfold opens; rw [decide_eq_false (fun h => he (HOZ.out.2 h)), Bool.and_false]
    have HOP := Lib.hid ho
    have hbeq : (sealed (l.take (l.length - 4)) == l) = false := beq_eq_false_iff_ne.2 he
    clear ho he
    refine wpSegs_none ?_
    repeat go_big_quiet_step (fail)
    refine wpQuiet_nil ?_
    refine wpSegs_nil ?_
    clear hcv
    go_wp2_with fail
    go_ret2
    exact opened_no HOP.out H5.out

theorem refOpen_any (v : Value) (l : List UInt8) (w : World) (hr : Rd w v l) (hl : l.length + 4 ≤ 140737488355328) :
    Calls Try.prog 16 #[v] w (Opened w l) := by
  obtain ⟨a, cap, rfl, h1, h2, ca⟩ := RdV.cellsAt hr
  rw [List.length_map] at h1 hr ⊢
  unfold maxLen at h2
  by_cases h4 : l.length < 4
  · exact refOpen_short a _ cap l w rfl h4
  · cases a with
    | none =>
      obtain ⟨x, hx, _⟩ := ca 0 (bv (l[0]'(by omega))) (by rw [List.getElem?_map, List.getElem?_eq_getElem (by omega)]; rfl)
      cases hx
    | some x => exact refOpen_long x _ cap l w rfl (by omega) h1 (by omega) hl hr

end Go.Proofs.Ytljcbnninipnhaa
