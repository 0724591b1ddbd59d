/-
  Texts of this proof, merged: RefReadP, ReadP, RefTk, ReadTk, RefText, CellRefTake, CellRefTaken.
-/
import Derived.Outline
import Derived.RegionTactic
import Derived.ChangeAlike
import Derived.Test.YtoagpaphghgkmaaZ13
import Derived.Test.YtoagpaphghgkmaaZ10
import Derived.Test.YtoagpaphghgkmaaZ2
import Derived.Test.YtoagpaphghgkmaaZ8
/-
  The contracts of the document's own reader, whose bytes lie where P holds.
-/
namespace Go.Proofs.Ytoagpaphghgkmaa
open Go.RowKit Go.BigFrame

/-- The block b is a reader (a struct of type T: bytes to come, and whether it is bad) whose bytes to come are l (in a block of which P holds). -/
def RdrP (T : TypeId) (P : Nat → Prop) (w : World) (b : Nat) (l : List UInt8) (bad : Bool) : Prop :=
  ∃ v, w.heap[b]? = some (.cells #[v, .bool bad] T (0, 0)) ∧ Rd w v l ∧ ∀ k, v.ownBlock = some k → P k
/-- What is left behind some bytes. -/
theorem RdrP.step {T : TypeId} {P : Nat → Prop} {b s cap L : Nat} {w : World} {x : Addr} {l : List UInt8} {bad : Bool} (hb : w.heap[b]? = some (.cells #[.slice (some x) L cap, .bool bad] T (0, 0))) (hL : L = l.length) (h2 : l.length ≤ cap) (h3 : cap ≤ maxLen)
    (h4 : ∀ i u, (l.map bv)[i]? = some u → w.cell? (x.add i) = some u) (hB : P x.block) (hs : s ≤ l.length) (a' : Addr) (ha : a'.block = x.block) (ha' : s < l.length → ∀ i, a'.add i = x.add (s + i)) :
    RdrP T P (w.setCell ⟨b, 0, none⟩ (.slice (some a') (L - s) (cap - s))) b (l.drop s) bad ∧ Only b w (w.setCell ⟨b, 0, none⟩ (.slice (some a') (L - s) (cap - s))) := by
  have ho : Only b w (w.setCell ⟨b, 0, none⟩ (.slice (some a') (L - s) (cap - s))) := ⟨rfl, rfl, rfl, by simp [World.setCell], fun k _ hk => by
    have hne : k ≠ b := fun e => hk (by rw [e])
    rw [Below.heap_setCell _ _ _ _ hne]⟩
  refine ⟨⟨.slice (some a') (L - s) (cap - s), ?_, Rd.apart hb (fun n hn => by cases hn) (.inr ⟨a', cap - s, by rw [List.length_map, List.length_drop, hL], by rw [List.length_map, List.length_drop]; omega, by omega, fun i u hu => ?_⟩) ho, fun k hk => ?_⟩, ho⟩
  · simp [World.setCell, Array.getElem?_modify, hb]
  · have hi : i < (l.drop s).length := by
      have := (List.getElem?_eq_some_iff.1 hu).1
      simpa using this
    rw [List.length_drop] at hi
    rw [ha' (by omega)]
    refine h4 (s + i) u ?_
    rw [List.map_drop, List.getElem?_drop] at hu
    exact hu
  · cases hk; rw [ha]; exact hB

/-- A reader goes on as it is where its own memory is as it was. -/
theorem RdrP.mono {T : TypeId} {P : Nat → Prop} {b : Nat} {w w' : World} {l : List UInt8} {bad : Bool} (h : RdrP T P w b l bad) (hb : Below w.heap.size w w') : RdrP T P w' b l bad := by
  obtain ⟨v, h1, h2, h3⟩ := h
  exact ⟨v, (hb.block b (Array.getElem?_eq_some_iff.1 h1).1).trans h1, h2.mono hb, h3⟩

theorem refSpoiltP {T : TypeId} (P : Nat → Prop) {w : World} {b : Nat} {v : Value} {bad : Bool} (hb : w.heap[b]? = some (.cells #[v, .bool bad] T (0, 0))) :
    RdrP T P ((w.setCell ⟨b, 1, none⟩ (.bool true)).setCell ⟨b, 0, none⟩ (.slice none 0 0)) b [] true ∧ Only b w ((w.setCell ⟨b, 1, none⟩ (.bool true)).setCell ⟨b, 0, none⟩ (.slice none 0 0)) := by
  refine ⟨⟨.slice none 0 0, ?_, Rd.nil _, fun k hk => by cases hk⟩, ⟨rfl, rfl, rfl, by simp [World.setCell], fun k _ hk => ?_⟩⟩
  · simp [World.setCell, Array.getElem?_modify, hb]
  · have hne : k ≠ b := fun e => hk (by rw [e])
    rw [Below.heap_setCell _ _ _ _ hne, Below.heap_setCell _ _ _ _ hne]

end Go.Proofs.Ytoagpaphghgkmaa

/-
  The contracts of the program's own reader, whose bytes lie where P holds.
-/
namespace Go.Proofs.Ytoagpaphghgkmaa
open Go.RowKit Go.BigFrame

abbrev RdO (P : Nat → Prop) (w : World) (b : Nat) (l : List UInt8) (bad : Bool) : Prop := RdrP 147 P w b l bad

theorem Bad_anyP (P : Nat → Prop) (b : Nat) (l : List UInt8) (bad : Bool) (w : World) (h : RdO P w b l bad) :
    Calls Try.prog 93 #[.pointer (some ⟨b, 0, none⟩)] w fun e w' => e = .returned (.bool bad) ∧ w = w' := by
  obtain ⟨v, hb, hr⟩ := h
  have h1 := Rdr.cell1 hb
  clear hb hr
  go_enter Try.func93, Try.ntmps93
  go_wp2
  go_ret
  exact ⟨rfl, rfl⟩
/-- What spoil leaves. -/
theorem RdO.spoilt {T : TypeId} (P : Nat → Prop) {w : World} {b : Nat} {v : Value} {bad : Bool} (hb : w.heap[b]? = some (.cells #[v, .bool bad] T (0, 0))) :
    RdrP T P ((w.setCell ⟨b, 0, none⟩ (.slice none 0 0)).setCell ⟨b, 1, none⟩ (.bool true)) b [] true ∧ Only b w ((w.setCell ⟨b, 0, none⟩ (.slice none 0 0)).setCell ⟨b, 1, none⟩ (.bool true)) := by
  refine ⟨⟨.slice none 0 0, ?_, Rd.nil _, fun k hk => by cases hk⟩, ⟨rfl, rfl, rfl, by simp [World.setCell], fun k _ hk => ?_⟩⟩
  · have hlt : b < w.heap.size := (Array.getElem?_eq_some_iff.1 hb).1
    simp [World.setCell, Array.getElem?_modify, hb]
  · have hne : k ≠ b := fun e => hk (by rw [e])
    rw [Below.heap_setCell _ _ _ _ hne, Below.heap_setCell _ _ _ _ hne]
theorem spoil_anyP (P : Nat → Prop) (b : Nat) (v : Value) (bad : Bool) (w : World) (hb : w.heap[b]? = some (.cells #[v, .bool bad] 147 (0, 0))) :
    Calls Try.prog 107 #[.pointer (some ⟨b, 0, none⟩)] w fun e w' => e = .returned (.tuple #[]) ∧ RdO P w' b [] true ∧ Only b w w' := by
  have hS := RdO.spoilt P hb
  have h0 := Rdr.cell0 hb
  have h1 := Rdr.cell1 hb
  have f0 := Rdr.free hb 0
  have f1 := Rdr.free hb 1
  have HS := Lib.hid hS
  clear hb hS
  go_enter Try.func107, Try.ntmps107
  go_wp2
  go_end0
  exact ⟨rfl, HS.out⟩
/-- A bad reader gives 0. -/
theorem RNum_badP (P : Nat → Prop) (b : Nat) (l : List UInt8) (w : World) (h : RdO P w b l true) :
    Calls Try.prog 92 #[.pointer (some ⟨b, 0, none⟩)] w fun e w' => e = .returned (.int .u64 0) ∧ w = w' := by
  go_enter Try.func92, Try.ntmps92
  go_wp2_with fail
  refine (Bad_anyP P b l true _ h).mono ?_
  rintro e w1 ⟨rfl, rfl⟩
  go_wp2_with fail
  go_ret
  exact ⟨rfl, rfl⟩
/-- No number stands there: the reader turns bad. -/
theorem RNum_noP (P : Nat → Prop) (b : Nat) (l : List UInt8) (w : World) (h : RdO P w b l false) (hf : (front l).2 = 0) :
    Calls Try.prog 92 #[.pointer (some ⟨b, 0, none⟩)] w fun e w' => e = .returned (.int .u64 0) ∧ RdO P w' b [] true ∧ Only b w w' := by
  have hz := front_zero hf
  obtain ⟨v, hb, hr, hB⟩ := id h
  have h0 := Rdr.cell0 hb
  have hfst := first_any v l
  rw [hz] at hfst
  have HF := Lib.hid hfst
  have HB := Lib.hid hb
  have HR := Lib.hid hr
  have HH := Lib.hid h
  clear hfst hb hr hB h hz hf
  go_enter Try.func92, Try.ntmps92
  go_wp2_with fail
  refine (Bad_anyP P b l false _ HH.out).mono ?_
  rintro e w1 ⟨rfl, rfl⟩
  go_wp2_with fail
  refine (HF.out _ HR.out).mono ?_
  rintro e w1 ⟨rfl, rfl⟩
  go_wp2_with fail
  refine (spoil_anyP P b v false _ HB.out).mono ?_
  rintro e w1 ⟨rfl, hs⟩
  have HS := Lib.hid hs
  clear hs
  go_wp2_with fail
  go_ret
  exact ⟨rfl, HS.out⟩
set_option maxHeartbeats 400000 in
/-- A number stands there: it is taken. -/
theorem RNum_yesP (P : Nat → Prop) (b : Nat) (l : List UInt8) (n s : Nat) (w : World) (h : RdO P w b l false) (hf : front l = (n, s)) (hs : s ≠ 0) :
    Calls Try.prog 92 #[.pointer (some ⟨b, 0, none⟩)] w fun e w' => e = .returned (.int .u64 n) ∧ RdO P w' b (l.drop s) false ∧ Only b w w' := by
  obtain ⟨v, hb, hr, hB⟩ := id h
  have hle := front_le hf
  have hfst := first_any v l
  rw [hf] at hfst
  rcases id hr with ⟨rfl, h1⟩ | ⟨x, cap, rfl, h2, h3, h4⟩
  · have : l = [] := by simpa using h1
    subst this
    simp [front] at hf
    omega
  · rw [List.length_map] at h2 hb hr hfst
    obtain ⟨c, t, rfl⟩ : ∃ c t, l = c :: t := by
      cases l with
      | nil => simp [front] at hf; omega
      | cons c t => exact ⟨c, t, rfl⟩
    have hc0 := h4 0 (bv c) (by simp)
    rw [add_zero] at hc0
    obtain ⟨bb, off, rfl, _⟩ := plain_of hc0
    obtain ⟨L, hL⟩ : ∃ L, L = (c :: t).length := ⟨_, rfl⟩
    rw [← hL] at h2 hb hr hfst hle
    have hBb : P bb := hB bb rfl
    have hstep := fun a' ha ha' => RdrP.step (s := s) hb hL (by omega) h3 h4 hBb (by omega) a' ha ha'
    have h0 := Rdr.cell0 hb
    have f0 := Rdr.free hb 0
    unfold maxLen at h3
    have HF := Lib.hid hfst
    have HR := Lib.hid hr
    have HH := Lib.hid h
    have HS := Lib.hid hstep
    have HL := Lib.hid hL
    have hs0 : ((s : Int) == 0) = false := by rw [beq_eq_false_iff_ne]; omega
    clear hfst hb hr hB h hf hc0 hstep h4 hL
    go_enter Try.func92, Try.ntmps92
    go_wp2_with fail
    refine (Bad_anyP P b (c :: t) false _ HH.out).mono ?_
    rintro e w1 ⟨rfl, rfl⟩
    go_wp2_with fail
    refine (HF.out _ HR.out).mono ?_
    rintro e w1 ⟨rfl, rfl⟩
    by_cases hcs : cap = s
    · subst hcs
      have HS' := Lib.hid (HS.out ⟨bb, off, none⟩ rfl (fun hh => absurd hh (by rw [← HL.out]; omega)))
      rw [Nat.sub_self, show L - cap = 0 by omega] at HS'
      go_wp2
      go_ret
      exact ⟨rfl, HS'.out⟩
    · go_wp2
      go_ret
      exact ⟨rfl, HS.out ⟨bb, off + s, none⟩ rfl (fun _ i => add_add bb off s i)⟩
theorem RInt_badP (P : Nat → Prop) (b : Nat) (l : List UInt8) (w : World) (h : RdO P w b l true) :
    Calls Try.prog 109 #[.pointer (some ⟨b, 0, none⟩)] w fun e w' => e = .returned (.int .i64 0) ∧ w = w' := by
  go_enter Try.func109, Try.ntmps109
  go_wp2_with fail
  refine (RNum_badP P b l _ h).mono ?_
  rintro e w1 ⟨rfl, rfl⟩
  go_wp2_with fail
  refine (unfold_any 0 _ (by omega)).mono ?_
  rintro e w1 ⟨rfl, rfl⟩
  go_wp2_with fail
  go_ret
  exact ⟨rfl, rfl⟩
theorem RInt_noP (P : Nat → Prop) (b : Nat) (l : List UInt8) (w : World) (h : RdO P w b l false) (hf : (front l).2 = 0) :
    Calls Try.prog 109 #[.pointer (some ⟨b, 0, none⟩)] w fun e w' => e = .returned (.int .i64 0) ∧ RdO P w' b [] true ∧ Only b w w' := by
  go_enter Try.func109, Try.ntmps109
  go_wp2_with fail
  refine (RNum_noP P b l _ h hf).mono ?_
  rintro e w1 ⟨rfl, hs⟩
  have HS := Lib.hid hs
  clear hs
  go_wp2_with fail
  refine (unfold_any 0 _ (by omega)).mono ?_
  rintro e w1 ⟨rfl, rfl⟩
  go_wp2_with fail
  go_ret
  exact ⟨rfl, HS.out⟩
theorem RInt_yesP (P : Nat → Prop) (b : Nat) (l : List UInt8) (n s : Nat) (w : World) (h : RdO P w b l false) (hf : front l = (n, s)) (hs : s ≠ 0) :
    Calls Try.prog 109 #[.pointer (some ⟨b, 0, none⟩)] w fun e w' => e = .returned (.int .i64 (zag n)) ∧ RdO P w' b (l.drop s) false ∧ Only b w w' := by
  have hn := (front_sound l n s hf hs).1
  go_enter Try.func109, Try.ntmps109
  go_wp2_with fail
  refine (RNum_yesP P b l n s _ h hf hs).mono ?_
  rintro e w1 ⟨rfl, hs⟩
  have HS := Lib.hid hs
  clear hs
  go_wp2_with fail
  refine (unfold_any n _ (by omega)).mono ?_
  rintro e w1 ⟨rfl, rfl⟩
  go_wp2_with fail
  go_ret
  exact ⟨rfl, HS.out⟩
theorem Left_badP (P : Nat → Prop) (b : Nat) (l : List UInt8) (w : World) (h : RdO P w b l true) :
    Calls Try.prog 94 #[.pointer (some ⟨b, 0, none⟩)] w fun e w' => e = .returned (.int .i64 0) ∧ w = w' := by
  go_enter Try.func94, Try.ntmps94
  go_wp2_with fail
  refine (Bad_anyP P b l true _ h).mono ?_
  rintro e w1 ⟨rfl, rfl⟩
  go_wp2_with fail
  go_ret
  exact ⟨rfl, rfl⟩
theorem Left_anyP (P : Nat → Prop) (b : Nat) (l : List UInt8) (w : World) (h : RdO P w b l false) :
    Calls Try.prog 94 #[.pointer (some ⟨b, 0, none⟩)] w fun e w' => e = .returned (.int .i64 l.length) ∧ w = w' := by
  obtain ⟨v, hb, hr, _⟩ := id h
  obtain ⟨a, cap, rfl, _, _⟩ := hr.shape
  have h0 := Rdr.cell0 hb
  clear hb hr
  go_enter Try.func94, Try.ntmps94
  go_wp2_with fail
  refine (Bad_anyP P b l false _ h).mono ?_
  rintro e w1 ⟨rfl, rfl⟩
  go_wp2_with fail
  go_ret
  exact ⟨rfl, rfl⟩
theorem RText_badP (P : Nat → Prop) (b : Nat) (l : List UInt8) (w : World) (h : RdO P w b l true) :
    Calls Try.prog 110 #[.pointer (some ⟨b, 0, none⟩)] w fun e w' => e = .returned (.string ⟨#[]⟩) ∧ w = w' := by
  go_enter Try.func110, Try.ntmps110
  go_wp2_with fail
  refine (RNum_badP P b l _ h).mono ?_
  rintro e w1 ⟨rfl, rfl⟩
  go_wp2_with fail
  refine (Bad_anyP P b l true _ h).mono ?_
  rintro e w1 ⟨rfl, rfl⟩
  go_wp2_with fail
  go_ret
  exact ⟨rfl, rfl⟩
theorem RText_noP (P : Nat → Prop) (b : Nat) (l : List UInt8) (w : World) (h : RdO P w b l false) (hf : (front l).2 = 0) :
    Calls Try.prog 110 #[.pointer (some ⟨b, 0, none⟩)] w fun e w' => e = .returned (.string ⟨#[]⟩) ∧ RdO P w' b [] true ∧ Only b w w' := by
  go_enter Try.func110, Try.ntmps110
  go_wp2_with fail
  refine (RNum_noP P b l _ h hf).mono ?_
  rintro e w1 ⟨rfl, hr, ho⟩
  have HR := Lib.hid hr
  have HO := Lib.hid ho
  clear hr ho
  go_wp2_with fail
  refine (Bad_anyP P b [] true _ HR.out).mono ?_
  rintro e w1 ⟨rfl, rfl⟩
  go_wp2_with fail
  go_ret
  exact ⟨rfl, HR.out, HO.out⟩
set_option maxRecDepth 100000 in
set_option maxHeartbeats 400000 in
/-- A length that is too great. -/
theorem RText_longP (P : Nat → Prop) (b : Nat) (l l1 : List UInt8) (n s : Nat) (w : World) (h : RdO P w b l false) (hf : front l = (n, s)) (hs : s ≠ 0) (hl1 : l1 = l.drop s) (hn : 1024 < n ∨ l1.length < n) :
    Calls Try.prog 110 #[.pointer (some ⟨b, 0, none⟩)] w fun e w' => e = .returned (.string ⟨#[]⟩) ∧ RdO P w' b [] true ∧ Only b w w' := by
  have hn64 := (front_sound l n s hf hs).1
  have hnum := RNum_yesP P b l n s w h hf hs
  rw [← hl1] at hnum
  have HNUM := Lib.hid hnum
  clear hnum hf hl1 h
  go_enter Try.func110, Try.ntmps110
  go_wp2_with fail
  refine HNUM.out.mono ?_
  rintro e w1 ⟨rfl, hr, ho⟩
  have HR := Lib.hid hr
  have HO := Lib.hid ho
  obtain ⟨v1, hb1, hr1, _⟩ := hr
  obtain ⟨a, cap, rfl, hcap, hmax⟩ := hr1.shape
  have h0 := Rdr.cell0 hb1
  have HB := Lib.hid hb1
  clear hr1 ho hb1
  unfold maxLen at hmax
  by_cases hbig : 1024 < n
  · have hd : decide ((1024 : Int) < n) = true := decide_eq_true (by omega)
    go_wp2_with fail
    refine (Bad_anyP P b l1 false _ HR.out).mono ?_
    rintro e w2 ⟨rfl, rfl⟩
    go_wp2_with fail
    refine (spoil_anyP P b _ false _ HB.out).mono ?_
    rintro e w2 ⟨rfl, hr2, ho2⟩
    have HR2 := Lib.hid hr2
    have HO2 := Lib.hid ho2
    clear hr2 ho2
    go_wp2_with fail
    go_ret
    exact ⟨rfl, HR2.out, HO.out.trans HO2.out⟩
  · have hd : decide ((1024 : Int) < n) = false := decide_eq_false (by omega)
    have hln : l1.length < n := by omega
    have hd2 : decide (l1.length < n) = true := decide_eq_true hln
    go_wp2_with fail
    refine (Bad_anyP P b l1 false _ HR.out).mono ?_
    rintro e w2 ⟨rfl, rfl⟩
    go_wp2_with fail
    refine (spoil_anyP P b _ false _ HB.out).mono ?_
    rintro e w2 ⟨rfl, hr2, ho2⟩
    have HR2 := Lib.hid hr2
    have HO2 := Lib.hid ho2
    clear hr2 ho2
    go_wp2_with fail
    go_ret
    exact ⟨rfl, HR2.out, HO.out.trans HO2.out⟩
theorem RdO.emptied {T : TypeId} (P : Nat → Prop) {w : World} {b : Nat} {v : Value} {bad : Bool} (hb : w.heap[b]? = some (.cells #[v, .bool bad] T (0, 0))) :
    RdrP T P (w.setCell ⟨b, 0, none⟩ (.slice none 0 0)) b [] bad ∧ Only b w (w.setCell ⟨b, 0, none⟩ (.slice none 0 0)) := by
  refine ⟨⟨.slice none 0 0, ?_, Rd.nil _, fun k hk => by cases hk⟩, ⟨rfl, rfl, rfl, by simp [World.setCell], fun k _ hk => ?_⟩⟩
  · simp [World.setCell, Array.getElem?_modify, hb]
  · have hne : k ≠ b := fun e => hk (by rw [e])
    rw [Below.heap_setCell _ _ _ _ hne]
set_option maxRecDepth 100000 in
set_option maxHeartbeats 400000 in
/-- A text stands there. -/
theorem RText_yesP (P : Nat → Prop) (b : Nat) (l l1 : List UInt8) (n s : Nat) (w : World) (h : RdO P w b l false) (hf : front l = (n, s)) (hs : s ≠ 0) (hl1 : l1 = l.drop s) (hn : n ≤ 1024) (hn2 : n ≤ l1.length) :
    Calls Try.prog 110 #[.pointer (some ⟨b, 0, none⟩)] w fun e w' => e = .returned (.string ⟨(l1.take n).toArray⟩) ∧ RdO P w' b (l1.drop n) false ∧ Only b w w' := by
  have hnum := RNum_yesP P b l n s w h hf hs
  rw [← hl1] at hnum
  have HNUM := Lib.hid hnum
  clear hnum hf hl1 h
  have hd : decide ((1024 : Int) < n) = false := decide_eq_false (by omega)
  have hd2 : decide (l1.length < n) = false := decide_eq_false (by omega)
  go_enter Try.func110, Try.ntmps110
  go_wp2_with fail
  refine HNUM.out.mono ?_
  rintro e w1 ⟨rfl, hr, ho⟩
  have HR := Lib.hid hr
  have HO := Lib.hid ho
  obtain ⟨v1, hb1, hr1, hB1⟩ := hr
  rcases hr1 with ⟨rfl, h1⟩ | ⟨x, cap, rfl, h2, h3, h4⟩
  · have hl0 : l1 = [] := by simpa using h1
    subst hl0
    obtain rfl : n = 0 := by simpa using hn2
    have h0 := Rdr.cell0 hb1
    have hcv : ∀ W : World, (convert 43 9 (.slice none 0 0)).run Try.prog W = .ok (.string ⟨#[]⟩) W := fun W => (Rd.nil W).string _ _ _ Try.underlying43 Try.underlying5 Try.underlying9
    have f0 := Rdr.free hb1 0
    have HB := Lib.hid hb1
    clear ho hb1 hB1
    go_wp2_with fail
    refine (Bad_anyP P b [] false _ HR.out).mono ?_
    rintro e w2 ⟨rfl, rfl⟩
    go_wp2_with fail
    go_ret
    exact ⟨rfl, (RdO.emptied P HB.out).1, HO.out.trans (RdO.emptied P HB.out).2⟩
  · rw [List.length_map] at h2 hb1
    have hbB : P x.block := hB1 _ rfl
    have hstep := fun a' ha ha' => RdrP.step (s := n) hb1 rfl h2 h3 h4 hbB hn2 a' ha ha'
    have htake := RdV.takes (x := x) (xs := l1.map bv) (by rw [List.length_map]; exact h2) h3 h4 n n (by rw [List.length_map]; omega)
    rw [← List.map_take] at htake
    have hcv := Rd.string (P := Try.prog) htake 43 9 5 Try.underlying43 Try.underlying5 Try.underlying9
    have h0 := Rdr.cell0 hb1
    have f0 := Rdr.free hb1 0
    have HB := Lib.hid hb1
    have HS := Lib.hid hstep
    unfold maxLen at h3
    clear ho hb1 hB1 h4 htake hstep
    by_cases hcs : cap = n
    · subst hcs
      have HS' := Lib.hid (HS.out x rfl (fun hh => by omega))
      rw [Nat.sub_self, show l1.length - cap = 0 by omega] at HS'
      go_wp2_with fail
      refine (Bad_anyP P b l1 false _ HR.out).mono ?_
      rintro e w2 ⟨rfl, rfl⟩
      go_wp2_with fail
      go_ret
      exact ⟨rfl, HS'.out.1, HO.out.trans HS'.out.2⟩
    · have HS' := Lib.hid (HS.out (x.add n) (add_block x n) (fun _ i => add_more x n i))
      go_wp2_with fail
      refine (Bad_anyP P b l1 false _ HR.out).mono ?_
      rintro e w2 ⟨rfl, rfl⟩
      go_wp2_with fail
      go_ret
      exact ⟨rfl, HS'.out.1, HO.out.trans HS'.out.2⟩

/-- A call that makes a reader. -/
def MadeP (w : World) (l : List UInt8) (r : Ending) (w' : World) : Prop := ∃ b, r = .returned (.pointer (some ⟨b, 0, none⟩)) ∧ w.heap.size ≤ b ∧ b < w'.heap.size ∧ RdO (fun k => w.heap.size ≤ k ∧ k < b) w' b l false ∧ Below w.heap.size w w'
theorem New_anyP (v : Value) (l : List UInt8) (w : World) (hr : Rd w v l) (h1 : l.length ≤ 140737488355328) : Calls Try.prog 91 #[v] w (MadeP w l) := by
  go_enter Try.func91, Try.ntmps91
  go_wp2_with fail
  refine (clone_any v l _ hr h1).mono ?_
  rintro e w1 ⟨v1, rfl, hown1, hb1⟩
  have hr1 : Rd w1 v1 l := RdV.of_owns hown1
  obtain ⟨a1, cap1, rfl, _, _⟩ := hr1.shape
  go_wp2_with fail
  go_ret
  exact ⟨_, rfl, hb1.size, by simp, ⟨_, heap_alloc_new w1 _, Rd.mono hr1 ((Below.refl _ _).alloc (Nat.le_refl _) _), fun k hk => hown1.lt k hk⟩, hb1.alloc hb1.size _⟩

end Go.Proofs.Ytoagpaphghgkmaa

/-
  The document's reader (its bytes lie where P holds): a number, an int, taken off the front.
-/
namespace Go.Proofs.Ytoagpaphghgkmaa
open Go.RowKit Go.BigFrame

theorem RdrP.below {T : TypeId} {P : Nat → Prop} {N g : Nat} {w w' : World} {l : List UInt8} {bad : Bool} (h : RdrP T P w g l bad) (hb : Below N w w') (hg : g < N) (hP : ∀ k, P k → k < N) : RdrP T P w' g l bad := by
  obtain ⟨v, h1, h2, h3⟩ := h
  have ho : OnlyS (fun k => N ≤ k) w w' := ⟨hb.os, hb.tape, hb.output, hb.size, fun b _ hx => hb.block b (by omega)⟩
  exact ⟨v, (hb.block g hg).trans h1, h2.onlyS ho (fun _ k hk => by have := hP k (h3 k hk); omega), h3⟩
theorem only_belowR {g N : Nat} {w w' : World} (h : Only g w w') (hN : N ≤ w.heap.size) (hg : N ≤ g) : Below N w w' :=
  ⟨h.os, h.tape, h.output, h.size, fun k hk => h.block k (by omega) (fun e => by have : k = g := (by simpa using e); omega)⟩

end Go.Proofs.Ytoagpaphghgkmaa

/-
  The program's reader (its bytes lie where P holds): a number, an int, a text, taken off the front; the end.
-/
namespace Go.Proofs.Ytoagpaphghgkmaa
open Go.RowKit Go.BigFrame

theorem RNum_tk (P : Nat → Prop) (g : Nat) (l : List UInt8) (bad : Bool) (w : World) (hbl : bad = true → l = []) (h : RdO P w g l bad) :
    Calls Try.prog 92 #[.pointer (some ⟨g, 0, none⟩)] w fun e w' => e = .returned (.int .u64 (tk l).1) ∧ RdO P w' g (tk l).2.1 (tk l).2.2 ∧ Only g w w' := by
  cases bad with
  | true =>
    have hl := hbl rfl
    subst hl
    rw [tk_no (show (front []).2 = 0 from rfl)]
    exact (RNum_badP P g [] w h).mono fun e w' hh => ⟨hh.1, by rw [← hh.2]; exact h, by rw [← hh.2]; exact Only.refl _ _⟩
  | false =>
    by_cases h0 : (front l).2 = 0
    · rw [tk_no h0]
      exact RNum_noP P g l w h h0
    · rw [tk_ok h0]
      exact RNum_yesP P g l _ _ w h rfl h0
theorem RInt_tk (P : Nat → Prop) (g : Nat) (l : List UInt8) (bad : Bool) (w : World) (hbl : bad = true → l = []) (h : RdO P w g l bad) :
    Calls Try.prog 109 #[.pointer (some ⟨g, 0, none⟩)] w fun e w' => e = .returned (.int .i64 (zag (tk l).1)) ∧ RdO P w' g (tk l).2.1 (tk l).2.2 ∧ Only g w w' := by
  cases bad with
  | true =>
    have hl := hbl rfl
    subst hl
    rw [tk_no (show (front []).2 = 0 from rfl)]
    exact (RInt_badP P g [] w h).mono fun e w' hh => ⟨hh.1, by rw [← hh.2]; exact h, by rw [← hh.2]; exact Only.refl _ _⟩
  | false =>
    by_cases h0 : (front l).2 = 0
    · rw [tk_no h0]
      exact RInt_noP P g l w h h0
    · rw [tk_ok h0]
      exact RInt_yesP P g l _ _ w h rfl h0
theorem RText_tk (P : Nat → Prop) (g : Nat) (l : List UInt8) (bad : Bool) (w : World) (hbl : bad = true → l = []) (h : RdO P w g l bad) :
    Calls Try.prog 110 #[.pointer (some ⟨g, 0, none⟩)] w fun e w' => e = .returned (.string ⟨(tkT l).1.toArray⟩) ∧ RdO P w' g (tkT l).2.1 (tkT l).2.2 ∧ Only g w w' := by
  cases bad with
  | true =>
    have hl := hbl rfl
    subst hl
    rw [tkT_no (show (front []).2 = 0 from rfl)]
    exact (RText_badP P g [] w h).mono fun e w' hh => ⟨hh.1, by rw [← hh.2]; exact h, by rw [← hh.2]; exact Only.refl _ _⟩
  | false =>
    by_cases h0 : (front l).2 = 0
    · rw [tkT_no h0]
      exact RText_noP P g l w h h0
    · by_cases hn : 1024 < (front l).1 ∨ (l.drop (front l).2).length < (front l).1
      · rw [tkT_long h0 hn]
        exact RText_longP P g l _ _ _ w h rfl h0 rfl hn
      · rw [tkT_ok h0 hn]
        exact RText_yesP P g l _ _ _ w h rfl h0 rfl (by omega) (by omega)
theorem zig_zag {n : Nat} (h : n < 2 ^ 64) : zig (zag n) = n := by
  unfold zag
  split
  · have := zig_neg (-1 - ((n / 2 : Nat) : Int)) (by omega)
    omega
  · have := zig_pos ((n / 2 : Nat) : Int) (by omega)
    omega

end Go.Proofs.Ytoagpaphghgkmaa

/-
  The contract of the document's own reader of a text.
-/
namespace Go.Proofs.Ytoagpaphghgkmaa
open Go.RowKit Go.BigFrame

end Go.Proofs.Ytoagpaphghgkmaa

/-
  The contract of the document's own Take.
-/
namespace Go.Proofs.Ytoagpaphghgkmaa
open Go.RowKit Go.BigFrame

theorem rd_setBelow {B g i : Nat} {w : World} {v u : Value} {l : List UInt8} (hr : Rd w v l) (hB : ∀ k, v.ownBlock = some k → B ≤ k) (hg : g < B) : Rd (w.setCell ⟨g, i, none⟩ u) v l := by
  rcases hr with ⟨rfl, h1⟩ | ⟨x, cap, rfl, h2, _h3, h4⟩
  · exact .inl ⟨rfl, h1⟩
  · have hx : B ≤ x.block := hB _ rfl
    refine .inr ⟨x, cap, rfl, h2, _h3, fun k y hk => ?_⟩
    rw [World.cell?_of_block (w := w) (Below.heap_setCell _ _ _ _ (by rw [add_block]; show x.block ≠ g; omega))]
    exact h4 k y hk

end Go.Proofs.Ytoagpaphghgkmaa

/-
  The contract of the document's own Take, put together.
-/
namespace Go.Proofs.Ytoagpaphghgkmaa
open Go.RowKit Go.BigFrame

theorem takeV_no1 (t : List UInt8) (c : UInt8) (hc : c = 1 ∨ c = 2) (hf : (front t).2 = 0) : takeV (c :: t) = none := by
  unfold takeV
  dsimp only
  rw [if_neg (by rcases hc with rfl | rfl <;> decide), if_pos hc, if_pos hf]
theorem takeV_yes1 (t : List UInt8) (c : UInt8) (hc : c = 1 ∨ c = 2) (hf : (front t).2 ≠ 0) (hr : rightV ⟨(c.toNat : Int), zag (front t).1, []⟩ = true) : takeV (c :: t) = some (⟨(c.toNat : Int), zag (front t).1, []⟩, t.drop (front t).2) := by
  unfold takeV
  dsimp only
  rw [if_neg (by rcases hc with rfl | rfl <;> decide), if_pos hc, if_neg hf, if_pos hr]
theorem takeV_wrong1 (t : List UInt8) (c : UInt8) (hc : c = 1 ∨ c = 2) (hf : (front t).2 ≠ 0) (hr : rightV ⟨(c.toNat : Int), zag (front t).1, []⟩ = false) : takeV (c :: t) = none := by
  unfold takeV
  dsimp only
  rw [if_neg (by rcases hc with rfl | rfl <;> decide), if_pos hc, if_neg hf, if_neg (by rw [hr]; decide)]
theorem takeV_no3 (t : List UInt8) (hf : (front t).2 = 0) : takeV (3 :: t) = none := by
  unfold takeV
  dsimp only
  rw [if_neg (by decide), if_neg (by decide), if_pos rfl, if_pos hf]
theorem takeV_yes3 (t : List UInt8) (hf : (front t).2 ≠ 0) (hn : (front t).1 ≤ 1024 ∧ (front t).1 ≤ (t.drop (front t).2).length) : takeV (3 :: t) = some (⟨3, 0, (t.drop (front t).2).take (front t).1⟩, (t.drop (front t).2).drop (front t).1) := by
  unfold takeV
  dsimp only
  rw [if_neg (by decide), if_neg (by decide), if_pos rfl, if_neg hf, if_pos hn]
theorem takeV_long3 (t : List UInt8) (hf : (front t).2 ≠ 0) (hn : ¬ ((front t).1 ≤ 1024 ∧ (front t).1 ≤ (t.drop (front t).2).length)) : takeV (3 :: t) = none := by
  unfold takeV
  dsimp only
  rw [if_neg (by decide), if_neg (by decide), if_pos rfl, if_neg hf, if_neg hn]
theorem zag_fits (k : Int) (h0 : 0 ≤ k) (h1 : k ≤ 255) (n : Nat) (hn : n < 2 ^ 64) : (⟨k, zag n, []⟩ : V).fits := by
  refine ⟨h0, h1, ?_, ?_⟩
  · show -9223372036854775808 ≤ zag n
    unfold zag
    split <;> omega
  · show zag n ≤ 9223372036854775807
    unfold zag
    split <;> omega
theorem fits_no (k : Int) (s : List UInt8) (h0 : 0 ≤ k) (h1 : k ≤ 255) : (⟨k, 0, s⟩ : V).fits := by
  refine ⟨h0, h1, ?_, ?_⟩
  · show -9223372036854775808 ≤ (0 : Int); decide
  · show (0 : Int) ≤ 9223372036854775807; decide
theorem right_is {v : V} {x : Bool} (h : rightV v = x) (hv : v.fits) (hl : v.s.length ≤ 9223372036854775807) (W : World) : Calls Try.prog 66 #[v.val] W fun e w' => e = .returned (.bool x) ∧ Ext W w' := by
  subst h
  exact refRight_any v hv hl W

end Go.Proofs.Ytoagpaphghgkmaa
