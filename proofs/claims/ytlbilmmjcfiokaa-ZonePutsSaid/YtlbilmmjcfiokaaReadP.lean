/-
  The contracts of the program's own reader, whose bytes lie where P holds.
-/
import Derived.Test.YtlbilmmjcfiokaaRead
import Derived.Test.YtlbilmmjcfiokaaRefReadP
namespace Go.Proofs.Ytlbilmmjcfiokaa
open Go.RowKit Go.BigFrame

abbrev RdO (P : Nat → Prop) (w : World) (b : Nat) (l : List UInt8) (bad : Bool) : Prop := RdrP 87 P w b l bad

theorem Bad_anyP (P : Nat → Prop) (b : Nat) (l : List UInt8) (bad : Bool) (w : World) (h : RdO P w b l bad) :
    Calls Try.prog 79 #[.pointer (some ⟨b, 0, none⟩)] w fun e w' => e = .returned (.bool bad) ∧ w = w' := by
  obtain ⟨v, hb, hr⟩ := h
  have h1 := Rdr.cell1 hb
  clear hb hr
  go_enter Try.func79, Try.ntmps79
  go_wp2
  go_ret
  exact ⟨rfl, rfl⟩
/-- What spoil leaves. -/
theorem RdO.spoilt {T : TypeId} (P : Nat → Prop) {w : World} {b : Nat} {v : Value} {bad : Bool} (hb : w.heap[b]? = some (.cells #[v, .bool bad] T (0, 0))) :
    RdrP T P ((w.setCell ⟨b, 0, none⟩ (.slice none 0 0)).setCell ⟨b, 1, none⟩ (.bool true)) b [] true ∧ Only b w ((w.setCell ⟨b, 0, none⟩ (.slice none 0 0)).setCell ⟨b, 1, none⟩ (.bool true)) := by
  refine ⟨⟨.slice none 0 0, ?_, Rd.nil _, fun k hk => by cases hk⟩, ⟨rfl, rfl, rfl, by simp [World.setCell], fun k _ hk => ?_⟩⟩
  · have hlt : b < w.heap.size := (Array.getElem?_eq_some_iff.1 hb).1
    simp [World.setCell, Array.getElem?_modify, hb]
  · have hne : k ≠ b := fun e => hk (by rw [e])
    rw [Below.heap_setCell _ _ _ _ hne, Below.heap_setCell _ _ _ _ hne]
theorem spoil_anyP (P : Nat → Prop) (b : Nat) (v : Value) (bad : Bool) (w : World) (hb : w.heap[b]? = some (.cells #[v, .bool bad] 87 (0, 0))) :
    Calls Try.prog 93 #[.pointer (some ⟨b, 0, none⟩)] w fun e w' => e = .returned (.tuple #[]) ∧ RdO P w' b [] true ∧ Only b w w' := by
  have hS := RdO.spoilt P hb
  have h0 := Rdr.cell0 hb
  have h1 := Rdr.cell1 hb
  have f0 := Rdr.free hb 0
  have f1 := Rdr.free hb 1
  have HS := Lib.hid hS
  clear hb hS
  go_enter Try.func93, Try.ntmps93
  go_wp2
  go_end0
  exact ⟨rfl, HS.out⟩
/-- A bad reader gives 0. -/
theorem RNum_badP (P : Nat → Prop) (b : Nat) (l : List UInt8) (w : World) (h : RdO P w b l true) :
    Calls Try.prog 84 #[.pointer (some ⟨b, 0, none⟩)] w fun e w' => e = .returned (.int .u64 0) ∧ w = w' := by
  go_enter Try.func84, Try.ntmps84
  go_wp2_with fail
  refine (Bad_anyP P b l true _ h).mono ?_
  rintro e w1 ⟨rfl, rfl⟩
  go_wp2_with fail
  go_ret
  exact ⟨rfl, rfl⟩
/-- No number stands there: the reader turns bad. -/
theorem RNum_noP (P : Nat → Prop) (b : Nat) (l : List UInt8) (w : World) (h : RdO P w b l false) (hf : (front l).2 = 0) :
    Calls Try.prog 84 #[.pointer (some ⟨b, 0, none⟩)] w fun e w' => e = .returned (.int .u64 0) ∧ RdO P w' b [] true ∧ Only b w w' := by
  have hz := front_zero hf
  obtain ⟨v, hb, hr, hB⟩ := id h
  have h0 := Rdr.cell0 hb
  have hfst := first_any v l
  rw [hz] at hfst
  have HF := Lib.hid hfst
  have HB := Lib.hid hb
  have HR := Lib.hid hr
  have HH := Lib.hid h
  clear hfst hb hr hB h hz hf
  go_enter Try.func84, Try.ntmps84
  go_wp2_with fail
  refine (Bad_anyP P b l false _ HH.out).mono ?_
  rintro e w1 ⟨rfl, rfl⟩
  go_wp2_with fail
  refine (HF.out _ HR.out).mono ?_
  rintro e w1 ⟨rfl, rfl⟩
  go_wp2_with fail
  refine (spoil_anyP P b v false _ HB.out).mono ?_
  rintro e w1 ⟨rfl, hs⟩
  have HS := Lib.hid hs
  clear hs
  go_wp2_with fail
  go_ret
  exact ⟨rfl, HS.out⟩
set_option maxHeartbeats 400000 in
/-- A number stands there: it is taken. -/
theorem RNum_yesP (P : Nat → Prop) (b : Nat) (l : List UInt8) (n s : Nat) (w : World) (h : RdO P w b l false) (hf : front l = (n, s)) (hs : s ≠ 0) :
    Calls Try.prog 84 #[.pointer (some ⟨b, 0, none⟩)] w fun e w' => e = .returned (.int .u64 n) ∧ RdO P w' b (l.drop s) false ∧ Only b w w' := by
  obtain ⟨v, hb, hr, hB⟩ := id h
  have hle := front_le hf
  have hfst := first_any v l
  rw [hf] at hfst
  rcases id hr with ⟨rfl, h1⟩ | ⟨x, cap, rfl, h2, h3, h4⟩
  · have : l = [] := by simpa using h1
    subst this
    simp [front] at hf
    omega
  · rw [List.length_map] at h2 hb hr hfst
    obtain ⟨c, t, rfl⟩ : ∃ c t, l = c :: t := by
      cases l with
      | nil => simp [front] at hf; omega
      | cons c t => exact ⟨c, t, rfl⟩
    have hc0 := h4 0 (bv c) (by simp)
    rw [add_zero] at hc0
    obtain ⟨bb, off, rfl, _⟩ := plain_of hc0
    obtain ⟨L, hL⟩ : ∃ L, L = (c :: t).length := ⟨_, rfl⟩
    rw [← hL] at h2 hb hr hfst hle
    have hBb : P bb := hB bb rfl
    have hstep := fun a' ha ha' => RdrP.step (s := s) hb hL (by omega) h3 h4 hBb (by omega) a' ha ha'
    have h0 := Rdr.cell0 hb
    have f0 := Rdr.free hb 0
    unfold maxLen at h3
    have HF := Lib.hid hfst
    have HR := Lib.hid hr
    have HH := Lib.hid h
    have HS := Lib.hid hstep
    have HL := Lib.hid hL
    have hs0 : ((s : Int) == 0) = false := by rw [beq_eq_false_iff_ne]; omega
    clear hfst hb hr hB h hf hc0 hstep h4 hL
    go_enter Try.func84, Try.ntmps84
    go_wp2_with fail
    refine (Bad_anyP P b (c :: t) false _ HH.out).mono ?_
    rintro e w1 ⟨rfl, rfl⟩
    go_wp2_with fail
    refine (HF.out _ HR.out).mono ?_
    rintro e w1 ⟨rfl, rfl⟩
    by_cases hcs : cap = s
    · subst hcs
      have HS' := Lib.hid (HS.out ⟨bb, off, none⟩ rfl (fun hh => absurd hh (by rw [← HL.out]; omega)))
      rw [Nat.sub_self, show L - cap = 0 by omega] at HS'
      go_wp2
      go_ret
      exact ⟨rfl, HS'.out⟩
    · go_wp2
      go_ret
      exact ⟨rfl, HS.out ⟨bb, off + s, none⟩ rfl (fun _ i => add_add bb off s i)⟩
theorem RInt_badP (P : Nat → Prop) (b : Nat) (l : List UInt8) (w : World) (h : RdO P w b l true) :
    Calls Try.prog 58 #[.pointer (some ⟨b, 0, none⟩)] w fun e w' => e = .returned (.int .i64 0) ∧ w = w' := by
  go_enter Try.func58, Try.ntmps58
  go_wp2_with fail
  refine (RNum_badP P b l _ h).mono ?_
  rintro e w1 ⟨rfl, rfl⟩
  go_wp2_with fail
  refine (unfold_any 0 _ (by omega)).mono ?_
  rintro e w1 ⟨rfl, rfl⟩
  go_wp2_with fail
  go_ret
  exact ⟨rfl, rfl⟩
theorem RInt_noP (P : Nat → Prop) (b : Nat) (l : List UInt8) (w : World) (h : RdO P w b l false) (hf : (front l).2 = 0) :
    Calls Try.prog 58 #[.pointer (some ⟨b, 0, none⟩)] w fun e w' => e = .returned (.int .i64 0) ∧ RdO P w' b [] true ∧ Only b w w' := by
  go_enter Try.func58, Try.ntmps58
  go_wp2_with fail
  refine (RNum_noP P b l _ h hf).mono ?_
  rintro e w1 ⟨rfl, hs⟩
  have HS := Lib.hid hs
  clear hs
  go_wp2_with fail
  refine (unfold_any 0 _ (by omega)).mono ?_
  rintro e w1 ⟨rfl, rfl⟩
  go_wp2_with fail
  go_ret
  exact ⟨rfl, HS.out⟩
theorem RInt_yesP (P : Nat → Prop) (b : Nat) (l : List UInt8) (n s : Nat) (w : World) (h : RdO P w b l false) (hf : front l = (n, s)) (hs : s ≠ 0) :
    Calls Try.prog 58 #[.pointer (some ⟨b, 0, none⟩)] w fun e w' => e = .returned (.int .i64 (zag n)) ∧ RdO P w' b (l.drop s) false ∧ Only b w w' := by
  have hn := (front_sound l n s hf hs).1
  go_enter Try.func58, Try.ntmps58
  go_wp2_with fail
  refine (RNum_yesP P b l n s _ h hf hs).mono ?_
  rintro e w1 ⟨rfl, hs⟩
  have HS := Lib.hid hs
  clear hs
  go_wp2_with fail
  refine (unfold_any n _ (by omega)).mono ?_
  rintro e w1 ⟨rfl, rfl⟩
  go_wp2_with fail
  go_ret
  exact ⟨rfl, HS.out⟩
theorem Left_badP (P : Nat → Prop) (b : Nat) (l : List UInt8) (w : World) (h : RdO P w b l true) :
    Calls Try.prog 81 #[.pointer (some ⟨b, 0, none⟩)] w fun e w' => e = .returned (.int .i64 0) ∧ w = w' := by
  go_enter Try.func81, Try.ntmps81
  go_wp2_with fail
  refine (Bad_anyP P b l true _ h).mono ?_
  rintro e w1 ⟨rfl, rfl⟩
  go_wp2_with fail
  go_ret
  exact ⟨rfl, rfl⟩
theorem Left_anyP (P : Nat → Prop) (b : Nat) (l : List UInt8) (w : World) (h : RdO P w b l false) :
    Calls Try.prog 81 #[.pointer (some ⟨b, 0, none⟩)] w fun e w' => e = .returned (.int .i64 l.length) ∧ w = w' := by
  obtain ⟨v, hb, hr, _⟩ := id h
  obtain ⟨a, cap, rfl, _, _⟩ := hr.shape
  have h0 := Rdr.cell0 hb
  clear hb hr
  go_enter Try.func81, Try.ntmps81
  go_wp2_with fail
  refine (Bad_anyP P b l false _ h).mono ?_
  rintro e w1 ⟨rfl, rfl⟩
  go_wp2_with fail
  go_ret
  exact ⟨rfl, rfl⟩
theorem End_badP (P : Nat → Prop) (b : Nat) (l : List UInt8) (w : World) (h : RdO P w b l true) :
    Calls Try.prog 59 #[.pointer (some ⟨b, 0, none⟩)] w fun e w' => e = .returned (.int .i64 6) ∧ w = w' := by
  go_enter Try.func59, Try.ntmps59
  go_wp2_with fail
  refine (Bad_anyP P b l true _ h).mono ?_
  rintro e w1 ⟨rfl, rfl⟩
  go_wp2_with fail
  go_ret
  exact ⟨rfl, rfl⟩
theorem End_anyP (P : Nat → Prop) (b : Nat) (l : List UInt8) (w : World) (h : RdO P w b l false) :
    Calls Try.prog 59 #[.pointer (some ⟨b, 0, none⟩)] w fun e w' => e = .returned (.int .i64 (if l.length = 0 then 0 else 6)) ∧ w = w' := by
  by_cases hl : l.length = 0
  · rw [if_pos hl]
    have hlt : decide (0 < l.length) = false := decide_eq_false (by omega)
    have hnp : ¬ (0 < l.length) := by omega
    clear hl
    go_enter Try.func59, Try.ntmps59
    go_wp2_with fail
    refine (Bad_anyP P b l false _ h).mono ?_
    rintro e w1 ⟨rfl, rfl⟩
    go_wp2_with fail
    refine (Left_anyP P b l _ h).mono ?_
    rintro e w1 ⟨rfl, rfl⟩
    go_wp2_with fail
    go_ret
    exact ⟨rfl, rfl⟩
  · rw [if_neg hl]
    have hlt : decide (0 < l.length) = true := decide_eq_true (by omega)
    have hp : 0 < l.length := by omega
    clear hl
    go_enter Try.func59, Try.ntmps59
    go_wp2_with fail
    refine (Bad_anyP P b l false _ h).mono ?_
    rintro e w1 ⟨rfl, rfl⟩
    go_wp2_with fail
    refine (Left_anyP P b l _ h).mono ?_
    rintro e w1 ⟨rfl, rfl⟩
    go_wp2_with fail
    go_ret
    exact ⟨rfl, rfl⟩
theorem RText_badP (P : Nat → Prop) (b : Nat) (l : List UInt8) (w : World) (h : RdO P w b l true) :
    Calls Try.prog 78 #[.pointer (some ⟨b, 0, none⟩)] w fun e w' => e = .returned (.string ⟨#[]⟩) ∧ w = w' := by
  go_enter Try.func78, Try.ntmps78
  go_wp2_with fail
  refine (RNum_badP P b l _ h).mono ?_
  rintro e w1 ⟨rfl, rfl⟩
  go_wp2_with fail
  refine (Bad_anyP P b l true _ h).mono ?_
  rintro e w1 ⟨rfl, rfl⟩
  go_wp2_with fail
  go_ret
  exact ⟨rfl, rfl⟩
theorem RText_noP (P : Nat → Prop) (b : Nat) (l : List UInt8) (w : World) (h : RdO P w b l false) (hf : (front l).2 = 0) :
    Calls Try.prog 78 #[.pointer (some ⟨b, 0, none⟩)] w fun e w' => e = .returned (.string ⟨#[]⟩) ∧ RdO P w' b [] true ∧ Only b w w' := by
  go_enter Try.func78, Try.ntmps78
  go_wp2_with fail
  refine (RNum_noP P b l _ h hf).mono ?_
  rintro e w1 ⟨rfl, hr, ho⟩
  have HR := Lib.hid hr
  have HO := Lib.hid ho
  clear hr ho
  go_wp2_with fail
  refine (Bad_anyP P b [] true _ HR.out).mono ?_
  rintro e w1 ⟨rfl, rfl⟩
  go_wp2_with fail
  go_ret
  exact ⟨rfl, HR.out, HO.out⟩
set_option maxRecDepth 100000 in
set_option maxHeartbeats 400000 in
/-- A length that is too great. -/
theorem RText_longP (P : Nat → Prop) (b : Nat) (l l1 : List UInt8) (n s : Nat) (w : World) (h : RdO P w b l false) (hf : front l = (n, s)) (hs : s ≠ 0) (hl1 : l1 = l.drop s) (hn : 1024 < n ∨ l1.length < n) :
    Calls Try.prog 78 #[.pointer (some ⟨b, 0, none⟩)] w fun e w' => e = .returned (.string ⟨#[]⟩) ∧ RdO P w' b [] true ∧ Only b w w' := by
  have hn64 := (front_sound l n s hf hs).1
  have hnum := RNum_yesP P b l n s w h hf hs
  rw [← hl1] at hnum
  have HNUM := Lib.hid hnum
  clear hnum hf hl1 h
  go_enter Try.func78, Try.ntmps78
  go_wp2_with fail
  refine HNUM.out.mono ?_
  rintro e w1 ⟨rfl, hr, ho⟩
  have HR := Lib.hid hr
  have HO := Lib.hid ho
  obtain ⟨v1, hb1, hr1, _⟩ := hr
  obtain ⟨a, cap, rfl, hcap, hmax⟩ := hr1.shape
  have h0 := Rdr.cell0 hb1
  have HB := Lib.hid hb1
  clear hr1 ho hb1
  unfold maxLen at hmax
  by_cases hbig : 1024 < n
  · have hd : decide ((1024 : Int) < n) = true := decide_eq_true (by omega)
    go_wp2_with fail
    refine (Bad_anyP P b l1 false _ HR.out).mono ?_
    rintro e w2 ⟨rfl, rfl⟩
    go_wp2_with fail
    refine (spoil_anyP P b _ false _ HB.out).mono ?_
    rintro e w2 ⟨rfl, hr2, ho2⟩
    have HR2 := Lib.hid hr2
    have HO2 := Lib.hid ho2
    clear hr2 ho2
    go_wp2_with fail
    go_ret
    exact ⟨rfl, HR2.out, HO.out.trans HO2.out⟩
  · have hd : decide ((1024 : Int) < n) = false := decide_eq_false (by omega)
    have hln : l1.length < n := by omega
    have hd2 : decide (l1.length < n) = true := decide_eq_true hln
    go_wp2_with fail
    refine (Bad_anyP P b l1 false _ HR.out).mono ?_
    rintro e w2 ⟨rfl, rfl⟩
    go_wp2_with fail
    refine (spoil_anyP P b _ false _ HB.out).mono ?_
    rintro e w2 ⟨rfl, hr2, ho2⟩
    have HR2 := Lib.hid hr2
    have HO2 := Lib.hid ho2
    clear hr2 ho2
    go_wp2_with fail
    go_ret
    exact ⟨rfl, HR2.out, HO.out.trans HO2.out⟩
theorem RdO.emptied {T : TypeId} (P : Nat → Prop) {w : World} {b : Nat} {v : Value} {bad : Bool} (hb : w.heap[b]? = some (.cells #[v, .bool bad] T (0, 0))) :
    RdrP T P (w.setCell ⟨b, 0, none⟩ (.slice none 0 0)) b [] bad ∧ Only b w (w.setCell ⟨b, 0, none⟩ (.slice none 0 0)) := by
  refine ⟨⟨.slice none 0 0, ?_, Rd.nil _, fun k hk => by cases hk⟩, ⟨rfl, rfl, rfl, by simp [World.setCell], fun k _ hk => ?_⟩⟩
  · simp [World.setCell, Array.getElem?_modify, hb]
  · have hne : k ≠ b := fun e => hk (by rw [e])
    rw [Below.heap_setCell _ _ _ _ hne]
set_option maxRecDepth 100000 in
set_option maxHeartbeats 400000 in
/-- A text stands there. -/
theorem RText_yesP (P : Nat → Prop) (b : Nat) (l l1 : List UInt8) (n s : Nat) (w : World) (h : RdO P w b l false) (hf : front l = (n, s)) (hs : s ≠ 0) (hl1 : l1 = l.drop s) (hn : n ≤ 1024) (hn2 : n ≤ l1.length) :
    Calls Try.prog 78 #[.pointer (some ⟨b, 0, none⟩)] w fun e w' => e = .returned (.string ⟨(l1.take n).toArray⟩) ∧ RdO P w' b (l1.drop n) false ∧ Only b w w' := by
  have hnum := RNum_yesP P b l n s w h hf hs
  rw [← hl1] at hnum
  have HNUM := Lib.hid hnum
  clear hnum hf hl1 h
  have hd : decide ((1024 : Int) < n) = false := decide_eq_false (by omega)
  have hd2 : decide (l1.length < n) = false := decide_eq_false (by omega)
  go_enter Try.func78, Try.ntmps78
  go_wp2_with fail
  refine HNUM.out.mono ?_
  rintro e w1 ⟨rfl, hr, ho⟩
  have HR := Lib.hid hr
  have HO := Lib.hid ho
  obtain ⟨v1, hb1, hr1, hB1⟩ := hr
  rcases hr1 with ⟨rfl, h1⟩ | ⟨x, cap, rfl, h2, h3, h4⟩
  · have hl0 : l1 = [] := by simpa using h1
    subst hl0
    obtain rfl : n = 0 := by simpa using hn2
    have h0 := Rdr.cell0 hb1
    have hcv : ∀ W : World, (convert 33 9 (.slice none 0 0)).run Try.prog W = .ok (.string ⟨#[]⟩) W := fun W => (Rd.nil W).string _ _ _ Try.underlying33 Try.underlying5 Try.underlying9
    have f0 := Rdr.free hb1 0
    have HB := Lib.hid hb1
    clear ho hb1 hB1
    go_wp2_with fail
    refine (Bad_anyP P b [] false _ HR.out).mono ?_
    rintro e w2 ⟨rfl, rfl⟩
    go_wp2_with fail
    go_ret
    exact ⟨rfl, (RdO.emptied P HB.out).1, HO.out.trans (RdO.emptied P HB.out).2⟩
  · rw [List.length_map] at h2 hb1
    have hbB : P x.block := hB1 _ rfl
    have hstep := fun a' ha ha' => RdrP.step (s := n) hb1 rfl h2 h3 h4 hbB hn2 a' ha ha'
    have htake := RdV.takes (x := x) (xs := l1.map bv) (by rw [List.length_map]; exact h2) h3 h4 n n (by rw [List.length_map]; omega)
    rw [← List.map_take] at htake
    have hcv := Rd.string (P := Try.prog) htake 33 9 5 Try.underlying33 Try.underlying5 Try.underlying9
    have h0 := Rdr.cell0 hb1
    have f0 := Rdr.free hb1 0
    have HB := Lib.hid hb1
    have HS := Lib.hid hstep
    unfold maxLen at h3
    clear ho hb1 hB1 h4 htake hstep
    by_cases hcs : cap = n
    · subst hcs
      have HS' := Lib.hid (HS.out x rfl (fun hh => by omega))
      rw [Nat.sub_self, show l1.length - cap = 0 by omega] at HS'
      go_wp2_with fail
      refine (Bad_anyP P b l1 false _ HR.out).mono ?_
      rintro e w2 ⟨rfl, rfl⟩
      go_wp2_with fail
      go_ret
      exact ⟨rfl, HS'.out.1, HO.out.trans HS'.out.2⟩
    · have HS' := Lib.hid (HS.out (x.add n) (add_block x n) (fun _ i => add_more x n i))
      go_wp2_with fail
      refine (Bad_anyP P b l1 false _ HR.out).mono ?_
      rintro e w2 ⟨rfl, rfl⟩
      go_wp2_with fail
      go_ret
      exact ⟨rfl, HS'.out.1, HO.out.trans HS'.out.2⟩

/-- A call that makes a reader. -/
def MadeP (w : World) (l : List UInt8) (r : Ending) (w' : World) : Prop := ∃ b, r = .returned (.pointer (some ⟨b, 0, none⟩)) ∧ w.heap.size ≤ b ∧ b < w'.heap.size ∧ RdO (fun k => w.heap.size ≤ k ∧ k < b) w' b l false ∧ Below w.heap.size w w'
theorem New_anyP (v : Value) (l : List UInt8) (w : World) (hr : Rd w v l) (h1 : l.length ≤ 140737488355328) : Calls Try.prog 57 #[v] w (MadeP w l) := by
  go_enter Try.func57, Try.ntmps57
  go_wp2_with fail
  refine (clone_any v l _ hr h1).mono ?_
  rintro e w1 ⟨v1, rfl, hown1, hb1⟩
  have hr1 : Rd w1 v1 l := RdV.of_owns hown1
  obtain ⟨a1, cap1, rfl, _, _⟩ := hr1.shape
  go_wp2_with fail
  go_ret
  exact ⟨_, rfl, hb1.size, by simp, ⟨_, heap_alloc_new w1 _, Rd.mono hr1 ((Below.refl _ _).alloc (Nat.le_refl _) _), fun k hk => hown1.lt k hk⟩, hb1.alloc hb1.size _⟩

end Go.Proofs.Ytlbilmmjcfiokaa
