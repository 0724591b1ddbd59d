/-
  The contract of the document's own reader of a text.
-/
import Derived.Test.YtlbilmmjcfiokaaRefRead
import Derived.Outline
namespace Go.Proofs.Ytlbilmmjcfiokaa
open Go.RowKit Go.BigFrame

set_option maxRecDepth 100000 in
set_option maxHeartbeats 400000 in
/-- A length that fits. -/
theorem refRText_take (B b : Nat) (l1 : List UInt8) (bad : Bool) (n : Nat) (w : World) (hn64 : n ≤ 18446744073709551615)
    (hnum : Calls Try.prog 63 #[.pointer (some ⟨b, 0, none⟩)] w fun e w' => e = .returned (.int .u64 n) ∧ RRef B w' b l1 bad ∧ Only b w w')
    (hn : n ≤ 1024) (hn2 : n ≤ l1.length) :
    Calls Try.prog 60 #[.pointer (some ⟨b, 0, none⟩)] w fun e w' => e = .returned (.string ⟨(l1.take n).toArray⟩) ∧ RRef B w' b (l1.drop n) bad ∧ Only b w w' := by
  have HNUM := Lib.hid hnum
  clear hnum
  have hd : decide ((1024 : Int) < n) = false := decide_eq_false (by omega)
  have hd2 : decide (l1.length < n) = false := decide_eq_false (by omega)
  go_enter Try.func60, Try.ntmps60
  go_wp2_with fail
  refine HNUM.out.mono ?_
  rintro e w1 ⟨rfl, hr, ho⟩
  have HR := Lib.hid hr
  have HO := Lib.hid ho
  obtain ⟨v1, hb1, hr1, hB1⟩ := hr
  rcases hr1 with ⟨rfl, h1⟩ | ⟨x, cap, rfl, h2, h3, h4⟩
  · have hl0 : l1 = [] := by simpa using h1
    subst hl0
    obtain rfl : n = 0 := by simpa using hn2
    have h0 := Rdr.cell0 hb1
    have hcv : ∀ W : World, (convert 33 9 (.slice none 0 0)).run Try.prog W = .ok (.string ⟨#[]⟩) W := fun W => (Rd.nil W).string _ _ _ Try.underlying33 Try.underlying5 Try.underlying9
    have f0 := Rdr.free hb1 0
    have HB := Lib.hid hb1
    clear ho hb1 hB1
    go_wp2_with fail
    go_ret
    exact ⟨rfl, (Rdr.emptied B HB.out).1, HO.out.trans (Rdr.emptied B HB.out).2⟩
  · rw [List.length_map] at h2 hb1
    have hbB : B ≤ x.block := hB1 _ rfl
    have hstep := fun a' ha ha' => Rdr.step (s := n) hb1 rfl h2 h3 h4 hbB hn2 a' ha ha'
    have htake := RdV.takes (x := x) (xs := l1.map bv) (by rw [List.length_map]; exact h2) h3 h4 n n (by rw [List.length_map]; omega)
    rw [← List.map_take] at htake
    have hcv := Rd.string (P := Try.prog) htake 33 9 5 Try.underlying33 Try.underlying5 Try.underlying9
    have h0 := Rdr.cell0 hb1
    have f0 := Rdr.free hb1 0
    have HB := Lib.hid hb1
    have HS := Lib.hid hstep
    unfold maxLen at h3
    clear ho hb1 hB1 h4 htake hstep
    by_cases hcs : cap = n
    · subst hcs
      have HS' := Lib.hid (HS.out x rfl (fun hh => by omega))
      rw [Nat.sub_self, show l1.length - cap = 0 by omega] at HS'
      go_wp2_with fail
      go_ret
      exact ⟨rfl, HS'.out.1, HO.out.trans HS'.out.2⟩
    · have HS' := Lib.hid (HS.out (x.add n) (add_block x n) (fun _ i => add_more x n i))
      go_wp2_with fail
      go_ret
      exact ⟨rfl, HS'.out.1, HO.out.trans HS'.out.2⟩

theorem refRText_no (B b : Nat) (l : List UInt8) (bad : Bool) (w : World) (h : RRef B w b l bad) (hf : (front l).2 = 0) :
    Calls Try.prog 60 #[.pointer (some ⟨b, 0, none⟩)] w fun e w' => e = .returned (.string ⟨#[]⟩) ∧ RRef B w' b [] true ∧ Only b w w' :=
  refRText_take B b [] true 0 w (by omega) (refRNum_no B b l bad w h hf) (by omega) (by simp)

theorem refRText_yes (B b : Nat) (l l1 : List UInt8) (bad : Bool) (n s : Nat) (w : World) (h : RRef B w b l bad) (hf : front l = (n, s)) (hs : s ≠ 0) (hl1 : l1 = l.drop s) (hn : n ≤ 1024) (hn2 : n ≤ l1.length) :
    Calls Try.prog 60 #[.pointer (some ⟨b, 0, none⟩)] w fun e w' => e = .returned (.string ⟨(l1.take n).toArray⟩) ∧ RRef B w' b (l1.drop n) bad ∧ Only b w w' := by
  have hnum := refRNum_yes B b l bad n s w h hf hs
  rw [← hl1] at hnum
  exact refRText_take B b l1 bad n w (by omega) hnum hn hn2

set_option maxRecDepth 100000 in
set_option maxHeartbeats 400000 in
/-- A length that is too great. -/
theorem refRText_long (B b : Nat) (l l1 : List UInt8) (bad : Bool) (n s : Nat) (w : World) (h : RRef B w b l bad) (hf : front l = (n, s)) (hs : s ≠ 0) (hl1 : l1 = l.drop s) (hn : 1024 < n ∨ l1.length < n) :
    Calls Try.prog 60 #[.pointer (some ⟨b, 0, none⟩)] w fun e w' => e = .returned (.string ⟨#[]⟩) ∧ RRef B w' b [] true ∧ Only b w w' := by
  have hn64 := (front_sound l n s hf hs).1
  have hnum := refRNum_yes B b l bad n s w h hf hs
  rw [← hl1] at hnum
  have HNUM := Lib.hid hnum
  clear hnum hf hl1 h
  go_enter Try.func60, Try.ntmps60
  go_wp2_with fail
  refine HNUM.out.mono ?_
  rintro e w1 ⟨rfl, hr, ho⟩
  have HR := Lib.hid hr
  have HO := Lib.hid ho
  obtain ⟨v1, hb1, hr1, _⟩ := hr
  obtain ⟨a, cap, rfl, hcap, hmax⟩ := hr1.shape
  have h0 := Rdr.cell0 hb1
  clear hr1 ho hb1
  unfold maxLen at hmax
  by_cases hbig : 1024 < n
  · have hd : decide ((1024 : Int) < n) = true := decide_eq_true (by omega)
    go_wp2_with fail
    refine (refFail_any B b _ bad _ HR.out).mono ?_
    rintro e w2 ⟨rfl, hr2, ho2⟩
    have HR2 := Lib.hid hr2
    have HO2 := Lib.hid ho2
    clear hr2 ho2
    go_wp2_with fail
    go_ret
    exact ⟨rfl, HR2.out, HO.out.trans HO2.out⟩
  · have hd : decide ((1024 : Int) < n) = false := decide_eq_false (by omega)
    have hln : l1.length < n := by omega
    have hd2 : decide (l1.length < n) = true := decide_eq_true hln
    go_wp2_with fail
    refine (refFail_any B b _ bad _ HR.out).mono ?_
    rintro e w2 ⟨rfl, hr2, ho2⟩
    have HR2 := Lib.hid hr2
    have HO2 := Lib.hid ho2
    clear hr2 ho2
    go_wp2_with fail
    go_ret
    exact ⟨rfl, HR2.out, HO.out.trans HO2.out⟩

end Go.Proofs.Ytlbilmmjcfiokaa
