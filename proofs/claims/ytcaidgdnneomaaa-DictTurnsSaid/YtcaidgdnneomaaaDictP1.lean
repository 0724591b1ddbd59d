/-
  The program's own words: tooLong, slices.IndexFunc, slices.ContainsFunc.
-/
import Derived.RegionTactic
import Derived.ChangeAlike
import Derived.Shelf.Abstract
import Derived.Test.YtcaidgdnneomaaaDictRef2
import Derived.Test.YtcaidgdnneomaaaSearch
namespace Go.Proofs.Ytcaidgdnneomaaa
open Go.RowKit Go.BigFrame Go.Shelf

/-- A text that is too long. -/
def longT (t : T8) : Bool := decide (1024 < t.length)
theorem longT_any {ws : List T8} (h : ws.any longT = false) : ∀ t ∈ ws, t.length ≤ 1024 := fun t ht => by
  have := List.any_eq_false.1 h t ht
  simpa [longT] using this
theorem longT_some {ws : List T8} (h : ws.any longT = true) : ¬ ∀ t ∈ ws, t.length ≤ 1024 := fun hl => by
  obtain ⟨t, ht, hx⟩ := List.any_eq_true.1 h
  have := hl t ht
  have h2 := of_decide_eq_true hx
  omega

set_option maxRecDepth 100000 in
theorem tooLong10_any (s : T8) (w : World) (hs : s.length ≤ 4611686018427387904) :
    Calls Try.prog 31 #[.string ⟨s.toArray⟩] w fun e w' => e = .returned (.bool (longT s)) ∧ w = w' := by
  have HL := Lib.hid (show longT s = decide (1024 < s.length) from rfl)
  rw [HL.out]
  go_enter Try.func31, Try.ntmps31
  go_wp2_with fail
  go_ret
  exact ⟨by simp; omega, rfl⟩

set_option maxRecDepth 100000 in
theorem indexFunc10_any (G : Nat) (B : T8 → Bool) (u : Value) (ws : List T8) (w : World) (hu : RdV w u (ws.map tv)) (he : ∀ args w, (callFunc G args).run Try.prog w = .ok (.enter G args) w)
    (hf : ∀ t, t ∈ ws → Calls Try.prog G #[.string ⟨t.toArray⟩] w fun e w' => e = .returned (.bool (B t)) ∧ w = w') :
    Calls Try.prog 55 #[u, .func (.func G) #[] #[]] w fun e w' => (∃ k : Int, e = .returned (.int .i64 k) ∧ -1 ≤ k ∧ k ≤ 9223372036854775807 ∧ decide (0 ≤ k) = ws.any B) ∧ w = w' := by
  have HF := Lib.hid hf
  obtain ⟨ao, cap, rfl, h1, h2, hat⟩ := rd_words hu
  have HAT := Lib.hid hat
  obtain ⟨N, hN⟩ : ∃ N, ws.length = N := ⟨_, rfl⟩
  have HN := Lib.hid hN
  unfold maxLen at h2
  rw [hN] at h1 ⊢
  clear hat hN hu hf
  go_enter Try.func55, Try.ntmps55
  go_wp2_with fail
  go_loopw [5, 8] (fun _ i wr => ∃ j : Nat, j ≤ N ∧ i = .int .i64 j ∧ (ws.take j).any B = false ∧ w = wr) (fun _ i _ => N - (intOf i).toNat)
  case atStart => exact ⟨0, Nat.zero_le _, rfl, rfl, rfl⟩
  case round =>
    obtain ⟨j, hj, rfl, hb, rfl⟩ := hrel
    have HB := Lib.hid hb
    clear hb
    by_cases hlt : j < N
    · have hjl : j < ws.length := by have := HN.out; omega
      obtain ⟨g, off, rfl, hcx⟩ := HAT.out j hjl
      have HS := Lib.hid (List.take_succ_eq_append_getElem hjl)
      have HM := Lib.hid (List.getElem_mem hjl)
      have HFC := Lib.hid (HF.out _ HM.out)
      generalize ws[j] = c at hcx HS HFC HM
      have HEN := he
      cases hb : B c with
      | true =>
        rw [hb] at HFC
        have HB1 := Lib.hid hb
        clear hb
        go_wp2_with fail
        refine HFC.out.mono ?_
        rintro e w2 ⟨rfl, rfl⟩
        go_wp2_with fail
        go_ret
        exact ⟨⟨_, rfl, by omega, by omega, by rw [List.any_eq_true.2 ⟨c, HM.out, HB1.out⟩]; exact decide_eq_true (by omega)⟩, rfl⟩
      | false =>
        rw [hb] at HFC
        have HB1 := Lib.hid hb
        clear hb
        go_wp2_with fail
        refine HFC.out.mono ?_
        rintro e w2 ⟨rfl, rfl⟩
        go_wp2_with fail
        go_roundw
        case rel => exact ⟨j + 1, by omega, by go_num, by rw [HS.out, List.any_append, HB.out]; simp [HB1.out], trivial⟩
        case measure => simp [intOf]; omega
    · have HNO := Lib.hid (show ws.any B = false by have h := HB.out; rwa [List.take_of_length_le (by have := HN.out; omega)] at h)
      go_wp2_with fail
      go_ret
      exact ⟨⟨-1, rfl, by omega, by omega, by rw [HNO.out]; decide⟩, rfl⟩

set_option maxRecDepth 100000 in
theorem containsFunc10_any (G : Nat) (B : T8 → Bool) (u : Value) (ws : List T8) (w : World) (hu : RdV w u (ws.map tv)) (he : ∀ args w, (callFunc G args).run Try.prog w = .ok (.enter G args) w)
    (hf : ∀ t, t ∈ ws → Calls Try.prog G #[.string ⟨t.toArray⟩] w fun e w' => e = .returned (.bool (B t)) ∧ w = w') :
    Calls Try.prog 30 #[u, .func (.func G) #[] #[]] w fun e w' => e = .returned (.bool (ws.any B)) ∧ w = w' := by
  have HI := Lib.hid (indexFunc10_any G B u ws w hu he hf)
  clear hf
  go_enter Try.func30, Try.ntmps30
  go_wp2_with fail
  refine HI.out.mono ?_
  rintro e w2 ⟨⟨k, rfl, hk1, hk2, hk⟩, rfl⟩
  go_wp2_with fail
  go_ret
  exact ⟨by rw [← hk]; rfl, rfl⟩

theorem enters_tooLong10 : ∀ args w, (callFunc 31 args).run Try.prog w = .ok (.enter 31 args) w := enters_of Try.func31 (by kernel_rfl) rfl

/-- Is any too long? -/
theorem anyLong10_any (u : Value) (ws : List T8) (w : World) (hu : RdV w u (ws.map tv)) (hf : ∀ t ∈ ws, t.length ≤ 4611686018427387904) :
    Calls Try.prog 30 #[u, .func (.func 31) #[] #[]] w fun e w' => e = .returned (.bool (ws.any longT)) ∧ w = w' :=
  containsFunc10_any _ longT u ws w hu enters_tooLong10 (fun t ht => tooLong10_any t w (hf t ht))

end Go.Proofs.Ytcaidgdnneomaaa
