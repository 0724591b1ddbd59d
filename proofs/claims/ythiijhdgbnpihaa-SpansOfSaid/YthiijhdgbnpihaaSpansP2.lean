/-
  The program's spans: List, Count.
-/
import Derived.Test.YthiijhdgbnpihaaSpansP1
import Derived.Test.YthiijhdgbnpihaaSpansBothR
import Derived.Test.YthiijhdgbnpihaaApart
namespace Go.Proofs.Ythiijhdgbnpihaa
open Go.RowKit Go.BigFrame

/-! ### Spans one after another -/

/-- From T on the places are those of the rest. -/
structure SpAt (l rest : List Sp) (T : Nat) : Prop where
  top : T ≤ 4096
  right : rightFrom T rest
  mem : ∀ k : Int, (T : Int) ≤ k → inB l k = inB rest k
theorem SpAt.start {l : List Sp} (h : rightFrom 0 l) : SpAt l l 0 := ⟨Nat.zero_le _, h, fun _ _ => rfl⟩
theorem inB_below {lo : Int} {l : List Sp} (h : rightFrom lo l) {k : Int} (hk : k < lo) : inB l k = false := by
  cases hb : inB l k with
  | false => rfl
  | true => have := inB_lo h hb; omega
theorem SpAt.step {l rest : List Sp} {s : Sp} {T : Nat} (h : SpAt l (s :: rest) T) : ∃ F C : Nat, s = ⟨F, C⟩ ∧ T ≤ F ∧ F < C ∧ C ≤ 4096 ∧ SpAt l rest C ∧ (∀ m : Nat, F ≤ m → m < C → inB l m = true) ∧ ∀ m : Nat, T ≤ m → m < F → inB l m = false := by
  obtain ⟨h1, ⟨h2, h3, h4, h5⟩, h6⟩ := h
  obtain ⟨f, t⟩ := s
  simp only at h2 h3 h4 h5
  obtain ⟨F, rfl⟩ := Int.eq_ofNat_of_zero_le (show 0 ≤ f by omega)
  obtain ⟨C, rfl⟩ := Int.eq_ofNat_of_zero_le (show 0 ≤ t by omega)
  refine ⟨F, C, rfl, by omega, by omega, by omega, ⟨by omega, rightFrom_mono (by omega) h5, fun k hk => ?_⟩, fun m h7 h8 => ?_, fun m h7 h8 => ?_⟩
  · rw [h6 k (by omega)]
    unfold inB
    rw [List.any_cons, decide_eq_false (show ¬ k < (C : Int) by omega), Bool.and_false, Bool.false_or]
  · rw [h6 m (by omega)]
    exact inB_cons.2 (.inl ⟨by simp only; omega, by simp only; omega⟩)
  · rw [h6 m (by omega)]
    cases hb : inB (⟨F, C⟩ :: rest) m with
    | false => rfl
    | true =>
      exfalso
      rcases inB_cons.1 hb with ⟨h9, _⟩ | h9
      · simp only at h9; omega
      · have := inB_lo h5 h9
        omega
theorem placesTo_skip {f : Int → Bool} {a b : Nat} (hab : a ≤ b) (h : ∀ m : Nat, a ≤ m → m < b → f m = false) : placesTo f b = placesTo f a := by
  induction b with
  | zero => rw [show a = 0 by omega]
  | succ b ih =>
    by_cases e : a = b + 1
    · rw [e]
    · rw [placesTo_succ, h b (by omega) (by omega), if_neg (by decide)]
      exact ih (by omega) fun m h1 h2 => h m h1 (by omega)
theorem placesTo_fill {f : Int → Bool} {a b : Nat} (hab : a ≤ b) (h : ∀ m : Nat, a ≤ m → m < b → f m = true) : (placesTo f b).length = (placesTo f a).length + (b - a) := by
  induction b with
  | zero => rw [show a = 0 by omega]; omega
  | succ b ih =>
    by_cases e : a = b + 1
    · rw [e]; omega
    · rw [placesTo_succ, if_pos (h b (by omega) (by omega)), List.length_append, ih (by omega) fun m h1 h2 => h m h1 (by omega), List.length_singleton]
      omega
theorem SpAt.done {l : List Sp} {T : Nat} (h : SpAt l [] T) : placesTo (inB l) 4096 = placesTo (inB l) T :=
  placesTo_skip h.top fun m h1 _ => by rw [h.mem m (by omega)]; rfl
theorem listS_to {l : List Sp} (h : rightSp l = true) : listS l = placesTo (inB l) 4096 := by
  rw [listS_eq]
  congr 1
  funext k
  rw [h, Bool.true_and]
theorem listS_wrong {l : List Sp} (h : rightSp l = false) : listS l = [] := by
  unfold listS
  rw [if_neg (by rw [h]; decide)]

set_option maxRecDepth 100000 in
set_option maxHeartbeats 1000000 in
theorem pCountSp_any (u : Value) (l : List Sp) (w : World) (hu : InSp w u l) :
    Calls Try.prog 19 #[u] w fun e w' => e = .returned (.int .i64 (listS l).length) ∧ Ext w w' := by
  have HR := Lib.hid (pRightRd_any u l w hu.rd)
  obtain ⟨ao, cap, rfl, h1, h2, hat, -⟩ := hu.rd
  have HAT := Lib.hid hat
  obtain ⟨N, hN⟩ : ∃ N, l.length = N := ⟨_, rfl⟩
  have HN := Lib.hid hN
  unfold maxLen at h2
  rw [hN] at h1 HR ⊢
  clear hat hN hu
  cases hb : rightSp l with
  | false =>
    rw [hb] at HR
    have HL := Lib.hid (listS_wrong hb)
    clear hb
    go_enter Try.func19, Try.ntmps19
    go_wp2_with fail
    refine HR.out.mono ?_
    rintro e w1 ⟨rfl, hx1⟩
    have HX1 := Lib.hid hx1
    clear hx1
    go_wp2_with fail
    go_ret
    exact ⟨by rw [HL.out]; rfl, HX1.out⟩
  | true =>
    rw [hb] at HR
    have HL := Lib.hid (listS_to hb)
    have HST := Lib.hid (SpAt.start (of_decide_eq_true hb))
    clear hb
    go_enter Try.func19, Try.ntmps19
    go_wp2_with fail
    refine HR.out.mono ?_
    rintro e w1 ⟨rfl, hx1⟩
    have HX1 := Lib.hid hx1
    clear hx1
    go_wp2_with fail
    go_loopw [3, 11] (fun s i wr => ∃ j T : Nat, j ≤ N ∧ i = .int .i64 j ∧ s = .int .i64 (placesTo (inB l) T).length ∧ SpAt l (l.drop j) T ∧ Ext w wr) (fun _ i _ => N - (intOf i).toNat)
    case atStart => exact ⟨0, 0, Nat.zero_le _, rfl, rfl, HST.out, HX1.out⟩
    case round =>
      obtain ⟨j, T, hj, rfl, rfl, hat, hx⟩ := hrel
      have HA := Lib.hid hat
      have HX := Lib.hid hx
      clear hat hx
      by_cases hlt : j < N
      · have hjl : j < l.length := by have := HN.out; omega
        obtain ⟨g, off, rfl, hx0, hx1⟩ := HAT.out j hjl
        have hz0 := (HX.out.cell (lt_of_cell hx0)).trans hx0
        have hz1 := (HX.out.cell (lt_of_cell hx1)).trans hx1
        have hstep := HA.out
        rw [List.drop_eq_getElem_cons hjl] at hstep
        obtain ⟨F, C, he, h3, h4, h5, h6, h7, h8⟩ := hstep.step
        rw [he] at hz0 hz1
        simp only at hz0 hz1
        have HNX := Lib.hid h6
        have HLEN := Lib.hid (show (placesTo (inB l) C).length = (placesTo (inB l) T).length + (C - F) by rw [placesTo_fill (Nat.le_of_lt h4) h7, placesTo_skip h3 h8])
        have HLT := Lib.hid (placesTo_len (inB l) T)
        have HAL := Lib.hid (ext_new wr (.cells #[.int .i64 F, .int .i64 C] 39))
        generalize (placesTo (inB l) T).length = S at HLEN HLT ⊢
        clear hx0 hx1 hstep he h6 h7 h8 hjl
        have hs4 : S ≤ 4096 := by have := HLT.out; omega
        go_wp2_with fail
        go_roundw
        case rel => exact ⟨j + 1, C, by omega, by go_num, by rw [HLEN.out]; congr 1; omega, HNX.out, Ext.trans HX.out HAL.out⟩
        case measure => simp [intOf]; omega
      · have HE := Lib.hid (show placesTo (inB l) 4096 = placesTo (inB l) T by have h := HA.out; rw [List.drop_eq_nil_of_le (by have := HN.out; omega)] at h; exact h.done)
        go_wp2_with fail
        go_ret
        exact ⟨by rw [HL.out, HE.out]; rfl, HX.out⟩

end Go.Proofs.Ythiijhdgbnpihaa
