/-
  The contract of the document's own Fixed.
-/
import Derived.Test.YtmlaedhmgkcdpaaDoorLikeRef2
namespace Go.Proofs.YtmlaedhmgkcdpaaDoor
open Go.RowKit

theorem flat_at (ps : List El) (j f : Nat) (hj : j < ps.length) (hf : f < 3) : (ps.flatMap elC)[j * 3 + f]? = (elC ps[j])[f]? := by
  induction ps generalizing j with
  | nil => simp at hj
  | cons e t ih =>
    have he : (elC e).length = 3 := by cases e <;> rfl
    rw [List.flatMap_cons]
    cases j with
    | zero => rw [List.getElem?_append_left (by omega), Nat.zero_mul, Nat.zero_add]; rfl
    | succ j =>
      rw [List.getElem?_append_right (by omega), he, show (j + 1) * 3 + f - 3 = j * 3 + f by omega]
      exact ih j (by simpa using hj)

set_option maxRecDepth 100000 in
set_option maxHeartbeats 1000000 in
theorem refFixed_any (l : List UInt8) (w : World) (hT : Tabs w) (hl : l.length ≤ 5000) :
    Calls Tryd.prog 20 #[sv l] w fun e w' => e = .returned (.tuple #[sv (fixS l), .bool (fixB l), .int .i64 (errN l)]) ∧ Ext w w' := by
  have HP := Lib.hid (refParts_any l w hT hl)
  have HLL := Lib.hid (lets_length l)
  have HL := Lib.hid hl
  generalize hS : fixS l = S
  generalize hB : fixB l = B
  generalize hE : errN l = E
  have HS := Lib.hid hS
  have HB := Lib.hid hB
  have HE := Lib.hid hE
  clear hT hl hE hS hB
  unfold sv at HP ⊢
  go_enter Tryd.func20, Tryd.ntmps20
  go_wp2_with fail
  refine HP.out.mono ?_
  rintro e w1 ⟨⟨ps, v, h, rfl, hown⟩ | ⟨h, rfl⟩, hb⟩
  · have H := Lib.hid h
    have HBE := Lib.hid hb
    have hel := els_len _ _ _ (Nat.le_refl _) h
    have HPL := Lib.hid (show ps.length ≤ 5000 by have := HLL.out; have := HL.out; omega)
    have HC4 := Lib.hid (show ∀ c, El.lit c ∈ ps → c.length ≤ 4 from fun c hc => by have h := lets_letters l c (hel.2 c hc); rw [← h.2]; exact (wid_bounds c h.1).2.2)
    have HOWN := Lib.hid hown
    obtain ⟨ao, cp, rfl⟩ : ∃ ao cp, v = .slice ao ps.length cp := by
      rcases hown.2 with ⟨h1, h2⟩ | ⟨g, cap, cur, h1, _⟩
      · exact ⟨none, 0, by rw [h1, h2]⟩
      · exact ⟨_, _, h1⟩
    clear h hb hel hown
    go_wp2_with fail
    go_loop [7, 8] (fun s i => ∃ (j : Nat) (pre : List UInt8), j ≤ ps.length ∧ i = .int .i64 j ∧ s = sv pre ∧ pre.length ≤ 4 * j ∧ fixedE ps = (pre ++ (fixedE (ps.drop j)).1, (fixedE (ps.drop j)).2)) (fun _ i => ps.length - (intOf i).toNat)
    case atStart => exact ⟨0, [], Nat.zero_le _, rfl, rfl, Nat.le_refl _, rfl⟩
    case round =>
      obtain ⟨j, pre, hj, rfl, rfl, hpl, hfix⟩ := hrel
      have HFIX := Lib.hid hfix
      clear hfix
      have hpl2 : pre.length ≤ 20000 := by have := HPL.out; omega
      have hps : ps.length ≤ 5000 := HPL.out
      by_cases hlt : j < ps.length
      · obtain ⟨x, rfl⟩ : ∃ x, ao = some x := by
          rcases HOWN.out.2 with ⟨_, h2⟩ | ⟨g, cap, cur, h1, _⟩
          · omega
          · simp only [Value.slice.injEq] at h1
            exact ⟨_, h1.1⟩
        obtain ⟨g, rfl, _, hg⟩ := own_addr HOWN.out
        have hcell : ∀ f, f < 3 → w1.cell? ⟨g, j * 3 + f, none⟩ = (elC ps[j])[f]? := fun f hf => by
          rw [HOWN.out.cellAt _ (by omega), flat_at ps j f hlt hf]
        have HDR := Lib.hid (List.drop_eq_getElem_cons hlt)
        have HMEM := Lib.hid (List.getElem_mem hlt)
        generalize ps[j] = el at hcell HDR HMEM
        have hc0 := hcell 0 (by decide)
        have hc1 := hcell 1 (by decide)
        have hc2 := hcell 2 (by decide)
        rw [Nat.add_zero] at hc0
        clear hcell
        unfold sv
        cases el with
        | any =>
          simp only [elC, List.getElem?_cons_zero, List.getElem?_cons_succ] at hc0 hc1 hc2
          go_wp2_with fail
          refine bodyPost_ret (v := .tuple #[.string ⟨pre.toArray⟩, .bool false, .int .i64 0]) (by simp [results, Tryd.results20, go_sem]) rfl ⟨?_, HBE.out⟩
          have hf := HFIX.out
          rw [HDR.out] at hf
          rw [← HS.out, ← HB.out, ← HE.out, (fix_some H.out).1, (fix_some H.out).2, errN_some H.out, hf]
          simp [fixedE]
        | one =>
          simp only [elC, List.getElem?_cons_zero, List.getElem?_cons_succ] at hc0 hc1 hc2
          go_wp2_with fail
          refine bodyPost_ret (v := .tuple #[.string ⟨pre.toArray⟩, .bool false, .int .i64 0]) (by simp [results, Tryd.results20, go_sem]) rfl ⟨?_, HBE.out⟩
          have hf := HFIX.out
          rw [HDR.out] at hf
          rw [← HS.out, ← HB.out, ← HE.out, (fix_some H.out).1, (fix_some H.out).2, errN_some H.out, hf]
          simp [fixedE]
        | lit c =>
          simp only [elC, List.getElem?_cons_zero, List.getElem?_cons_succ] at hc0 hc1 hc2
          have hc4 := HC4.out c HMEM.out
          unfold sv at hc2
          go_wp2_with fail
          go_round
          case rel =>
            refine ⟨j + 1, pre ++ c, by omega, by go_num, by rw [sv_append], by rw [List.length_append]; omega, ?_⟩
            rw [HFIX.out, HDR.out]
            simp [fixedE]
          case measure => simp [intOf]; omega
      · have hjN : j = ps.length := by omega
        have HDN := Lib.hid (show ps.drop j = [] from List.drop_eq_nil_of_le (by omega))
        subst hjN
        unfold sv
        go_wp2_with fail
        refine bodyPost_ret (v := .tuple #[.string ⟨pre.toArray⟩, .bool true, .int .i64 0]) (by simp [results, Tryd.results20, go_sem]) rfl ⟨?_, HBE.out⟩
        have hf := HFIX.out
        rw [HDN.out] at hf
        rw [← HS.out, ← HB.out, ← HE.out, (fix_some H.out).1, (fix_some H.out).2, errN_some H.out, hf]
        simp [fixedE]
  · have H := Lib.hid h
    have HBE := Lib.hid hb
    clear h hb
    go_wp2_with fail
    refine bodyPost_ret (v := .tuple #[.string ⟨#[]⟩, .bool false, .int .i64 30]) (by simp [results, Tryd.results20, go_sem]) rfl ⟨?_, HBE.out⟩
    rw [← HS.out, ← HB.out, ← HE.out, (fix_none H.out).1, (fix_none H.out).2, errN_none H.out]

end Go.Proofs.YtmlaedhmgkcdpaaDoor
