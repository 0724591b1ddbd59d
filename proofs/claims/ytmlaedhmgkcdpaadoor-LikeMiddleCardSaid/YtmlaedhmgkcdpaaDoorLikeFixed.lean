/-
  The program's Fixed.
-/
import Derived.Test.YtmlaedhmgkcdpaaDoorLikeElem
namespace Go.Proofs.YtmlaedhmgkcdpaaDoor
open Go.RowKit

set_option maxRecDepth 100000 in
set_option maxHeartbeats 1000000 in
theorem Fixed_any (l : List UInt8) (w : World) (hT : Tabs w) (hl : l.length ≤ 5000) :
    Calls Tryd.prog 19 #[sv l] w fun e w' => e = .returned (.tuple #[sv (fixS l), .bool (fixB l), .int .i64 (errN l)]) ∧ Ext w w' := by
  have HP := Lib.hid (elements_any l w hT hl)
  have HLL := Lib.hid (lets_length l)
  have HL := Lib.hid hl
  generalize hS : fixS l = S
  generalize hB : fixB l = B
  generalize hE : errN l = E
  have HS := Lib.hid hS
  have HB := Lib.hid hB
  have HE := Lib.hid hE
  clear hT hl hE hS hB
  unfold sv at HP ⊢
  go_enter Tryd.func19, Tryd.ntmps19
  go_wp2_with fail
  refine HP.out.mono ?_
  rintro e w1 ⟨⟨ps, v, h, rfl, hown⟩ | ⟨h, rfl⟩, hb⟩
  · have H := Lib.hid h
    have HBE := Lib.hid hb
    have hel := els_len _ _ _ (Nat.le_refl _) h
    have HPL := Lib.hid (show ps.length ≤ 5000 by have := HLL.out; have := HL.out; omega)
    have HC4 := Lib.hid (show ∀ c, El.lit c ∈ ps → c.length ≤ 4 from fun c hc => by have h := lets_letters l c (hel.2 c hc); rw [← h.2]; exact (wid_bounds c h.1).2.2)
    have HOWN := Lib.hid hown
    obtain ⟨ao, cp, rfl⟩ : ∃ ao cp, v = .slice ao ps.length cp := by
      rcases hown.2 with ⟨h1, h2⟩ | ⟨g, cap, cur, h1, _⟩
      · exact ⟨none, 0, by rw [h1, h2]⟩
      · exact ⟨_, _, h1⟩
    clear h hb hel hown
    go_wp2_with fail
    go_loopw [9, 20] (fun _ i wr => ∃ (j : Nat) (pre : List UInt8), j ≤ ps.length ∧ i = .int .i64 j ∧ pre.length ≤ 4 * j ∧ fixedE ps = (pre ++ (fixedE (ps.drop j)).1, (fixedE (ps.drop j)).2) ∧ Bld w1.heap.size w1.heap.size pre wr ∧ Below w1.heap.size w1 wr) (fun _ i _ => ps.length - (intOf i).toNat)
    case atStart => exact ⟨0, [], Nat.zero_le _, rfl, Nat.le_refl _, rfl, bldFresh _, (Below.refl _ _).alloc (Nat.le_refl _) _⟩
    case round =>
      obtain ⟨j, pre, hj, rfl, hpl, hfix, hbld, hbel⟩ := hrel
      have HFIX := Lib.hid hfix
      have HBLD := Lib.hid hbld
      have HBEL := Lib.hid hbel
      have hsz := hbel.size
      clear hfix hbld hbel
      have hpl2 : pre.length ≤ 20000 := by have := HPL.out; omega
      have hps : ps.length ≤ 5000 := HPL.out
      by_cases hlt : j < ps.length
      · obtain ⟨x, rfl⟩ : ∃ x, ao = some x := by
          rcases HOWN.out.2 with ⟨_, h2⟩ | ⟨g, cap, cur, h1, _⟩
          · omega
          · simp only [Value.slice.injEq] at h1
            exact ⟨_, h1.1⟩
        obtain ⟨g, rfl, _, hg⟩ := own_addr HOWN.out
        have hcell : ∀ f, f < 2 → wr.cell? ⟨g, j * 2 + f, none⟩ = (pC ps[j])[f]? := fun f hf => by
          have h1 : w1.cell? ⟨g, j * 2 + f, none⟩ = (pC ps[j])[f]? := by rw [HOWN.out.cellAt _ (by omega), pC_at ps j f hlt hf]
          rw [← h1]
          exact HBEL.out.cell (p := ⟨g, j * 2 + f, none⟩) hg
        have HDR := Lib.hid (List.drop_eq_getElem_cons hlt)
        have HMEM := Lib.hid (List.getElem_mem hlt)
        generalize ps[j] = el at hcell HDR HMEM
        have hc0 := hcell 0 (by decide)
        have hc1 := hcell 1 (by decide)
        rw [Nat.add_zero] at hc0
        clear hcell
        cases el with
        | any =>
          simp only [pC, List.getElem?_cons_zero, List.getElem?_cons_succ] at hc0 hc1
          go_wp2_with fail
          refine (bldString _ _ _ _ (Lib.IsBuilderF.alloc HBLD.out _) (by simp; omega)).mono ?_
          rintro e w4 ⟨rfl, _, hbe4, _⟩
          have HBE4 := Lib.hid (show Ext w w4 from Ext.trans HBE.out ((HBEL.out.alloc hsz _).trans hbe4))
          clear hbe4
          go_wp2_with fail
          refine bodyPost_ret (v := .tuple #[.string ⟨pre.toArray⟩, .bool false, .int .i64 0]) (by simp [results, Tryd.results19, go_sem]) rfl ⟨?_, HBE4.out⟩
          have hf := HFIX.out
          rw [HDR.out] at hf
          rw [← HS.out, ← HB.out, ← HE.out, (fix_some H.out).1, (fix_some H.out).2, errN_some H.out, hf]
          simp [fixedE]
        | one =>
          simp only [pC, List.getElem?_cons_zero, List.getElem?_cons_succ] at hc0 hc1
          go_wp2_with fail
          refine (bldString _ _ _ _ (Lib.IsBuilderF.alloc HBLD.out _) (by simp; omega)).mono ?_
          rintro e w4 ⟨rfl, _, hbe4, _⟩
          have HBE4 := Lib.hid (show Ext w w4 from Ext.trans HBE.out ((HBEL.out.alloc hsz _).trans hbe4))
          clear hbe4
          go_wp2_with fail
          refine bodyPost_ret (v := .tuple #[.string ⟨pre.toArray⟩, .bool false, .int .i64 0]) (by simp [results, Tryd.results19, go_sem]) rfl ⟨?_, HBE4.out⟩
          have hf := HFIX.out
          rw [HDR.out] at hf
          rw [← HS.out, ← HB.out, ← HE.out, (fix_some H.out).1, (fix_some H.out).2, errN_some H.out, hf]
          simp [fixedE]
        | lit c =>
          simp only [pC, List.getElem?_cons_zero, List.getElem?_cons_succ] at hc0 hc1
          have hc4 := HC4.out c HMEM.out
          unfold sv at hc1
          go_wp2_with fail
          refine (bldWriteString _ _ pre c _ (Lib.IsBuilderF.alloc HBLD.out _) (by omega) (by simp; omega)).mono ?_
          rintro e w3 ⟨⟨n3, rfl⟩, hb3, hbe3, _⟩
          have HB3 := Lib.hid hb3
          have HBE3 := Lib.hid ((HBEL.out.alloc hsz _).trans hbe3)
          clear hb3 hbe3
          go_wp2_with fail
          go_roundw
          case rel =>
            refine ⟨j + 1, pre ++ c, by omega, by go_num, by rw [List.length_append]; omega, ?_, HB3.out, HBE3.out⟩
            rw [HFIX.out, HDR.out]
            simp [fixedE]
          case measure => simp [intOf]; omega
      · have hjN : j = ps.length := by omega
        have HDN := Lib.hid (show ps.drop j = [] from List.drop_eq_nil_of_le (by omega))
        subst hjN
        go_wp2_with fail
        refine (bldString _ _ _ _ HBLD.out hsz).mono ?_
        rintro e w4 ⟨rfl, _, hbe4, _⟩
        have HBE4 := Lib.hid (show Ext w w4 from Ext.trans HBE.out (HBEL.out.trans hbe4))
        clear hbe4
        go_wp2_with fail
        refine bodyPost_ret (v := .tuple #[.string ⟨pre.toArray⟩, .bool true, .int .i64 0]) (by simp [results, Tryd.results19, go_sem]) rfl ⟨?_, HBE4.out⟩
        have hf := HFIX.out
        rw [HDN.out] at hf
        rw [← HS.out, ← HB.out, ← HE.out, (fix_some H.out).1, (fix_some H.out).2, errN_some H.out, hf]
        simp [fixedE]
  · have H := Lib.hid h
    have HBE := Lib.hid hb
    clear h hb
    go_wp2_with fail
    refine bodyPost_ret (v := .tuple #[.string ⟨#[]⟩, .bool false, .int .i64 30]) (by simp [results, Tryd.results19, go_sem]) rfl ⟨?_, HBE.out⟩
    rw [← HS.out, ← HB.out, ← HE.out, (fix_none H.out).1, (fix_none H.out).2, errN_none H.out]

end Go.Proofs.YtmlaedhmgkcdpaaDoor
