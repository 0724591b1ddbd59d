/-
  The contracts of the document's own Check, Quote, Fixed.
-/
import Derived.Test.YtmlaedhmgkcdpaaDoorLikeParts0
namespace Go.Proofs.YtmlaedhmgkcdpaaDoor
open Go.RowKit

set_option maxRecDepth 100000 in
set_option maxHeartbeats 400000 in
theorem refCheck_any (l : List UInt8) (w : World) (hT : Tabs w) (hl : l.length ≤ 5000) :
    Calls Tryd.prog 14 #[sv l] w fun e w' => e = .returned (.int .i64 (errN l)) ∧ Ext w w' := by
  have HP := Lib.hid (refParts_any l w hT hl)
  generalize hE : errN l = E
  have HE := Lib.hid hE
  clear hT hl hE
  unfold sv at HP ⊢
  go_enter Tryd.func14, Tryd.ntmps14
  go_wp2_with fail
  refine HP.out.mono ?_
  rintro e w1 ⟨⟨ps, v, h, rfl, _⟩ | ⟨h, rfl⟩, hb⟩
  · have H := Lib.hid h
    have HB := Lib.hid hb
    clear h hb
    go_wp2_with fail
    go_ret
    exact ⟨by rw [← HE.out, errN_some H.out]; rfl, HB.out⟩
  · have H := Lib.hid h
    have HB := Lib.hid hb
    clear h hb
    go_wp2_with fail
    go_ret
    exact ⟨by rw [← HE.out, errN_none H.out]; rfl, HB.out⟩

set_option maxRecDepth 100000 in
set_option maxHeartbeats 1000000 in
theorem refQuote_any (l : List UInt8) (w : World) (hT : Tabs w) (hl : l.length ≤ 5000) :
    Calls Tryd.prog 16 #[sv l] w fun e w' => e = .returned (sv (quote l)) ∧ Ext w w' := by
  have HLT := Lib.hid (refLetters_any l w hT hl)
  obtain ⟨ls, hls⟩ : ∃ ls, ls = lets l := ⟨_, rfl⟩
  have HQ := Lib.hid (show quote l = ls.flatMap qc by rw [hls]; rfl)
  have HLE4 := Lib.hid (show ∀ c ∈ ls, c.length ≤ 4 from fun c hc => by have h := lets_letters l c (hls ▸ hc); rw [← h.2]; exact (wid_bounds c h.1).2.2)
  have HQL := Lib.hid (quote_len l)
  have HL := Lib.hid hl
  rw [← hls] at HLT
  clear hT hl hls
  unfold sv at HLT ⊢
  go_enter Tryd.func16, Tryd.ntmps16
  go_wp2_with fail
  refine HLT.out.mono ?_
  rintro e w1 ⟨lv, rfl, ho1, hb1⟩
  rw [List.length_map] at ho1
  have HB1 := Lib.hid hb1
  obtain ⟨ao, cp, rfl, hc1, hc2, hca⟩ := RdV.cellsAt (RdV.of_owns ho1)
  simp only [List.length_map] at *
  unfold maxLen at hc2
  have HCA := Lib.hid hca
  clear ho1 hb1 hca
  generalize hN : ls.length = N at *
  have HN := Lib.hid hN
  clear hN
  go_wp2_with fail
  go_loop [4, 5] (fun o i => ∃ j : Nat, j ≤ N ∧ i = .int .i64 j ∧ o = sv ((ls.take j).flatMap qc)) (fun _ i => N - (intOf i).toNat)
  case atStart => exact ⟨0, Nat.zero_le _, rfl, rfl⟩
  case round =>
    obtain ⟨j, hj, rfl, rfl⟩ := hrel
    have hle : ((ls.take j).flatMap qc).length ≤ 10000 := by
      have h1 : (ls.flatMap qc).length ≤ 10000 := by have := HQL.out; rw [HQ.out] at this; have := HL.out; omega
      have h2 : (ls.flatMap qc).length = ((ls.take j).flatMap qc).length + ((ls.drop j).flatMap qc).length := by
        rw [← List.length_append, ← List.flatMap_append, List.take_append_drop]
      omega
    by_cases hlt : j < N
    · have hjl : j < ls.length := by have := HN.out; omega
      obtain ⟨x, rfl, hcell⟩ := HCA.out j (sv ls[j]) (by rw [List.getElem?_map, List.getElem?_eq_getElem hjl]; rfl)
      have HTK := Lib.hid (show (ls.take (j + 1)).flatMap qc = (ls.take j).flatMap qc ++ qc ls[j] by
        rw [List.take_succ_eq_append_getElem hjl, List.flatMap_append]; simp)
      have hc4 := HLE4.out _ (List.getElem_mem hjl)
      generalize ls[j] = c at hcell HTK hc4
      generalize (ls.take j).flatMap qc = o at hle HTK ⊢
      unfold sv at hcell ⊢
      by_cases h37 : c = [37]
      · have HS := Lib.hid (show qc c = 92 :: c by unfold qc; rw [if_pos ((special_iff c).2 (by simp [h37]))])
        subst h37
        go_wp2_with fail
        go_round
        case rel => exact ⟨j + 1, by omega, by go_num, by rw [HTK.out, HS.out, sv_append, sv_append, List.append_assoc]; rfl⟩
        case measure => simp [intOf]; omega
      · by_cases h95 : c = [95]
        · have HS := Lib.hid (show qc c = 92 :: c by unfold qc; rw [if_pos ((special_iff c).2 (by simp [h95]))])
          subst h95
          go_wp2_with fail
          go_round
          case rel => exact ⟨j + 1, by omega, by go_num, by rw [HTK.out, HS.out, sv_append, sv_append, List.append_assoc]; rfl⟩
          case measure => simp [intOf]; omega
        · by_cases h92 : c = [92]
          · have HS := Lib.hid (show qc c = 92 :: c by unfold qc; rw [if_pos ((special_iff c).2 (by simp [h92]))])
            subst h92
            go_wp2_with fail
            go_round
            case rel => exact ⟨j + 1, by omega, by go_num, by rw [HTK.out, HS.out, sv_append, sv_append, List.append_assoc]; rfl⟩
            case measure => simp [intOf]; omega
          · have HS := Lib.hid (show qc c = c by unfold qc; rw [if_neg (by rw [special_iff]; rintro (h | h | h) <;> contradiction)])
            have q37 : (c == [37]) = false := beq_eq_false_iff_ne.2 h37
            have q95 : (c == [95]) = false := beq_eq_false_iff_ne.2 h95
            have q92 : (c == [92]) = false := beq_eq_false_iff_ne.2 h92
            clear h37 h95 h92
            go_wp2_with fail
            go_round
            case rel => exact ⟨j + 1, by omega, by go_num, by rw [HTK.out, HS.out, sv_append]⟩
            case measure => simp [intOf]; omega
    · have hjN : j = N := by omega
      subst hjN
      have HT := Lib.hid (show ls.take j = ls from List.take_of_length_le (by have := HN.out; omega))
      unfold sv
      go_wp2_with fail
      go_ret
      exact ⟨by rw [HQ.out]; rw [HT.out]; rfl, HB1.out⟩

end Go.Proofs.YtmlaedhmgkcdpaaDoor
