/-
  The program's contract of layer 5: Put.
-/
import Derived.Test.YthelgjoobckbaaaPagesPuts
namespace Go.Proofs.Ythelgjoobckbaaa
open Go.RowKit Go.BigFrame

variable {O : Nat → Prop} {p : Nat} {s : St} {w : World}

set_option maxRecDepth 100000 in
set_option maxHeartbeats 1000000 in
theorem pPut_any (b : Value) (l : List UInt8) (h : PSto O w p s) (hok : okS s) (hr : Rd w b l) (hb : l ≠ [] → ∀ k, b.ownBlock = some k → ¬ O k) (hl : l.length ≤ 1000000) :
    Calls Try.prog 20 #[.pointer (some ⟨p, 0, none⟩), b] w fun e w' => ∃ v, e = .returned (.tuple #[v, .int .i64 (putS s l).1.2]) ∧ w'.ownsRow w.heap.size 3 1 v (putS s l).1.1.length ((putS s l).1.1.map iv) ∧ PStep O w p (putS s l).2 w' v := by
  obtain ⟨ab, cb, rfl, hcb1, hcb2⟩ := hr.shape
  have HP := Lib.hid h
  have HRD := Lib.hid hr
  have HBO := Lib.hid hb
  have HND := Lib.hid (pNeed_any (w := w) (l.length : Int) (by omega))
  have hnb : 0 ≤ needS (l.length : Int) ∧ needS (l.length : Int) ≤ 20000 := by unfold needS; split <;> omega
  have HAL := Lib.hid (fun W (hx : Ext w W) => pAlloc_any (w := W) (needS l.length) (h.mono hx) hok (by omega))
  unfold maxLen at hcb2
  by_cases he : (allocS s (needS l.length)).1.2 = 0
  · have hput : putS s l = (((allocS s (needS l.length)).1.1, 0), writesS (allocS s (needS l.length)).1.1 l (allocS s (needS l.length)).2) := by unfold putS; rw [if_pos he]
    have HPT := Lib.hid hput
    have hfit : ¬ needS (l.length : Int) < 0 ∧ ¬ (s.length : Int) - usedS s < needS (l.length : Int) := by
      unfold allocS at he
      split at he
      · cases he
      · split at he
        · cases he
        · exact ⟨by assumption, by assumption⟩
    have hal := allocS_fits (s := s) (needS (l.length : Int)) hfit.1 hfit.2
    obtain ⟨n, hn⟩ : ∃ n : Nat, needS (l.length : Int) = n := ⟨(needS (l.length : Int)).toNat, by omega⟩
    have hokA := allocS_ok hok (needS (l.length : Int))
    rw [hal] at HPT hokA HAL
    simp only [hn, Int.toNat_natCast] at HPT hokA HAL hfit hnb
    have hcount := takeS_count n 0 s (by have : usedS s ≤ s.length := List.countP_le_length; omega)
    have hhas : ∀ id ∈ (takeS 0 n s).1, ∃ p, (takeS 0 n s).2[id]? = some (some p) := fun id hid => by
      have := (takeS_has n 0 s id hid).2
      rwa [Nat.sub_zero] at this
    generalize hI : (takeS 0 n s).1 = I at HPT HAL hcount hhas
    generalize (takeS 0 n s).2 = S1 at HPT HAL hokA hhas
    have HOK := Lib.hid hokA
    have HHAS := Lib.hid hhas
    have HCN := Lib.hid hcount
    have HNN := Lib.hid (show needS (l.length : Int) = n from hn)
    have hnb2 : n ≤ 20000 := by omega
    rw [hn] at HND
    obtain ⟨N, hN⟩ : ∃ N, l.length = N := ⟨_, rfl⟩
    have HLN := Lib.hid hN
    rw [hN] at HND hcb1 hl HRD HBO ⊢
    clear hput he hal hI hokA hhas hcount hfit hnb hn hN h hr hb
    go_enter Try.func20, Try.ntmps20
    go_wp2_with fail
    refine HND.out.mono ?_
    rintro e w1 ⟨rfl, hx1⟩
    have HX1 := Lib.hid hx1
    clear hx1
    go_wp2_with fail
    refine (HAL.out w1 HX1.out).mono ?_
    rintro e w2 ⟨v2, rfl, hown, hst⟩
    obtain ⟨O1, k1, k2, k3, -, -, k6⟩ := pchain (OnlyS.of_ext (X := O) HX1.out) (fun b hb => .inl hb) hst
    have hown := owns_base hown HX1.out.size
    obtain ⟨ai, capi, rfl, hci1, hci2⟩ := own_shape hown
    rw [HCN.out] at hci1 hown k6 ⊢
    unfold maxLen at hci2
    have HO2 := Lib.hid hown
    have HS2 := Lib.hid k1
    have HN2 := Lib.hid k2
    have HF2 := Lib.hid k3
    have HV2 := Lib.hid k6
    clear hown hst k1 k2 k3 k6
    go_wp2_with fail
    go_loopw [24] (fun i wr => ∃ (j : Nat) (S : St) (O' : Nat → Prop), j ≤ n ∧ i = .int .i64 j ∧ writesS I l S1 = writesS (I.drop j) (l.drop (j * 56)) S ∧ PSto O' wr p S ∧ okS S ∧ (∀ id ∈ I, ∃ p, S[id]? = some (some p)) ∧ OnlyS O1 w2 wr ∧ OnlyS O w wr ∧ (∀ b, O' b → O1 b ∨ w2.heap.size ≤ b)) (fun i _ => n - (intOf i).toNat)
    case atStart => exact ⟨0, S1, O1, Nat.zero_le _, rfl, by rw [Nat.zero_mul]; rfl, HS2.out, HOK.out, HHAS.out, OnlyS.refl _ _, HN2.out, fun b hb => .inl hb⟩
    case round =>
      obtain ⟨j, S, O', hj, rfl, hw, hs, hoks, hh, ho1, ho, hnew⟩ := hrel
      have HW := Lib.hid hw
      have HS := Lib.hid hs
      have HKS := Lib.hid hoks
      have HH := Lib.hid hh
      have HO1 := Lib.hid ho1
      have HO := Lib.hid ho
      have HNEW := Lib.hid hnew
      clear hw hs hoks hh ho1 ho hnew
      by_cases hlt : j < n
      · have hNj : j * 56 < N := by
          have h1 := HNN.out
          rw [HLN.out] at h1
          unfold needS at h1
          split at h1 <;> omega
        have hjI : j < I.length := by rw [HCN.out]; exact hlt
        have hcb0 := HRD.out
        rcases hcb0 with ⟨h0, h0'⟩ | ⟨x, cap', h3, h4, h5, h6⟩
        · exfalso
          have := HLN.out
          have h7 : l = [] := by simpa using h0'
          rw [h7] at this
          simp at this
          omega
        · simp only [Value.slice.injEq] at h3
          obtain ⟨rfl, -, rfl⟩ := h3
          have hl0 : 0 < l.length := by rw [HLN.out]; omega
          have hlne : l ≠ [] := by rintro rfl; simp at hl0
          obtain ⟨bb, off, rfl, hbw⟩ := plain_of (h6 0 (bv l[0]) (by rw [List.getElem?_map, List.getElem?_eq_getElem hl0]; rfl))
          clear h4 h5 h6
          have hbO : ¬ O bb := HBO.out hlne bb rfl
          have hbO' : ¬ O' bb := fun hh => by
            rcases HNEW.out bb hh with h | h
            · rcases HF2.out bb h with h | h
              · exact hbO h
              · omega
            · have := HN2.out.size
              omega
          have hrp : ∀ H, H = min 56 (N - j * 56) → Rd w (.slice (some ⟨bb, off + j * 56, none⟩) H (cb - j * 56)) ((l.drop (j * 56)).take 56) := fun H hH => by
            have := rd_part (lo := j * 56) (hi := j * 56 + H) HRD.out HLN.out.symm (by omega) (by omega)
            rw [show j * 56 + H - j * 56 = H by omega] at this
            have hpart : (l.drop (j * 56)).take H = (l.drop (j * 56)).take 56 := by
              by_cases h : H = 56
              · rw [h]
              · rw [List.take_of_length_le (by rw [List.length_drop, HLN.out]; omega), List.take_of_length_le (by rw [List.length_drop, HLN.out]; omega)]
            rw [hpart] at this
            exact this
          have hplen : ((l.drop (j * 56)).take 56).length ≤ 56 := by rw [List.length_take]; omega
          have hcapne : ¬ cb = j * 56 := by omega
          have hown := own_onlyS HO2.out HO1.out HV2.out
          obtain ⟨y, hy, hcy⟩ : ∃ y, ai = some y ∧ wr.cell? (y.add j) = some (iv I[j]) := by
            obtain ⟨ao, ca, h7, _, _, h8⟩ := RdV.cellsAt (RdV.of_owns hown)
            simp only [Value.slice.injEq] at h7
            obtain ⟨rfl, -, -⟩ := h7
            exact h8 j (iv I[j]) (by rw [List.getElem?_map, List.getElem?_eq_getElem hjI]; rfl)
          subst hy
          obtain ⟨p0, hp⟩ := HH.out I[j] (List.getElem_mem hjI)
          have HD := Lib.hid (show I.drop j = I[j] :: I.drop (j + 1) from List.drop_eq_getElem_cons hjI)
          have hIlt := (List.getElem?_eq_some_iff.1 hp).1
          generalize I[j] = k at hcy hp HD hIlt
          unfold iv at hcy
          have hkb := HKS.out.1
          have HPW := Lib.hid (show pageS S (k : Int) = some p0 from by unfold pageS; rw [if_pos (by omega), Int.toNat_natCast, hp]; rfl)
          have HWR := Lib.hid (fun H (hH : H = min 56 (N - j * 56)) => pWrite_any (w := wr) (k : Int) (.slice (some ⟨bb, off + j * 56, none⟩) H (cb - j * 56)) ((l.drop (j * 56)).take 56) HS.out HKS.out (by omega)
            (Rd.onlyS (hrp H hH) HO.out (fun _ k' hk' => by cases hk'; exact hbO)) (fun _ k' hk' => by cases hk'; exact hbO') (by omega))
          have hws : writeS S (k : Int) ((l.drop (j * 56)).take 56) = (0, S.set k (some (layP k ((l.drop (j * 56)).take 56)))) := by
            unfold writeS
            rw [HPW.out]
            simp only
            rw [if_neg (by omega)]
            rfl
          rw [hws] at HWR
          have HKS2 := Lib.hid (show okS (S.set k (some (layP k ((l.drop (j * 56)).take 56)))) from HKS.out.set k _ (fun q hq => by cases hq; exact layP_length k _ hplen))
          have HPP := Lib.hid hp
          clear hrp hplen hp hws hown hbO hbO' hlne
          go_wp2_with fail
          all_goals
            go_wp2_with fail
            refine (HWR.out _ (by omega)).mono ?_
            rintro e w3 ⟨rfl, hst⟩
            obtain ⟨O'', q1, q2, q3, q4, q5, -⟩ := pchain HO1.out HNEW.out hst
            have HS3 := Lib.hid q1
            have HO13 := Lib.hid q2
            have HNW3 := Lib.hid q3
            have HOO3 := Lib.hid (show OnlyS O w w3 from OnlyS.trans HO.out q5 (fun i hi hO => by
              rcases HNEW.out i hO with h | h
              · rcases HF2.out i h with h | h
                · exact h
                · omega
              · have := HN2.out.size
                omega))
            clear hst q1 q2 q3 q4 q5
            go_wp2_with fail
            go_roundw
            case rel =>
              refine ⟨j + 1, S.set k (some (layP k ((l.drop (j * 56)).take 56))), O'', by omega, by go_num, ?_, HS3.out, HKS2.out, fun id hid => ?_, HO13.out, HOO3.out, HNW3.out⟩
              · rw [HW.out, HD.out, Nat.succ_mul]
                show writesS (I.drop (j + 1)) ((l.drop (j * 56)).drop 56) _ = writesS (I.drop (j + 1)) (l.drop (j * 56 + 56)) _
                rw [List.drop_drop]
              · obtain ⟨p', hp'⟩ := HH.out id hid
                rw [List.getElem?_set]
                by_cases hki : k = id
                · rw [if_pos hki, if_pos hIlt]
                  exact ⟨_, rfl⟩
                · rw [if_neg hki]
                  exact ⟨p', hp'⟩
            case measure => simp [intOf]; omega
      · have hjn : j = n := by omega
        subst hjn
        have HF := Lib.hid (show (putS s l).1.1 = I ∧ (putS s l).1.2 = 0 ∧ (putS s l).2 = S from by
          rw [HPT.out]
          refine ⟨rfl, rfl, ?_⟩
          show writesS I l S1 = S
          rw [HW.out, List.drop_of_length_le (by rw [HCN.out]; exact Nat.le_refl _)]
          rfl)
        have HOW := Lib.hid (own_onlyS HO2.out HO1.out HV2.out)
        go_wp2_with fail
        go_ret2
        rw [HF.out.1, HF.out.2.1, HF.out.2.2, HCN.out]
        refine ⟨_, rfl, HOW.out, O', HS.out, HO.out, fun b hb => ?_, fun k hk hO => ?_⟩
        · rcases HNEW.out b hb with h | h
          · exact HF2.out b h
          · exact .inr (Nat.le_trans HN2.out.size h)
        · rcases HNEW.out k hO with h | h
          · exact HV2.out k hk h
          · have := (HO2.out.lt k hk).2
            omega
  · have hput : putS s l = (([], (allocS s (needS l.length)).1.2), s) := by unfold putS; rw [if_neg he]
    have hsame : (allocS s (needS l.length)).2 = s ∧ (allocS s (needS l.length)).1.1 = [] ∧ ((allocS s (needS l.length)).1.2 = 1 ∨ (allocS s (needS l.length)).1.2 = 4) := by
      unfold allocS at he ⊢
      split
      · exact ⟨rfl, rfl, .inl rfl⟩
      · rename_i h1
        rw [if_neg h1] at he
        split
        · exact ⟨rfl, rfl, .inr rfl⟩
        · rename_i h2
          rw [if_neg h2] at he
          exact absurd rfl he
    rw [hput]
    obtain ⟨hsm1, hsm2, hsm3⟩ := hsame
    rw [hsm1, hsm2] at HAL
    generalize (allocS s (needS l.length)).1.2 = E at HAL he hsm3 ⊢
    have hq0 : (E == 0) = false := beq_eq_false_iff_ne.2 he
    generalize needS (l.length : Int) = ND at HAL HND hnb
    generalize l.length = N at HND hcb1 hl
    clear h hok hr hb hput hsm1 hsm2 he HRD HBO
    go_enter Try.func20, Try.ntmps20
    go_wp2_with fail
    refine HND.out.mono ?_
    rintro e w1 ⟨rfl, hx1⟩
    have HX1 := Lib.hid hx1
    clear hx1
    go_wp2_with fail
    refine (HAL.out w1 HX1.out).mono ?_
    rintro e w2 ⟨v2, rfl, hown, hst⟩
    obtain ⟨O1, k1, k2, k3, -, -, -⟩ := pchain (OnlyS.of_ext (X := O) HX1.out) (fun b hb => .inl hb) hst
    have HK := Lib.hid (show PStep O w p s w2 (.slice none 0 0) from ⟨O1, k1, k2, k3, fun k hk => by cases hk⟩)
    clear hst hown k1 k2 k3
    go_wp2_with fail
    go_ret2
    exact ⟨_, rfl, World.ownsRow_nil _ _ _ _, HK.out⟩

end Go.Proofs.Ythelgjoobckbaaa
