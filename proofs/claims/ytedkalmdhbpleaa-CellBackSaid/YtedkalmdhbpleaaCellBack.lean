/-
  The walk of the law CellBack.
-/
import Derived.Test.YtedkalmdhbpleaaCellSaysB
import Derived.Test.YtedkalmdhbpleaaCellBoxes
namespace Go.Proofs.Ytedkalmdhbpleaa
open Go.RowKit Go.BigFrame

/-- The bytes of values. -/
def bytesV (vs : List V) : List UInt8 := vs.flatMap encV
theorem bytesV_le (vs : List V) : (bytesV vs).length ≤ vs.length * 2000 := by
  unfold bytesV
  induction vs with
  | nil => simp
  | cons v t ih =>
    have := encV_le v
    rw [List.flatMap_cons, List.length_append, List.length_cons]
    omega

set_option maxRecDepth 100000 in
set_option maxHeartbeats 2000000 in
theorem cellBack_walk (u : Value) (vs : List V) (w : World) (hu : RdVals w u vs) (hf : ∀ v ∈ vs, v.fits ∧ v.s.length ≤ maxLen) :
    Calls Try.prog 9 #[u] w fun e w' => e = .returned (.bool true) ∧ Below w.heap.size w w' := by
  obtain ⟨ao, cap, rfl, hc1, hc2, hcells⟩ := hu
  unfold maxLen at hc2
  have HC := Lib.hid hcells
  have HF := Lib.hid hf
  obtain ⟨N, hN⟩ : ∃ N, vs.length = N := ⟨_, rfl⟩
  have HN := Lib.hid hN
  rw [hN] at hc1 ⊢
  clear hcells hf hN
  go_enter Try.func9, Try.ntmps9
  go_wp2_with fail
  refine (shown_any _).mono ?_
  rintro e w1 ⟨rfl, hb⟩
  have HE1 := Lib.hid hb
  clear hb
  go_wp2_with fail
  go_loopw [4, 5, 16] (fun b n i wr => ∃ j : Nat, j ≤ N ∧ j ≤ 100 ∧ n = .int .i64 j ∧ i = .int .i64 j ∧ (∀ q, q < j → (hq : q < vs.length) → vs[q].s.length ≤ 3000) ∧ Rd wr b (bytesV (vs.take j)) ∧ Ext w wr) (fun _ _ i _ => N - (intOf i).toNat)
  case atStart => exact ⟨0, Nat.zero_le _, Nat.zero_le _, rfl, rfl, fun q hq => by omega, Rd.nil _, HE1.out⟩
  case round =>
    obtain ⟨j, hj, hj100, rfl, rfl, hsm, hrd, hext⟩ := hrel
    have HS := Lib.hid hsm
    clear hsm
    have HRD := Lib.hid hrd
    have HE := Lib.hid hext
    obtain ⟨bo, bc, rfl, hbc1, hbc2⟩ := hrd.shape
    clear hrd hext
    by_cases hlt : j < N
    · have hjl : j < vs.length := by have := HN.out; omega
      obtain ⟨g, off, rfl, hcell⟩ := HC.out j hjl
      have HK := Lib.hid (show ∀ i y, (vs[j].cells)[i]? = some y → wr.cell? ⟨g, off + j * 3 + i, none⟩ = some y from fun i y hy => by rw [HE.out.cell (lt_of_cell (hcell i y hy))]; exact hcell i y hy)
      have HV := Lib.hid (HF.out _ (List.getElem_mem hjl))
      have HT := Lib.hid (show bytesV (vs.take (j + 1)) = bytesV (vs.take j) ++ encV vs[j] by unfold bytesV; rw [List.take_succ_eq_append_getElem hjl, List.flatMap_append]; simp)
      clear hcell
      have HS' := Lib.hid (show vs[j].s.length ≤ 3000 → ∀ q, q < j + 1 → (hq : q < vs.length) → vs[q].s.length ≤ 3000 from fun h q hq hl => by
        by_cases e : q = j
        · subst e; exact h
        · exact HS.out q (by omega) hl)
      generalize vs[j] = v at HK HV HT HS'
      obtain ⟨k, n, s⟩ := v
      have hc0 := HK.out 0 _ rfl
      have hc1' := HK.out 1 _ rfl
      have hc2' := HK.out 2 _ rfl
      rw [Nat.add_zero] at hc0
      have hsl : s.length ≤ 9223372036854775807 := HV.out.2
      have hl := bytesV_le (vs.take j)
      rw [List.length_take] at hl
      have HL := Lib.hid (show (bytesV (vs.take j)).length ≤ 200000 by omega)
      clear hl
      by_cases h100 : 100 ≤ j
      · have HE0 := Lib.hid (show Ext w (wr.alloc (.cells #[.int .u8 k, .int .i64 n, .string ⟨s.toArray⟩] 23)) from Ext.trans HE.out (ext_one _ _))
        have HRD0 := Lib.hid (HRD.out.mono (ext_one wr (.cells #[.int .u8 k, .int .i64 n, .string ⟨s.toArray⟩] 23)))
        go_wp2_with fail
        go_loopw [4, 39] (fun b i wq => ∃ q : Nat, q ≤ j ∧ i = .int .i64 q ∧ Rd wq b (bytesV ((vs.take j).drop q)) ∧ Ext w wq) (fun _ i _ => j - (intOf i).toNat)
        case atStart => exact ⟨0, Nat.zero_le _, rfl, HRD0.out, HE0.out⟩
        case round =>
          obtain ⟨q, hq, rfl, hrd, hext⟩ := hrel
          have HRDq := Lib.hid hrd
          have HEq := Lib.hid hext
          obtain ⟨bo', bc', rfl, hbd1, hbd2⟩ := hrd.shape
          clear hrd hext
          have hlb := bytesV_le ((vs.take j).drop q)
          rw [List.length_drop, List.length_take] at hlb
          have HLB := Lib.hid (show (bytesV ((vs.take j).drop q)).length ≤ 1000000 by omega)
          clear hlb
          by_cases hqj : q < j
          · have hql : q < vs.length := by have := HN.out; omega
            obtain ⟨gq, offq, hao, hcellq⟩ := HC.out q hql
            cases hao
            have HKq := Lib.hid (show ∀ i y, (vs[q].cells)[i]? = some y → wr.cell? ⟨g, off + q * 3 + i, none⟩ = some y from fun i y hy => by rw [HEq.out.cell (lt_of_cell (hcellq i y hy))]; exact hcellq i y hy)
            have HVq := Lib.hid (HF.out _ (List.getElem_mem hql))
            have hsq := HS.out q hqj hql
            have HTq := Lib.hid (show bytesV ((vs.take j).drop q) = encV vs[q] ++ bytesV ((vs.take j).drop (q + 1)) by
              unfold bytesV
              rw [List.drop_eq_getElem_cons (show q < (vs.take j).length by rw [List.length_take]; omega), List.flatMap_cons, List.getElem_take])
            clear hcellq
            generalize vs[q] = v' at HKq HVq HTq hsq
            have HTK := Lib.hid (takeV_enc v' HVq.out.1 (bytesV ((vs.take j).drop (q + 1))))
            rw [← HTq.out] at HTK
            have hge : decide ((bytesV ((vs.take j).drop q)).length ≤ (bytesV ((vs.take j).drop (q + 1))).length) = false := decide_eq_false (by rw [HTq.out, List.length_append]; have := encV_pos v'; omega)
            have HRI := Lib.hid (fun w => Right_any v' HVq.out.1 (by omega) w)
            have hNE := fun w => ne_val v' v' w
            rw [decide_eq_true rfl] at hNE
            generalize bytesV ((vs.take j).drop q) = bq at HRDq HLB HTK hge hbd1 ⊢
            have HM := Lib.hid (show bytesV ((vs.take j).drop (q + 1)) = bytesV ((vs.take j).drop (q + 1)) from rfl)
            obtain ⟨mq, hmq⟩ : ∃ mq, mq = bytesV ((vs.take j).drop (q + 1)) := ⟨_, rfl⟩
            have HMQ := Lib.hid hmq
            rw [← hmq] at HTK hge
            clear hmq HM HTq
            have HLQ := HLB.out
            cases hr : rightV v' with
            | true =>
              have HKV := Lib.hid (show keepV v' = v' by unfold keepV; rw [if_pos hr])
              rw [hr] at HRI
              clear hr
              obtain ⟨k', n', s'⟩ := v'
              unfold V.val at HRI hNE
              simp only at HRI hNE hsq
              have hd0 := HKq.out 0 _ rfl
              have hd1 := HKq.out 1 _ rfl
              have hd2 := HKq.out 2 _ rfl
              rw [Nat.add_zero] at hd0
              have HX := Lib.hid (ext_one wr (.cells #[.int .u8 k', .int .i64 n', .string ⟨s'.toArray⟩] 23))
              go_wp2_with fail
              refine (Take_any _ _ _ (HRDq.out.mono HX.out) HLB.out).mono ?_
              rintro e w5 ⟨⟨v2, m2, r, htk, rfl, hown⟩ | ⟨hno, rfl⟩, hb⟩
              · have htk2 := HTK.out.symm.trans htk
                simp only [Option.some.injEq, Prod.mk.injEq] at htk2
                obtain ⟨e1, e2⟩ := htk2
                rw [HKV.out] at e1
                subst e1 e2
                have HOR := Lib.hid hown.rd
                obtain ⟨ro, rc, rfl, hr1, hr2⟩ := hown.rd.shape
                have HV9 := Lib.hid (cells_old hb)
                have HE5 := Lib.hid (Ext.trans HEq.out (Ext.trans HX.out hb))
                have hN5 := Lib.hid (fun o => ext_one w5 o)
                have h90 := fun o => kept_cell HV9.out (hN5.out o) 0 _ rfl
                have h91 := fun o => kept_cell HV9.out (hN5.out o) 1 _ rfl
                have h92 := fun o => kept_cell HV9.out (hN5.out o) 2 _ rfl
                clear htk hown hb hd0 hd1 hd2
                unfold V.val
                simp only
                go_wp2_with fail
                refine (HRI.out _).mono ?_
                rintro e w6 ⟨rfl, hb⟩
                have HW6 := Lib.hid (cells_old hb)
                have HV6 := Lib.hid (kept_cell HV9.out (Ext.trans (hN5.out _) hb))
                have HX6 := Lib.hid (Ext.trans (hN5.out _) hb)
                clear hb h90 h91 h92
                have h90 := HV6.out 0 _ rfl
                have h91 := HV6.out 1 _ rfl
                have h92 := HV6.out 2 _ rfl
                have h80 := HW6.out 0 _ rfl
                have h81 := HW6.out 1 _ rfl
                have h82 := HW6.out 2 _ rfl
                go_wp2_with fail
                refine (HRI.out _).mono ?_
                rintro e w7 ⟨rfl, hb⟩
                have HX7 := Lib.hid (Ext.trans HX6.out hb)
                clear hb h90 h91 h92 h80 h81 h82
                go_wp2_with fail
                go_roundw
                case rel => exact ⟨q + 1, by omega, by go_num, by rw [← HMQ.out]; exact HOR.out.mono HX7.out, Ext.trans HE5.out HX7.out⟩
                case measure => simp [intOf]; omega
              · have h := HTK.out.symm.trans hno
                cases h
            | false =>
              have HKV := Lib.hid (show keepV v' = V.zero by unfold keepV; rw [if_neg (by rw [hr]; decide)])
              rw [hr] at HRI
              clear hr hNE
              obtain ⟨k', n', s'⟩ := v'
              unfold V.val at HRI
              simp only at HRI hsq
              have hd0 := HKq.out 0 _ rfl
              have hd1 := HKq.out 1 _ rfl
              have hd2 := HKq.out 2 _ rfl
              rw [Nat.add_zero] at hd0
              have HX := Lib.hid (ext_one wr (.cells #[.int .u8 k', .int .i64 n', .string ⟨s'.toArray⟩] 23))
              go_wp2_with fail
              refine (Take_any _ _ _ (HRDq.out.mono HX.out) HLB.out).mono ?_
              rintro e w5 ⟨⟨v2, m2, r, htk, rfl, hown⟩ | ⟨hno, rfl⟩, hb⟩
              · have htk2 := HTK.out.symm.trans htk
                simp only [Option.some.injEq, Prod.mk.injEq] at htk2
                obtain ⟨e1, e2⟩ := htk2
                rw [HKV.out] at e1
                subst e1 e2
                have HOR := Lib.hid hown.rd
                obtain ⟨ro, rc, rfl, hr1, hr2⟩ := hown.rd.shape
                have HV9 := Lib.hid (cells_old hb)
                have HE5 := Lib.hid (Ext.trans HEq.out (Ext.trans HX.out hb))
                have hN5 := Lib.hid (fun o => ext_one w5 o)
                have h90 := fun o => kept_cell HV9.out (hN5.out o) 0 _ rfl
                have h91 := fun o => kept_cell HV9.out (hN5.out o) 1 _ rfl
                have h92 := fun o => kept_cell HV9.out (hN5.out o) 2 _ rfl
                clear htk hown hb hd0 hd1 hd2
                unfold V.val V.zero
                simp only
                go_wp2_with fail
                refine (HRI.out _).mono ?_
                rintro e w6 ⟨rfl, hb⟩
                have HW6 := Lib.hid (cells_old hb)
                have HV6 := Lib.hid (kept_cell HV9.out (Ext.trans (hN5.out _) hb))
                have HX6 := Lib.hid (Ext.trans (hN5.out _) hb)
                clear hb h90 h91 h92
                have h90 := HV6.out 0 _ rfl
                have h91 := HV6.out 1 _ rfl
                have h92 := HV6.out 2 _ rfl
                go_wp2_with fail
                refine (HRI.out _).mono ?_
                rintro e w7 ⟨rfl, hb⟩
                have HX7 := Lib.hid (Ext.trans HX6.out hb)
                have HW7 := Lib.hid (kept_cell HW6.out hb)
                have h80 := HW7.out 0 _ rfl
                have h81 := HW7.out 1 _ rfl
                have h82 := HW7.out 2 _ rfl
                clear hb h90 h91 h92
                go_wp2_with fail
                go_roundw
                case rel => exact ⟨q + 1, by omega, by go_num, by rw [← HMQ.out]; exact HOR.out.mono HX7.out, Ext.trans HE5.out HX7.out⟩
                case measure => simp [intOf]; omega
              · have h := HTK.out.symm.trans hno
                cases h
          · have HZ := Lib.hid (show bytesV ((vs.take j).drop q) = [] by
              rw [List.drop_eq_nil_of_le (by rw [List.length_take]; omega)]
              rfl)
            rw [HZ.out]
            have hqJ : q = j := by omega
            subst hqJ
            go_wp2_with fail
            go_ret
            exact ⟨rfl, HEq.out⟩
      · by_cases h3 : 3000 < s.length
        · have HE0 := Lib.hid (show Ext w (wr.alloc (.cells #[.int .u8 k, .int .i64 n, .string ⟨s.toArray⟩] 23)) from Ext.trans HE.out (ext_one _ _))
          have HRD0 := Lib.hid (HRD.out.mono (ext_one wr (.cells #[.int .u8 k, .int .i64 n, .string ⟨s.toArray⟩] 23)))
          go_wp2_with fail
          go_loopw [4, 39] (fun b i wq => ∃ q : Nat, q ≤ j ∧ i = .int .i64 q ∧ Rd wq b (bytesV ((vs.take j).drop q)) ∧ Ext w wq) (fun _ i _ => j - (intOf i).toNat)
          case atStart => exact ⟨0, Nat.zero_le _, rfl, HRD0.out, HE0.out⟩
          case round =>
            obtain ⟨q, hq, rfl, hrd, hext⟩ := hrel
            have HRDq := Lib.hid hrd
            have HEq := Lib.hid hext
            obtain ⟨bo', bc', rfl, hbd1, hbd2⟩ := hrd.shape
            clear hrd hext
            have hlb := bytesV_le ((vs.take j).drop q)
            rw [List.length_drop, List.length_take] at hlb
            have HLB := Lib.hid (show (bytesV ((vs.take j).drop q)).length ≤ 1000000 by omega)
            clear hlb
            by_cases hqj : q < j
            · have hql : q < vs.length := by have := HN.out; omega
              obtain ⟨gq, offq, hao, hcellq⟩ := HC.out q hql
              cases hao
              have HKq := Lib.hid (show ∀ i y, (vs[q].cells)[i]? = some y → wr.cell? ⟨g, off + q * 3 + i, none⟩ = some y from fun i y hy => by rw [HEq.out.cell (lt_of_cell (hcellq i y hy))]; exact hcellq i y hy)
              have HVq := Lib.hid (HF.out _ (List.getElem_mem hql))
              have hsq := HS.out q hqj hql
              have HTq := Lib.hid (show bytesV ((vs.take j).drop q) = encV vs[q] ++ bytesV ((vs.take j).drop (q + 1)) by
                unfold bytesV
                rw [List.drop_eq_getElem_cons (show q < (vs.take j).length by rw [List.length_take]; omega), List.flatMap_cons, List.getElem_take])
              clear hcellq
              generalize vs[q] = v' at HKq HVq HTq hsq
              have HTK := Lib.hid (takeV_enc v' HVq.out.1 (bytesV ((vs.take j).drop (q + 1))))
              rw [← HTq.out] at HTK
              have hge : decide ((bytesV ((vs.take j).drop q)).length ≤ (bytesV ((vs.take j).drop (q + 1))).length) = false := decide_eq_false (by rw [HTq.out, List.length_append]; have := encV_pos v'; omega)
              have HRI := Lib.hid (fun w => Right_any v' HVq.out.1 (by omega) w)
              have hNE := fun w => ne_val v' v' w
              rw [decide_eq_true rfl] at hNE
              generalize bytesV ((vs.take j).drop q) = bq at HRDq HLB HTK hge hbd1 ⊢
              have HM := Lib.hid (show bytesV ((vs.take j).drop (q + 1)) = bytesV ((vs.take j).drop (q + 1)) from rfl)
              obtain ⟨mq, hmq⟩ : ∃ mq, mq = bytesV ((vs.take j).drop (q + 1)) := ⟨_, rfl⟩
              have HMQ := Lib.hid hmq
              rw [← hmq] at HTK hge
              clear hmq HM HTq
              have HLQ := HLB.out
              cases hr : rightV v' with
              | true =>
                have HKV := Lib.hid (show keepV v' = v' by unfold keepV; rw [if_pos hr])
                rw [hr] at HRI
                clear hr
                obtain ⟨k', n', s'⟩ := v'
                unfold V.val at HRI hNE
                simp only at HRI hNE hsq
                have hd0 := HKq.out 0 _ rfl
                have hd1 := HKq.out 1 _ rfl
                have hd2 := HKq.out 2 _ rfl
                rw [Nat.add_zero] at hd0
                have HX := Lib.hid (ext_one wr (.cells #[.int .u8 k', .int .i64 n', .string ⟨s'.toArray⟩] 23))
                go_wp2_with fail
                refine (Take_any _ _ _ (HRDq.out.mono HX.out) HLB.out).mono ?_
                rintro e w5 ⟨⟨v2, m2, r, htk, rfl, hown⟩ | ⟨hno, rfl⟩, hb⟩
                · have htk2 := HTK.out.symm.trans htk
                  simp only [Option.some.injEq, Prod.mk.injEq] at htk2
                  obtain ⟨e1, e2⟩ := htk2
                  rw [HKV.out] at e1
                  subst e1 e2
                  have HOR := Lib.hid hown.rd
                  obtain ⟨ro, rc, rfl, hr1, hr2⟩ := hown.rd.shape
                  have HV9 := Lib.hid (cells_old hb)
                  have HE5 := Lib.hid (Ext.trans HEq.out (Ext.trans HX.out hb))
                  have hN5 := Lib.hid (fun o => ext_one w5 o)
                  have h90 := fun o => kept_cell HV9.out (hN5.out o) 0 _ rfl
                  have h91 := fun o => kept_cell HV9.out (hN5.out o) 1 _ rfl
                  have h92 := fun o => kept_cell HV9.out (hN5.out o) 2 _ rfl
                  clear htk hown hb hd0 hd1 hd2
                  unfold V.val
                  simp only
                  go_wp2_with fail
                  refine (HRI.out _).mono ?_
                  rintro e w6 ⟨rfl, hb⟩
                  have HW6 := Lib.hid (cells_old hb)
                  have HV6 := Lib.hid (kept_cell HV9.out (Ext.trans (hN5.out _) hb))
                  have HX6 := Lib.hid (Ext.trans (hN5.out _) hb)
                  clear hb h90 h91 h92
                  have h90 := HV6.out 0 _ rfl
                  have h91 := HV6.out 1 _ rfl
                  have h92 := HV6.out 2 _ rfl
                  have h80 := HW6.out 0 _ rfl
                  have h81 := HW6.out 1 _ rfl
                  have h82 := HW6.out 2 _ rfl
                  go_wp2_with fail
                  refine (HRI.out _).mono ?_
                  rintro e w7 ⟨rfl, hb⟩
                  have HX7 := Lib.hid (Ext.trans HX6.out hb)
                  clear hb h90 h91 h92 h80 h81 h82
                  go_wp2_with fail
                  go_roundw
                  case rel => exact ⟨q + 1, by omega, by go_num, by rw [← HMQ.out]; exact HOR.out.mono HX7.out, Ext.trans HE5.out HX7.out⟩
                  case measure => simp [intOf]; omega
                · have h := HTK.out.symm.trans hno
                  cases h
              | false =>
                have HKV := Lib.hid (show keepV v' = V.zero by unfold keepV; rw [if_neg (by rw [hr]; decide)])
                rw [hr] at HRI
                clear hr hNE
                obtain ⟨k', n', s'⟩ := v'
                unfold V.val at HRI
                simp only at HRI hsq
                have hd0 := HKq.out 0 _ rfl
                have hd1 := HKq.out 1 _ rfl
                have hd2 := HKq.out 2 _ rfl
                rw [Nat.add_zero] at hd0
                have HX := Lib.hid (ext_one wr (.cells #[.int .u8 k', .int .i64 n', .string ⟨s'.toArray⟩] 23))
                go_wp2_with fail
                refine (Take_any _ _ _ (HRDq.out.mono HX.out) HLB.out).mono ?_
                rintro e w5 ⟨⟨v2, m2, r, htk, rfl, hown⟩ | ⟨hno, rfl⟩, hb⟩
                · have htk2 := HTK.out.symm.trans htk
                  simp only [Option.some.injEq, Prod.mk.injEq] at htk2
                  obtain ⟨e1, e2⟩ := htk2
                  rw [HKV.out] at e1
                  subst e1 e2
                  have HOR := Lib.hid hown.rd
                  obtain ⟨ro, rc, rfl, hr1, hr2⟩ := hown.rd.shape
                  have HV9 := Lib.hid (cells_old hb)
                  have HE5 := Lib.hid (Ext.trans HEq.out (Ext.trans HX.out hb))
                  have hN5 := Lib.hid (fun o => ext_one w5 o)
                  have h90 := fun o => kept_cell HV9.out (hN5.out o) 0 _ rfl
                  have h91 := fun o => kept_cell HV9.out (hN5.out o) 1 _ rfl
                  have h92 := fun o => kept_cell HV9.out (hN5.out o) 2 _ rfl
                  clear htk hown hb hd0 hd1 hd2
                  unfold V.val V.zero
                  simp only
                  go_wp2_with fail
                  refine (HRI.out _).mono ?_
                  rintro e w6 ⟨rfl, hb⟩
                  have HW6 := Lib.hid (cells_old hb)
                  have HV6 := Lib.hid (kept_cell HV9.out (Ext.trans (hN5.out _) hb))
                  have HX6 := Lib.hid (Ext.trans (hN5.out _) hb)
                  clear hb h90 h91 h92
                  have h90 := HV6.out 0 _ rfl
                  have h91 := HV6.out 1 _ rfl
                  have h92 := HV6.out 2 _ rfl
                  go_wp2_with fail
                  refine (HRI.out _).mono ?_
                  rintro e w7 ⟨rfl, hb⟩
                  have HX7 := Lib.hid (Ext.trans HX6.out hb)
                  have HW7 := Lib.hid (kept_cell HW6.out hb)
                  have h80 := HW7.out 0 _ rfl
                  have h81 := HW7.out 1 _ rfl
                  have h82 := HW7.out 2 _ rfl
                  clear hb h90 h91 h92
                  go_wp2_with fail
                  go_roundw
                  case rel => exact ⟨q + 1, by omega, by go_num, by rw [← HMQ.out]; exact HOR.out.mono HX7.out, Ext.trans HE5.out HX7.out⟩
                  case measure => simp [intOf]; omega
                · have h := HTK.out.symm.trans hno
                  cases h
            · have HZ := Lib.hid (show bytesV ((vs.take j).drop q) = [] by
                rw [List.drop_eq_nil_of_le (by rw [List.length_take]; omega)]
                rfl)
              rw [HZ.out]
              have hqJ : q = j := by omega
              subst hqJ
              go_wp2_with fail
              go_ret
              exact ⟨rfl, HEq.out⟩
        · have HX := Lib.hid (ext_one wr (.cells #[.int .u8 k, .int .i64 n, .string ⟨s.toArray⟩] 23))
          go_wp2_with fail
          refine (Put_any _ _ ⟨k, n, s⟩ _ (HRD.out.mono HX.out) (by have := HL.out; omega) HV.out.1 (by show s.length ≤ 5000; omega)).mono ?_
          rintro e w3 ⟨r, rfl, ho, hb⟩
          have HO := Lib.hid (RdV.of_owns ho)
          have HE3 := Lib.hid (Ext.trans HE.out (Ext.trans HX.out hb))
          clear ho hb
          go_wp2_with fail
          go_roundw
          case rel => exact ⟨j + 1, by omega, by omega, by go_num, by go_num, HS'.out (by show s.length ≤ 3000; omega), by rw [HT.out]; exact HO.out, HE3.out⟩
          case measure => simp [intOf]; omega
    · have hjN : N = j := by omega
      have HE0 := Lib.hid HE.out
      have HRD0 := Lib.hid HRD.out
      subst hjN
      go_wp2_with fail
      go_loopw [4, 39] (fun b i wq => ∃ q : Nat, q ≤ N ∧ i = .int .i64 q ∧ Rd wq b (bytesV ((vs.take N).drop q)) ∧ Ext w wq) (fun _ i _ => N - (intOf i).toNat)
      case atStart => exact ⟨0, Nat.zero_le _, rfl, HRD0.out, HE0.out⟩
      case round =>
        obtain ⟨q, hq, rfl, hrd, hext⟩ := hrel
        have HRDq := Lib.hid hrd
        have HEq := Lib.hid hext
        obtain ⟨bo', bc', rfl, hbd1, hbd2⟩ := hrd.shape
        clear hrd hext
        have hlb := bytesV_le ((vs.take N).drop q)
        rw [List.length_drop, List.length_take] at hlb
        have HLB := Lib.hid (show (bytesV ((vs.take N).drop q)).length ≤ 1000000 by omega)
        clear hlb
        by_cases hqj : q < N
        · have hql : q < vs.length := by have := HN.out; omega
          obtain ⟨gq, offq, hao, hcellq⟩ := HC.out q hql
          cases hao
          have HKq := Lib.hid (show ∀ i y, (vs[q].cells)[i]? = some y → wr.cell? ⟨gq, offq + q * 3 + i, none⟩ = some y from fun i y hy => by rw [HEq.out.cell (lt_of_cell (hcellq i y hy))]; exact hcellq i y hy)
          have HVq := Lib.hid (HF.out _ (List.getElem_mem hql))
          have hsq := HS.out q hqj hql
          have HTq := Lib.hid (show bytesV ((vs.take N).drop q) = encV vs[q] ++ bytesV ((vs.take N).drop (q + 1)) by
            unfold bytesV
            rw [List.drop_eq_getElem_cons (show q < (vs.take N).length by rw [List.length_take]; omega), List.flatMap_cons, List.getElem_take])
          clear hcellq
          generalize vs[q] = v' at HKq HVq HTq hsq
          have HTK := Lib.hid (takeV_enc v' HVq.out.1 (bytesV ((vs.take N).drop (q + 1))))
          rw [← HTq.out] at HTK
          have hge : decide ((bytesV ((vs.take N).drop q)).length ≤ (bytesV ((vs.take N).drop (q + 1))).length) = false := decide_eq_false (by rw [HTq.out, List.length_append]; have := encV_pos v'; omega)
          have HRI := Lib.hid (fun w => Right_any v' HVq.out.1 (by omega) w)
          have hNE := fun w => ne_val v' v' w
          rw [decide_eq_true rfl] at hNE
          generalize bytesV ((vs.take N).drop q) = bq at HRDq HLB HTK hge hbd1 ⊢
          have HM := Lib.hid (show bytesV ((vs.take N).drop (q + 1)) = bytesV ((vs.take N).drop (q + 1)) from rfl)
          obtain ⟨mq, hmq⟩ : ∃ mq, mq = bytesV ((vs.take N).drop (q + 1)) := ⟨_, rfl⟩
          have HMQ := Lib.hid hmq
          rw [← hmq] at HTK hge
          clear hmq HM HTq
          have HLQ := HLB.out
          cases hr : rightV v' with
          | true =>
            have HKV := Lib.hid (show keepV v' = v' by unfold keepV; rw [if_pos hr])
            rw [hr] at HRI
            clear hr
            obtain ⟨k', n', s'⟩ := v'
            unfold V.val at HRI hNE
            simp only at HRI hNE hsq
            have hd0 := HKq.out 0 _ rfl
            have hd1 := HKq.out 1 _ rfl
            have hd2 := HKq.out 2 _ rfl
            rw [Nat.add_zero] at hd0
            have HX := Lib.hid (ext_one wr (.cells #[.int .u8 k', .int .i64 n', .string ⟨s'.toArray⟩] 23))
            go_wp2_with fail
            refine (Take_any _ _ _ (HRDq.out.mono HX.out) HLB.out).mono ?_
            rintro e w5 ⟨⟨v2, m2, r, htk, rfl, hown⟩ | ⟨hno, rfl⟩, hb⟩
            · have htk2 := HTK.out.symm.trans htk
              simp only [Option.some.injEq, Prod.mk.injEq] at htk2
              obtain ⟨e1, e2⟩ := htk2
              rw [HKV.out] at e1
              subst e1 e2
              have HOR := Lib.hid hown.rd
              obtain ⟨ro, rc, rfl, hr1, hr2⟩ := hown.rd.shape
              have HV9 := Lib.hid (cells_old hb)
              have HE5 := Lib.hid (Ext.trans HEq.out (Ext.trans HX.out hb))
              have hN5 := Lib.hid (fun o => ext_one w5 o)
              have h90 := fun o => kept_cell HV9.out (hN5.out o) 0 _ rfl
              have h91 := fun o => kept_cell HV9.out (hN5.out o) 1 _ rfl
              have h92 := fun o => kept_cell HV9.out (hN5.out o) 2 _ rfl
              clear htk hown hb hd0 hd1 hd2
              unfold V.val
              simp only
              go_wp2_with fail
              refine (HRI.out _).mono ?_
              rintro e w6 ⟨rfl, hb⟩
              have HW6 := Lib.hid (cells_old hb)
              have HV6 := Lib.hid (kept_cell HV9.out (Ext.trans (hN5.out _) hb))
              have HX6 := Lib.hid (Ext.trans (hN5.out _) hb)
              clear hb h90 h91 h92
              have h90 := HV6.out 0 _ rfl
              have h91 := HV6.out 1 _ rfl
              have h92 := HV6.out 2 _ rfl
              have h80 := HW6.out 0 _ rfl
              have h81 := HW6.out 1 _ rfl
              have h82 := HW6.out 2 _ rfl
              go_wp2_with fail
              refine (HRI.out _).mono ?_
              rintro e w7 ⟨rfl, hb⟩
              have HX7 := Lib.hid (Ext.trans HX6.out hb)
              clear hb h90 h91 h92 h80 h81 h82
              go_wp2_with fail
              go_roundw
              case rel => exact ⟨q + 1, by omega, by go_num, by rw [← HMQ.out]; exact HOR.out.mono HX7.out, Ext.trans HE5.out HX7.out⟩
              case measure => simp [intOf]; omega
            · have h := HTK.out.symm.trans hno
              cases h
          | false =>
            have HKV := Lib.hid (show keepV v' = V.zero by unfold keepV; rw [if_neg (by rw [hr]; decide)])
            rw [hr] at HRI
            clear hr hNE
            obtain ⟨k', n', s'⟩ := v'
            unfold V.val at HRI
            simp only at HRI hsq
            have hd0 := HKq.out 0 _ rfl
            have hd1 := HKq.out 1 _ rfl
            have hd2 := HKq.out 2 _ rfl
            rw [Nat.add_zero] at hd0
            have HX := Lib.hid (ext_one wr (.cells #[.int .u8 k', .int .i64 n', .string ⟨s'.toArray⟩] 23))
            go_wp2_with fail
            refine (Take_any _ _ _ (HRDq.out.mono HX.out) HLB.out).mono ?_
            rintro e w5 ⟨⟨v2, m2, r, htk, rfl, hown⟩ | ⟨hno, rfl⟩, hb⟩
            · have htk2 := HTK.out.symm.trans htk
              simp only [Option.some.injEq, Prod.mk.injEq] at htk2
              obtain ⟨e1, e2⟩ := htk2
              rw [HKV.out] at e1
              subst e1 e2
              have HOR := Lib.hid hown.rd
              obtain ⟨ro, rc, rfl, hr1, hr2⟩ := hown.rd.shape
              have HV9 := Lib.hid (cells_old hb)
              have HE5 := Lib.hid (Ext.trans HEq.out (Ext.trans HX.out hb))
              have hN5 := Lib.hid (fun o => ext_one w5 o)
              have h90 := fun o => kept_cell HV9.out (hN5.out o) 0 _ rfl
              have h91 := fun o => kept_cell HV9.out (hN5.out o) 1 _ rfl
              have h92 := fun o => kept_cell HV9.out (hN5.out o) 2 _ rfl
              clear htk hown hb hd0 hd1 hd2
              unfold V.val V.zero
              simp only
              go_wp2_with fail
              refine (HRI.out _).mono ?_
              rintro e w6 ⟨rfl, hb⟩
              have HW6 := Lib.hid (cells_old hb)
              have HV6 := Lib.hid (kept_cell HV9.out (Ext.trans (hN5.out _) hb))
              have HX6 := Lib.hid (Ext.trans (hN5.out _) hb)
              clear hb h90 h91 h92
              have h90 := HV6.out 0 _ rfl
              have h91 := HV6.out 1 _ rfl
              have h92 := HV6.out 2 _ rfl
              go_wp2_with fail
              refine (HRI.out _).mono ?_
              rintro e w7 ⟨rfl, hb⟩
              have HX7 := Lib.hid (Ext.trans HX6.out hb)
              have HW7 := Lib.hid (kept_cell HW6.out hb)
              have h80 := HW7.out 0 _ rfl
              have h81 := HW7.out 1 _ rfl
              have h82 := HW7.out 2 _ rfl
              clear hb h90 h91 h92
              go_wp2_with fail
              go_roundw
              case rel => exact ⟨q + 1, by omega, by go_num, by rw [← HMQ.out]; exact HOR.out.mono HX7.out, Ext.trans HE5.out HX7.out⟩
              case measure => simp [intOf]; omega
            · have h := HTK.out.symm.trans hno
              cases h
        · have HZ := Lib.hid (show bytesV ((vs.take N).drop q) = [] by
            rw [List.drop_eq_nil_of_le (by rw [List.length_take]; omega)]
            rfl)
          rw [HZ.out]
          have hqJ : q = N := by omega
          subst hqJ
          go_wp2_with fail
          go_ret
          exact ⟨rfl, HEq.out⟩

end Go.Proofs.Ytedkalmdhbpleaa
