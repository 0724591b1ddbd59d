/-
  The contract of the document's own Get.
-/
import Derived.Test.YthelgjoobckbaaaPagesPut
namespace Go.Proofs.Ythelgjoobckbaaa
open Go.RowKit Go.BigFrame

theorem readS_len {s : St} (hok : okS s) (id : Int) (h : (readS s id).2 = 0) : (readS s id).1.length = 56 := by
  unfold readS at h ⊢
  split at h
  · cases h
  · rename_i p hp
    split at h
    · rename_i he
      rw [if_pos he, List.length_take, hok.2 p (pageS_mem hp)]
      rfl
    · cases h
theorem readS_err {s : St} (id : Int) : (readS s id).2 = 0 ∨ (readS s id).2 = 2 ∨ (readS s id).2 = 6 := by
  unfold readS
  split
  · exact .inr (.inl rfl)
  · split
    · exact .inl rfl
    · exact .inr (.inr rfl)
theorem readsS_err (s : St) : ∀ ids : List Int, (readsS s ids).2 = 0 ∨ (readsS s ids).2 = 2 ∨ (readsS s ids).2 = 6
  | [] => .inl rfl
  | id :: t => by
    unfold readsS
    split
    · split
      · exact .inl rfl
      · exact readsS_err s t
    · exact readS_err id
theorem readsS_len {s : St} (hok : okS s) : ∀ ids : List Int, (readsS s ids).2 = 0 → (readsS s ids).1.length = 56 * ids.length
  | [], _ => rfl
  | id :: t, h => by
    unfold readsS at h ⊢
    split at h
    · rename_i h1
      rw [if_pos h1]
      split at h
      · rename_i h2
        rw [if_pos h2]
        simp only [List.length_append, List.length_cons]
        rw [readS_len hok id h1, readsS_len hok t h2]
        omega
      · rename_i h2
        exact absurd h h2
    · rename_i h1
      exact absurd h h1

/-- What stands ahead, read, and what is still to be read. -/
theorem readsS_step {s : St} {ids : List Int} {j : Nat} (hj : j < ids.length) :
    readsS s (ids.drop j) = if (readS s ids[j]).2 = 0 then (if (readsS s (ids.drop (j + 1))).2 = 0 then ((readS s ids[j]).1 ++ (readsS s (ids.drop (j + 1))).1, 0) else ([], (readsS s (ids.drop (j + 1))).2)) else ([], (readS s ids[j]).2) := by
  rw [List.drop_eq_getElem_cons hj]
  rfl

theorem str_append (x y : List UInt8) : (⟨x.toArray⟩ : ByteArray) ++ ⟨y.toArray⟩ = ⟨(x ++ y).toArray⟩ := by
  apply ByteArray.ext
  simp [ByteArray.data_append]

/-- What was read so far, and what comes behind it. -/
def gone (acc : List UInt8) (r : List UInt8 × Int) : List UInt8 × Int := if r.2 = 0 then (acc ++ r.1, 0) else ([], r.2)
theorem gone_nil (r : List UInt8 × Int) (h : r.2 ≠ 0 → r.1 = []) : gone [] r = r := by
  obtain ⟨a, b⟩ := r
  unfold gone
  simp only at h ⊢
  by_cases hb : b = 0
  · rw [if_pos hb, hb]; rfl
  · rw [if_neg hb, h hb]
theorem readsS_none (s : St) : ∀ ids : List Int, (readsS s ids).2 ≠ 0 → (readsS s ids).1 = []
  | [], h => absurd rfl h
  | id :: t, h => by
    unfold readsS at h ⊢
    split
    · rename_i h1
      rw [if_pos h1] at h
      split
      · rename_i h2
        rw [if_pos h2] at h
        exact absurd rfl h
      · rfl
    · rfl
theorem gone_step {s : St} {ids : List Int} {j : Nat} (hj : j < ids.length) (acc : List UInt8) (h : (readS s ids[j]).2 = 0) : gone acc (readsS s (ids.drop j)) = gone (acc ++ (readS s ids[j]).1) (readsS s (ids.drop (j + 1))) := by
  rw [readsS_step hj, if_pos h]
  unfold gone
  by_cases h2 : (readsS s (ids.drop (j + 1))).2 = 0
  · rw [if_pos h2, if_pos h2]
    simp
  · rw [if_neg h2, if_neg h2]
    simp only
    rw [if_neg h2]
theorem gone_bad {s : St} {ids : List Int} {j : Nat} (hj : j < ids.length) (acc : List UInt8) (h : (readS s ids[j]).2 ≠ 0) : gone acc (readsS s (ids.drop j)) = ([], (readS s ids[j]).2) := by
  rw [readsS_step hj, if_neg h]
  unfold gone
  rw [if_neg h]

/-- Get's answer. -/
def Gotten (w : World) (s : St) (ids : List Int) (n : Int) (e : Ending) (w' : World) : Prop :=
  e = .returned (.tuple #[.string ⟨(getS s ids n).1.toArray⟩, .int .i64 (getS s ids n).2]) ∧ Ext w w'

set_option maxRecDepth 100000 in
set_option maxHeartbeats 1000000 in
theorem refGet_any (q g : Nat) (s : St) (u : Value) (ids : List Int) (n : Int) (w : World) (h : RSto w q g s) (hok : okS s) (hu : RdV w u (ids.map (Value.int .i64))) (hids : ids.length ≤ 1000000) (hwf : ∀ i ∈ ids, -9223372036854775808 ≤ i ∧ i ≤ 9223372036854775807)
    (h0 : -9223372036854775808 ≤ n) (h1 : n ≤ 9223372036854775807) :
    Calls Try.prog 35 #[.pointer (some ⟨q, 0, none⟩), u, .int .i64 n] w (Gotten w s ids n) := by
  obtain ⟨ai, capi, rfl, hc1, hc2, hca⟩ := RdV.cellsAt hu
  simp only [List.length_map] at hc1 ⊢
  unfold maxLen at hc2
  have HCA := Lib.hid hca
  have HRS := Lib.hid h
  have HOK := Lib.hid hok
  have HWF := Lib.hid hwf
  clear hca hu h hok hwf
  by_cases hn : n < 0
  · have hg : getS s ids n = ([], 1) := by unfold getS; rw [if_pos (.inl hn)]
    have HG := Lib.hid hg
    clear hg
    generalize ids.length = N at hc1 hids ⊢
    go_enter Try.func35, Try.ntmps35
    go_wp2_with fail
    go_ret2
    unfold Gotten
    rw [HG.out]
    exact ⟨rfl, Ext.keeps.refl _⟩
  · have HND := Lib.hid (refNeed_any n w h0 h1)
    have hnd : 0 ≤ needS n ∧ needS n ≤ 9223372036854775807 := by unfold needS; split <;> omega
    by_cases hne : (ids.length : Int) = needS n
    · have hgt : getS s ids n = if (readsS s ids).2 ≠ 0 then ([], (readsS s ids).2) else if ((readsS s ids).1.drop n.toNat).all (· == 0) = true then ((readsS s ids).1.take n.toNat, 0) else ([], 6) := by
        unfold getS
        rw [if_neg (by rintro (h | h); exact hn h; exact h hne)]
      obtain ⟨M, rfl⟩ := Int.eq_ofNat_of_zero_le (show 0 ≤ n by omega)
      rw [Int.toNat_natCast] at hgt
      have HGT := Lib.hid hgt
      rw [← hne] at HND
      have HNE := Lib.hid hne
      clear hgt hne hnd
      obtain ⟨N, hN⟩ : ∃ N, ids.length = N := ⟨_, rfl⟩
      have HN := Lib.hid hN
      have hMN : M ≤ 56 * N := by
        have h := HNE.out
        rw [hN] at h
        unfold needS at h
        split at h <;> omega
      rw [hN] at hc1 hids HND ⊢
      clear hN
      go_enter Try.func35, Try.ntmps35
      go_wp2_with fail
      refine HND.out.mono ?_
      rintro e w2 ⟨rfl, rfl⟩
      go_wp2_with fail
      go_loopw [8, 9] (fun o i wr => ∃ (j : Nat) (acc : List UInt8), j ≤ N ∧ i = .int .i64 j ∧ o = .string ⟨acc.toArray⟩ ∧ acc.length = 56 * j ∧ readsS s ids = gone acc (readsS s (ids.drop j)) ∧ Ext w wr) (fun _ i _ => N - (intOf i).toNat)
      case atStart => exact ⟨0, [], Nat.zero_le _, rfl, rfl, rfl, by rw [List.drop_zero, gone_nil _ (readsS_none s ids)], Ext.keeps.refl _⟩
      case round =>
        obtain ⟨j, acc, hj, rfl, rfl, hacc, hrd, hext⟩ := hrel
        have HAC := Lib.hid hacc
        have HRD := Lib.hid hrd
        have HE := Lib.hid hext
        clear hacc hrd hext
        by_cases hlt : j < N
        · have hji : j < ids.length := by rw [HN.out]; exact hlt
          obtain ⟨x, rfl, hcx⟩ := HCA.out j (.int .i64 ids[j]) (by rw [List.getElem?_map, List.getElem?_eq_getElem hji]; rfl)
          have hcx2 : wr.cell? (x.add j) = some (.int .i64 ids[j]) := (HE.out.cell (lt_of_cell hcx)).trans hcx
          have hwfj := HWF.out ids[j] (List.getElem_mem hji)
          have HRE := Lib.hid (refRead_any q g s ids[j] wr (HRS.out.mono HE.out) HOK.out hwfj.1 hwfj.2)
          by_cases hr0 : (readS s ids[j]).2 = 0
          · have HST := Lib.hid (gone_step hji acc hr0)
            have HLE := Lib.hid (readS_len HOK.out ids[j] hr0)
            rw [hr0] at HRE
            generalize (readS s ids[j]).1 = T at HRE HST HLE
            generalize ids[j] = k at hcx2 HRE
            clear hcx hwfj hr0 hji
            have hsz : (ByteArray.mk acc.toArray).size = 56 * j := by rw [← HAC.out]; show acc.toArray.size = _; simp
            have hszT : (ByteArray.mk T.toArray).size = 56 := by rw [← HLE.out]; show T.toArray.size = _; simp
            go_wp2_with fail
            refine HRE.out.mono ?_
            rintro e w3 ⟨rfl, hx3⟩
            have HX3 := Lib.hid hx3
            clear hx3
            go_wp2_with fail
            go_roundw
            case rel => exact ⟨j + 1, acc ++ T, by omega, by go_num, by rw [str_append], by rw [List.length_append, HAC.out, HLE.out]; omega, by rw [HRD.out, HST.out], Ext.trans HE.out HX3.out⟩
            case measure => simp [intOf]; omega
          · have HBD := Lib.hid (show readsS s ids = ([], (readS s ids[j]).2) from by rw [HRD.out, gone_bad hji acc hr0])
            have hre := readS_err (s := s) ids[j]
            generalize (readS s ids[j]).2 = E at HRE HBD hr0 hre
            generalize (readS s ids[j]).1 = T at HRE
            generalize ids[j] = k at hcx2 HRE
            have hq0 : (E == 0) = false := beq_eq_false_iff_ne.2 hr0
            have HG := Lib.hid (show getS s ids M = ([], E) from by rw [HGT.out, HBD.out]; exact if_pos hr0)
            have hE0 : 0 ≤ E ∧ E ≤ 6 := by omega
            clear hcx hwfj hr0 hji hre
            go_wp2_with fail
            refine HRE.out.mono ?_
            rintro e w3 ⟨rfl, hx3⟩
            have HX3 := Lib.hid hx3
            clear hx3
            go_wp2_with fail
            go_ret2
            unfold Gotten
            rw [HG.out]
            exact ⟨rfl, Ext.trans HE.out HX3.out⟩
        · have hjN : j = N := by omega
          subst hjN
          have HF := Lib.hid (show readsS s ids = (acc, 0) from by rw [HRD.out, List.drop_eq_nil_of_le (by rw [HN.out]; exact Nat.le_refl _)]; simp [readsS, gone])
          have hsz : (ByteArray.mk acc.toArray).size = 56 * j := by rw [← HAC.out]; show acc.toArray.size = _; simp
          have HZ := Lib.hid (show ∀ k, M ≤ k → ((acc.drop M).take (k + 1 - M)).all (· == 0) = (((acc.drop M).take (k - M)).all (· == 0) && ((acc.drop M).getD (k - M) 0 == 0)) from fun k hk => by
            rw [show k + 1 - M = (k - M) + 1 by omega, List.take_add_one, List.all_append, List.getD_eq_getElem?_getD]
            cases (acc.drop M)[k - M]? <;> simp)
          clear hlt
          go_wp2_with fail
          go_loopw [12] (fun i wz => ∃ k : Nat, M ≤ k ∧ k ≤ 56 * j ∧ i = .int .i64 k ∧ ((acc.drop M).take (k - M)).all (· == 0) = true ∧ wz = wr) (fun i _ => 56 * j - (intOf i).toNat)
          case atStart => exact ⟨M, Nat.le_refl _, hMN, rfl, by rw [Nat.sub_self]; rfl, rfl⟩
          case round =>
            obtain ⟨k, hk1, hk2, rfl, hall, rfl⟩ := hrel
            have HALL := Lib.hid hall
            clear hall
            by_cases hk : k < 56 * j
            · have hka : k < acc.length := by rw [HAC.out]; exact hk
              have HC := Lib.hid (show (acc.drop M).getD (k - M) 0 = acc[k] from by rw [List.getD_eq_getElem?_getD, List.getElem?_drop, show M + (k - M) = k by omega, List.getElem?_eq_getElem hka]; rfl)
              have hget : (ByteArray.mk acc.toArray)[k]? = some acc[k] := by
                have h1 : k < (ByteArray.mk acc.toArray).size := by rw [hsz]; exact hk
                rw [getElem?_pos (ByteArray.mk acc.toArray) k h1]
                rfl
              have hidx : ∀ W, (Instr.index 9 (.string ⟨acc.toArray⟩) (.int .i64 k)).run Try.prog W = .ok (.int .u8 (acc[k].toNat : Int)) W := fun W => by
                simp [Instr.index, run_underlying Try.underlying9, go_sem, hget]
              have HZK := Lib.hid (HZ.out k hk1)
              rw [HC.out, HALL.out, Bool.true_and] at HZK
              by_cases hc0 : acc[k] = 0
              · have HN2 := Lib.hid (show ((acc.drop M).take (k + 1 - M)).all (· == 0) = true from by rw [HZK.out, hc0]; rfl)
                rw [hc0] at hidx
                have hidx2 : ∀ W, (Instr.index 9 (.string ⟨acc.toArray⟩) (.int .i64 k)).run Try.prog W = .ok (.int .u8 0) W := hidx
                clear hget hidx hc0 HC hka HZK
                go_wp2_with fail
                go_roundw
                case rel => exact ⟨k + 1, by omega, by omega, by go_num, HN2.out, trivial⟩
                case measure => simp [intOf]; omega
              · have HG := Lib.hid (show getS s ids M = ([], 6) from by
                  rw [HGT.out, HF.out]
                  simp only
                  rw [if_neg (by decide), if_neg]
                  intro h
                  have h2 : acc[k] ∈ acc.drop M := by
                    have h3 : (acc.drop M)[k - M]? = some acc[k] := by rw [List.getElem?_drop, show M + (k - M) = k by omega, List.getElem?_eq_getElem hka]
                    exact List.mem_of_getElem? h3
                  have h4 := List.all_eq_true.1 h acc[k] h2
                  exact hc0 (by simpa using h4))
                obtain ⟨c, hc⟩ : ∃ c : Nat, c = acc[k].toNat := ⟨_, rfl⟩
                have hcne : ((c : Int) == 0) = false := by
                  rw [beq_eq_false_iff_ne, hc]
                  intro h
                  exact hc0 (UInt8.toNat_inj.1 (by have h5 : acc[k].toNat = 0 := by omega
                                                   rw [h5]; rfl))
                rw [← hc] at hidx
                clear hget hc0 HC hka HZK hc
                go_wp2_with fail
                go_ret2
                unfold Gotten
                rw [HG.out]
                exact ⟨rfl, HE.out⟩
            · have hkj : k = 56 * j := by omega
              subst hkj
              have HG := Lib.hid (show getS s ids M = (acc.take M, 0) from by
                rw [HGT.out, HF.out]
                have h := HALL.out
                rw [List.take_of_length_le (by rw [List.length_drop, HAC.out]; exact Nat.le_refl _)] at h
                simp only
                rw [if_neg (by decide), if_pos h])
              have hext : (ByteArray.mk acc.toArray).extract 0 M = ⟨(acc.take M).toArray⟩ := by
                apply ByteArray.ext
                simp [ByteArray.data_extract]
              clear hk
              go_wp2_with fail
              go_ret2
              unfold Gotten
              rw [HG.out]
              exact ⟨rfl, HE.out⟩
    · have hg : getS s ids n = ([], 1) := by unfold getS; rw [if_pos (.inr hne)]
      have HG := Lib.hid hg
      have hq : ((ids.length : Int) == needS n) = false := beq_eq_false_iff_ne.2 hne
      clear hg hne
      generalize needS n = ND at HND hnd hq
      generalize ids.length = N at hc1 hids hq ⊢
      go_enter Try.func35, Try.ntmps35
      go_wp2_with fail
      refine HND.out.mono ?_
      rintro e w2 ⟨rfl, rfl⟩
      go_wp2_with fail
      go_ret2
      unfold Gotten
      rw [HG.out]
      exact ⟨rfl, Ext.keeps.refl _⟩

end Go.Proofs.Ythelgjoobckbaaa
