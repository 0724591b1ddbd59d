/-
  The contract of the document's own Put.
-/
import Derived.Test.YthelgjoobckbaaaPagesNew
namespace Go.Proofs.Ythelgjoobckbaaa
open Go.RowKit Go.BigFrame

theorem takeS_count : ∀ (n i : Nat) (s : St), n + usedS s ≤ s.length → (takeS i n s).1.length = n
  | 0, i, s, _ => by rw [takeS_zero]; rfl
  | n + 1, i, [], h => by simp [usedS] at h
  | n + 1, i, none :: t, h => by
    rw [takeS_none _ _ _ (by omega)]
    simp only [List.length_cons, Nat.add_sub_cancel]
    rw [takeS_count n (i + 1) t (by simp [usedS] at h ⊢; omega)]
  | n + 1, i, some p :: t, h => by
    rw [takeS_some _ _ _ _ (by omega)]
    exact takeS_count (n + 1) (i + 1) t (by simp [usedS] at h ⊢; omega)
theorem takeS_has : ∀ (n i : Nat) (s : St), ∀ id ∈ (takeS i n s).1, i ≤ id ∧ ∃ p, (takeS i n s).2[id - i]? = some (some p)
  | 0, i, s, id, h => by rw [takeS_zero] at h; cases h
  | n + 1, i, [], id, h => by rw [takeS_nil] at h; cases h
  | n + 1, i, none :: t, id, h => by
    rw [takeS_none _ _ _ (by omega)] at h ⊢
    simp only [Nat.add_sub_cancel, List.mem_cons] at h ⊢
    rcases h with rfl | h
    · exact ⟨Nat.le_refl _, _, by rw [Nat.sub_self]; rfl⟩
    · obtain ⟨h1, p, hp⟩ := takeS_has n (i + 1) t id h
      exact ⟨by omega, p, by rw [show id - i = (id - (i + 1)) + 1 by omega]; exact hp⟩
  | n + 1, i, some q :: t, id, h => by
    rw [takeS_some _ _ _ _ (by omega)] at h ⊢
    obtain ⟨h1, p, hp⟩ := takeS_has (n + 1) (i + 1) t id h
    exact ⟨by omega, p, by rw [show id - i = (id - (i + 1)) + 1 by omega]; exact hp⟩

theorem rd_part {bb off L cap lo hi : Nat} {l : List UInt8} {w : World} (hr : Rd w (.slice (some ⟨bb, off, none⟩) L cap) l) (hL : L = l.length) (h1 : lo ≤ hi) (h2 : hi ≤ L) :
    Rd w (.slice (some ⟨bb, off + lo, none⟩) (hi - lo) (cap - lo)) ((l.drop lo).take (hi - lo)) := by
  rcases hr with ⟨h0, _⟩ | ⟨x, cap', h3, h4, h5, h6⟩
  · cases h0
  · simp only [Value.slice.injEq, Option.some.injEq] at h3
    obtain ⟨rfl, _, rfl⟩ := h3
    rw [List.length_map] at h4
    refine .inr ⟨⟨bb, off + lo, none⟩, cap - lo, by rw [List.length_map, List.length_take, List.length_drop]; congr 1; omega, by rw [List.length_map, List.length_take, List.length_drop]; omega, by omega, fun i u hu => ?_⟩
    rw [List.map_take, List.map_drop, List.getElem?_take] at hu
    split at hu
    · rw [List.getElem?_drop] at hu
      have := h6 (lo + i) u hu
      rw [add_at] at this ⊢
      rw [Nat.add_assoc]
      exact this
    · cases hu

/-- Put's answer. -/
def Putted (w : World) (q g : Nat) (s : St) (l : List UInt8) (e : Ending) (w' : World) : Prop :=
  ∃ v, e = .returned (.tuple #[v, .int .i64 (putS s l).1.2]) ∧ w'.ownsRow w.heap.size 3 1 v (putS s l).1.1.length ((putS s l).1.1.map iv) ∧ RSto w' q g (putS s l).2 ∧ OnlyP g w w'

set_option maxRecDepth 100000 in
set_option maxHeartbeats 1000000 in
theorem refPutS_any (q g : Nat) (s : St) (b : Value) (l : List UInt8) (w : World) (h : RSto w q g s) (hok : okS s) (hr : Rd w b l) (hbg : l ≠ [] → ∀ k, b.ownBlock = some k → k ≠ g) (hl : l.length ≤ 1000000) :
    Calls Try.prog 34 #[.pointer (some ⟨q, 0, none⟩), b] w (Putted w q g s l) := by
  obtain ⟨ab, cb, rfl, hcb1, hcb2⟩ := hr.shape
  have HRD := Lib.hid hr
  have HND := Lib.hid (fun w => refNeed_any (l.length : Int) w (by omega) (by omega))
  have hnb : 0 ≤ needS (l.length : Int) ∧ needS (l.length : Int) ≤ 20000 := by unfold needS; split <;> omega
  have HAL := Lib.hid (refAlloc_any q g s (needS l.length) w h (by omega) (by omega))
  unfold maxLen at hcb2
  have hgw : g < w.heap.size := h.lt
  by_cases he : (allocS s (needS l.length)).1.2 = 0
  · have hput : putS s l = (((allocS s (needS l.length)).1.1, 0), writesS (allocS s (needS l.length)).1.1 l (allocS s (needS l.length)).2) := by unfold putS; rw [if_pos he]
    have HPT := Lib.hid hput
    have hfit : ¬ needS (l.length : Int) < 0 ∧ ¬ (s.length : Int) - usedS s < needS (l.length : Int) := by
      unfold allocS at he
      split at he
      · cases he
      · split at he
        · cases he
        · exact ⟨by assumption, by assumption⟩
    have hal := allocS_fits (s := s) (needS (l.length : Int)) hfit.1 hfit.2
    obtain ⟨n, hn⟩ : ∃ n : Nat, needS (l.length : Int) = n := ⟨(needS (l.length : Int)).toNat, by omega⟩
    have hokA := allocS_ok hok (needS (l.length : Int))
    rw [hal] at HPT hokA
    unfold Alloced at HAL
    rw [hal] at HAL
    simp only [hn, Int.toNat_natCast] at HPT hokA HAL hfit hnb
    have hcount := takeS_count n 0 s (by have : usedS s ≤ s.length := List.countP_le_length; omega)
    have hhas : ∀ id ∈ (takeS 0 n s).1, ∃ p, (takeS 0 n s).2[id]? = some (some p) := fun id hid => by
      have := (takeS_has n 0 s id hid).2
      rwa [Nat.sub_zero] at this
    generalize hI : (takeS 0 n s).1 = I at HPT HAL hcount hhas
    generalize (takeS 0 n s).2 = S1 at HPT HAL hokA hhas
    have HOK := Lib.hid hokA
    have HHAS := Lib.hid hhas
    have HCN := Lib.hid hcount
    have HNN := Lib.hid (show needS (l.length : Int) = n from hn)
    have hnb2 : n ≤ 20000 := by omega
    rw [hn] at HND
    obtain ⟨N, hN⟩ : ∃ N, l.length = N := ⟨_, rfl⟩
    have HLN := Lib.hid hN
    rw [hN] at HND hcb1 hl HRD ⊢
    clear hput he hal hI hokA hhas hcount hfit hnb hn hN h hr
    go_enter Try.func34, Try.ntmps34
    go_wp2_with fail
    refine (HND.out _).mono ?_
    rintro e w1 ⟨rfl, rfl⟩
    go_wp2_with fail
    refine HAL.out.mono ?_
    rintro e w2 ⟨v2, rfl, hown, hst2, hon2⟩
    obtain ⟨ai, capi, rfl, hci1, hci2⟩ := own_shape hown
    rw [HCN.out] at hci1 hown ⊢
    unfold maxLen at hci2
    have HO2 := Lib.hid hown
    have HS2 := Lib.hid hst2
    have HN2 := Lib.hid hon2
    clear hown hst2 hon2
    go_wp2_with fail
    go_loopw [8] (fun i wr => ∃ (j : Nat) (S : St), j ≤ n ∧ i = .int .i64 j ∧ writesS I l S1 = writesS (I.drop j) (l.drop (j * 56)) S ∧ RSto wr q g S ∧ (∀ id ∈ I, ∃ p, S[id]? = some (some p)) ∧ OnlyP g w2 wr) (fun i _ => n - (intOf i).toNat)
    case atStart => exact ⟨0, S1, Nat.zero_le _, rfl, by rw [Nat.zero_mul]; rfl, HS2.out, HHAS.out, OnlyP.refl _ _⟩
    case round =>
      obtain ⟨j, S, hj, rfl, hw, hs, hh, ho⟩ := hrel
      have HW := Lib.hid hw
      have HS := Lib.hid hs
      have HH := Lib.hid hh
      have HO := Lib.hid ho
      clear hw hs hh ho
      by_cases hlt : j < n
      · have hNj : j * 56 < N := by
          have h1 := HNN.out
          rw [HLN.out] at h1
          unfold needS at h1
          split at h1 <;> omega
        have hjI : j < I.length := by rw [HCN.out]; exact hlt
        have hcb0 := HRD.out
        rcases hcb0 with ⟨h0, h0'⟩ | ⟨x, cap', h3, h4, h5, h6⟩
        · exfalso
          have := HLN.out
          have h7 : l = [] := by simpa using h0'
          rw [h7] at this
          simp at this
          omega
        · simp only [Value.slice.injEq] at h3
          obtain ⟨rfl, -, rfl⟩ := h3
          have hl0 : 0 < l.length := by rw [HLN.out]; omega
          obtain ⟨bb, off, rfl, _⟩ := plain_of (h6 0 (bv l[0]) (by rw [List.getElem?_map, List.getElem?_eq_getElem hl0]; rfl))
          clear h4 h5 h6
          have hbne : bb ≠ g := hbg (by rintro rfl; simp at hl0) bb rfl
          obtain ⟨H, hH, hH1, hH2, hH3, hH4⟩ : ∃ H : Nat, (if ((j : Int) + 1) * 56 < (N : Int) then ((j : Int) + 1) * 56 else (N : Int)) = (H : Int) ∧ j * 56 < H ∧ H ≤ N ∧ H - j * 56 ≤ 56 ∧ (H = N ∨ H = (j + 1) * 56) := ⟨min N ((j + 1) * 56), by split <;> omega, by omega, by omega, by omega, by omega⟩
          have hpart : (l.drop (j * 56)).take (H - j * 56) = (l.drop (j * 56)).take 56 := by
            rcases hH4 with h | h
            · rw [List.take_of_length_le (by rw [List.length_drop, HLN.out]; omega), List.take_of_length_le (by rw [List.length_drop, HLN.out]; omega)]
            · rw [show H - j * 56 = 56 by omega]
          have hrp := rd_part (lo := j * 56) (hi := H) HRD.out HLN.out.symm (by omega) hH2
          rw [hpart] at hrp
          have hplen : ((l.drop (j * 56)).take 56).length ≤ 56 := by rw [List.length_take]; omega
          have hcapne : ¬ cb = j * 56 := by omega
          obtain ⟨y, hy, hcy⟩ : ∃ y, ai = some y ∧ w2.cell? (y.add j) = some (iv I[j]) := by
            obtain ⟨ao, ca, h7, _, _, h8⟩ := RdV.cellsAt (RdV.of_owns HO2.out)
            simp only [Value.slice.injEq] at h7
            obtain ⟨rfl, -, -⟩ := h7
            exact h8 j (iv I[j]) (by rw [List.getElem?_map, List.getElem?_eq_getElem hjI]; rfl)
          subst hy
          have hyb : y.block ≠ g := by have := (HO2.out.lt y.block rfl).1; omega
          obtain ⟨p, hp⟩ := HH.out I[j] (List.getElem_mem hjI)
          have HD := Lib.hid (show I.drop j = I[j] :: I.drop (j + 1) from List.drop_eq_getElem_cons hjI)
          have hzi : ∀ z : Later (OnlyP g) wr.drew, z.val.cell? (y.add j) = some (iv I[j]) := fun z => World.grownBy.cell (OnlyP.trans (OnlyP.trans HO.out (OnlyP.of_ext (Ext.drew wr))) z.ext) hcy (fun hh => hyb (by have h9 : (y.add j).block = g := (by simpa using hh); rwa [add_block] at h9))
          have hIlt := (List.getElem?_eq_some_iff.1 hp).1
          generalize I[j] = k at hzi hp HD hIlt
          unfold iv at hzi
          have hkb := HS.out.few
          have HPW := Lib.hid (show pageS S (k : Int) = some p from by unfold pageS; rw [if_pos (by omega), Int.toNat_natCast, hp]; rfl)
          have HWR := Lib.hid (fun W hx => refWrite_any q g S (k : Int) (.slice (some ⟨bb, off + j * 56, none⟩) (H - j * 56) (cb - j * 56)) ((l.drop (j * 56)).take 56) W (HS.out.mono (show Ext wr W from hx)) (by omega) (by omega)
            (rd_onlyP hrp (OnlyP.trans (OnlyP.trans HN2.out HO.out) (OnlyP.of_ext hx)) (fun k' hk' => by cases hk'; exact hbne)))
          have hws : writeS S (k : Int) ((l.drop (j * 56)).take 56) = (0, S.set k (some (layP k ((l.drop (j * 56)).take 56)))) := by
            unfold writeS
            rw [HPW.out]
            simp only
            rw [if_neg (by omega)]
            rfl
          rw [hws] at HWR
          have HP := Lib.hid hp
          clear hrp hplen hpart hcy hp hws hH4
          go_wp2_with fail
          refine wp_region_segs (OnlyP g) (OnlyP.keeps _) [([0, 1, 2, 3, 4, 5, 6, 7, 8, 9, 10, 11, 12, 13, 14], some 15)] (by kernel_rfl) (by kernel_rfl) (fun c a a' w e h => (by exact ⟨e ▸ h.1, h.2⟩)) ?_
          simp only [pickSegs, pickOps, List.map_cons, List.map_nil, Option.map_some, Option.getD_some, List.getElem?_toArray, List.getElem?_cons_zero, List.getElem?_cons_succ]
          refine wpSegs_some fun K hK => ?_
          repeat go_big_quiet_step (fail)
          refine wpQuiet_nil ?_
          clear hzi
          go_wp2_with fail
          refine (HWR.out _ (Ext.drew wr)).mono ?_
          rintro e w3 ⟨rfl, hs3, ho3⟩
          have HS3 := Lib.hid hs3
          have HO3 := Lib.hid ho3
          clear hs3 ho3
          go_wp2_with fail
          refine ⟨HO3.out, hK _ _ ?_⟩
          clear hK K
          refine wpSegs_nil ?_
          go_wp2_with fail
          go_roundw
          case rel =>
            refine ⟨j + 1, S.set k (some (layP k ((l.drop (j * 56)).take 56))), by omega, by go_num, ?_, HS3.out, fun id hid => ?_, OnlyP.trans HO.out (OnlyP.trans (OnlyP.of_ext (Ext.drew wr)) HO3.out)⟩
            · rw [HW.out, HD.out, Nat.succ_mul]
              show writesS (I.drop (j + 1)) ((l.drop (j * 56)).drop 56) _ = writesS (I.drop (j + 1)) (l.drop (j * 56 + 56)) _
              rw [List.drop_drop]
            · obtain ⟨p', hp'⟩ := HH.out id hid
              rw [List.getElem?_set]
              by_cases hki : k = id
              · rw [if_pos hki, if_pos hIlt]
                exact ⟨_, rfl⟩
              · rw [if_neg hki]
                exact ⟨p', hp'⟩
          case measure => simp [intOf]; omega
      · have hjn : j = n := by omega
        subst hjn
        have HF := Lib.hid (show writesS I l S1 = S from by rw [HW.out, List.drop_eq_nil_of_le (by rw [HCN.out]; exact Nat.le_refl _)]; rfl)
        go_wp2_with fail
        go_ret2
        unfold Putted
        rw [HPT.out]
        refine ⟨_, rfl, ?_, by rw [HF.out]; exact HS.out, OnlyP.trans HN2.out HO.out⟩
        have h := own_only HO2.out HO.out hgw
        simp only
        rw [HCN.out]
        exact h
  · have hput : putS s l = (([], (allocS s (needS l.length)).1.2), s) := by unfold putS; rw [if_neg he]
    have hst : (allocS s (needS l.length)).2 = s := by
      unfold allocS at he ⊢
      split
      · rfl
      · split
        · rfl
        · rename_i h1 h2
          rw [if_neg h1, if_neg h2] at he
          exact absurd rfl he
    have HPT := Lib.hid hput
    unfold Alloced at HAL
    rw [hst] at HAL
    have hbd : 0 ≤ (allocS s (needS l.length)).1.2 ∧ (allocS s (needS l.length)).1.2 ≤ 4 := by unfold allocS; split <;> (try split) <;> simp
    generalize (allocS s (needS l.length)).1.1 = I at HAL
    generalize (allocS s (needS l.length)).1.2 = E at HAL HPT he hbd
    generalize needS (l.length : Int) = ND at HND HAL hnb
    generalize l.length = N at HND hcb1 hl
    have hq0 : (E == 0) = false := beq_eq_false_iff_ne.2 he
    clear hput he hst h
    go_enter Try.func34, Try.ntmps34
    go_wp2_with fail
    refine (HND.out _).mono ?_
    rintro e w1 ⟨rfl, rfl⟩
    go_wp2_with fail
    refine HAL.out.mono ?_
    rintro e w2 ⟨v2, rfl, hown, hst2, hon2⟩
    have HS2 := Lib.hid hst2
    have HN2 := Lib.hid hon2
    clear hown hst2 hon2
    go_wp2_with fail
    go_ret2
    unfold Putted
    rw [HPT.out]
    exact ⟨_, rfl, World.ownsRow_nil _ _ _ _, HS2.out, HN2.out⟩

end Go.Proofs.Ythelgjoobckbaaa
