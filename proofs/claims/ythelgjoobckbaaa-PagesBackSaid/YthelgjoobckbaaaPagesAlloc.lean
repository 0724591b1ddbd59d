/-
  The contract of the document's own Alloc.
-/
import Derived.Test.YthelgjoobckbaaaPagesFlip
namespace Go.Proofs.Ythelgjoobckbaaa
open Go.RowKit Go.BigFrame

theorem Try.info_int : (Try.prog.info? 3).map (fun i => (i.zero, i.size, i.bytes)) = some (some (.int .i64 0), 1, 8) := by kernel_rfl

def iv (k : Nat) : Value := .int .i64 (k : Int)

theorem allocS_fits {s : St} (n : Int) (hn : ¬ n < 0) (hf : ¬ (s.length : Int) - usedS s < n) : allocS s n = (((takeS 0 n.toNat s).1, 0), (takeS 0 n.toNat s).2) := by
  unfold allocS
  rw [if_neg hn, if_neg hf]

/-- Alloc's answer. -/
def Alloced (w : World) (q g : Nat) (s : St) (n : Int) (e : Ending) (w' : World) : Prop :=
  ∃ v, e = .returned (.tuple #[v, .int .i64 (allocS s n).1.2]) ∧ w'.ownsRow w.heap.size 3 1 v (allocS s n).1.1.length ((allocS s n).1.1.map iv) ∧ RSto w' q g (allocS s n).2 ∧ OnlyP g w w'

theorem own_only {base g : Nat} {e : TypeId} {w w' : World} {v : Value} {n : Nat} {xs : List Value} (h : w.ownsRow base e 1 v n xs) (ho : OnlyP g w w') (hg : g < base) : w'.ownsRow base e 1 v n xs :=
  h.kept (row := some g) ho (.inr (fun hh => by have := (h.lt g hh).1; omega))

theorem OnlyP.below {g : Nat} {x y z : World} (h : OnlyP g x y) (hb : Below x.heap.size y z) : OnlyP g x z :=
  ⟨hb.os.trans h.os, hb.tape.trans h.tape, hb.output.trans h.output, Nat.le_trans h.size hb.size, fun i hi hne => (hb.block i hi).trans (h.block i hi hne)⟩
theorem RSto.below {N : Nat} {w w' : World} {q g : Nat} {s : St} (h : RSto w q g s) (hb : Below N w w') (hq : q < N) (hg : g < N) : RSto w' q g s := by
  refine ⟨?_, fun i o hi j u hj => ?_, fun j => ?_, h.ne, Nat.lt_of_lt_of_le h.lt hb.size, h.few⟩
  · rw [hb.cell (p := ⟨q, 0, none⟩) hq]; exact h.top
  · have := h.at' i o hi j u hj
    rw [hb.cell (p := ⟨g, i * 2 + j, none⟩) hg]; exact this
  · have := h.free j
    unfold World.frozen? at this ⊢
    rw [hb.block g hg]
    exact this
theorem takeS_nil (j n : Nat) : takeS j n [] = ([], []) := by cases n <;> simp [takeS]
theorem takeS_zero (j : Nat) (s : St) : takeS j 0 s = ([], s) := by simp only [takeS]
theorem takeS_none (j n : Nat) (t : St) (h : 0 < n) : takeS j n (none :: t) = (j :: (takeS (j + 1) (n - 1) t).1, some (layP j []) :: (takeS (j + 1) (n - 1) t).2) := by
  obtain ⟨k, rfl⟩ : ∃ k, n = k + 1 := ⟨n - 1, by omega⟩
  rfl
theorem takeS_some (j n : Nat) (p : List UInt8) (t : St) (h : 0 < n) : takeS j n (some p :: t) = ((takeS (j + 1) n t).1, some p :: (takeS (j + 1) n t).2) := by
  obtain ⟨k, rfl⟩ : ∃ k, n = k + 1 := ⟨n - 1, by omega⟩
  rfl

set_option maxRecDepth 100000 in
set_option maxHeartbeats 1000000 in
theorem refAlloc_any (q g : Nat) (s : St) (n : Int) (w : World) (h : RSto w q g s) (h0 : -9223372036854775808 ≤ n) (h1 : n ≤ 9223372036854775807) :
    Calls Try.prog 30 #[.pointer (some ⟨q, 0, none⟩), .int .i64 n] w (Alloced w q g s n) := by
  have hq := h.top
  have hfew := h.few
  have HR := Lib.hid h
  have HU := Lib.hid (refUsed_any q g s w.drew (h.mono (Ext.drew w)))
  have hus : usedS s ≤ s.length := List.countP_le_length
  by_cases hn : n < 0
  · have ha : allocS s n = (([], 1), s) := by unfold allocS; rw [if_pos hn]
    unfold Alloced
    rw [ha]
    clear ha hq hfew h hus
    go_enter Try.func30, Try.ntmps30
    go_wp2_with fail
    go_ret2
    exact ⟨_, rfl, World.ownsRow_nil _ _ _ _, HR.out, OnlyP.refl _ _⟩
  · obtain ⟨N, rfl⟩ := Int.eq_ofNat_of_zero_le (show 0 ≤ n by omega)
    have hqd : ∀ z : Later Ext w.drew, z.val.cell? ⟨q, 0, none⟩ = some (.slice (some ⟨g, 0, none⟩) s.length s.length) := fun z => (z.ext.cell (lt_of_cell (show w.drew.cell? ⟨q, 0, none⟩ = _ from hq))).trans hq
    by_cases hf : (s.length : Int) - usedS s < N
    · have ha : allocS s N = (([], 4), s) := by unfold allocS; rw [if_neg hn, if_pos hf]
      unfold Alloced
      rw [ha]
      have hd : decide ((s.length : Int) - usedS s < N) = true := decide_eq_true hf
      clear ha h hf
      generalize usedS s = U at HU hus hd
      generalize s.length = L at hq hfew hus hd hqd
      go_enter Try.func30, Try.ntmps30
      go_wp2_with fail
      refine wp_region_segs Ext Ext.keeps [([0, 1, 2, 3, 4, 5, 6], some 7), ([8, 9], none)] (by kernel_rfl) (by kernel_rfl) (fun c a a' w e h => (by exact ⟨e ▸ h.1, h.2⟩)) ?_
      simp only [pickSegs, pickOps, List.map_cons, List.map_nil, Option.map_some, Option.map_none, Option.getD_some, List.getElem?_toArray, List.getElem?_cons_zero, List.getElem?_cons_succ]
      refine wpSegs_some fun K hK => ?_
      repeat go_big_quiet_step (fail)
      refine wpQuiet_nil ?_
      clear hqd
      go_wp2_with fail
      refine HU.out.mono ?_
      rintro e w2 ⟨rfl, rfl⟩
      go_wp2_with fail
      refine ⟨Ext.keeps.refl _, hK _ _ ?_⟩
      clear hK K
      refine wpSegs_none ?_
      repeat go_big_quiet_step (fail)
      refine wpQuiet_nil (wpSegs_nil ?_)
      go_wp2_with fail
      go_ret2
      exact ⟨_, rfl, World.ownsRow_nil _ _ _ _, HR.out.mono (Ext.drew w), OnlyP.of_ext (Ext.drew w)⟩
    · have ha := allocS_fits (s := s) (n := (N : Int)) hn hf
      unfold Alloced
      rw [ha]
      simp only [Int.toNat_natCast]
      obtain ⟨i0, hi, hz0, hz1, hz2⟩ := info_parts Try.info_int
      obtain ⟨T, hT⟩ : ∃ T, takeS 0 N s = T := ⟨_, rfl⟩
      rw [hT]
      replace hT := Lib.hid hT
      have hd : decide ((s.length : Int) - usedS s < N) = false := decide_eq_false hf
      have hNl : N ≤ s.length := by omega
      have hNl : N ≤ 4096 := by omega
      have hqw : q < w.heap.size := lt_of_cell hq
      have hgw : g < w.heap.size := h.lt
      clear ha h hf
      generalize usedS s = U at HU hus hd
      generalize hL : s.length = L at hq hfew hus hd hqd
      replace hL := Lib.hid hL
      go_enter Try.func30, Try.ntmps30
      go_wp2_with fail
      refine wp_region_segs Ext Ext.keeps [([0, 1, 2, 3, 4, 5, 6], some 7), ([8, 9], none)] (by kernel_rfl) (by kernel_rfl) (fun c a a' w e h => (by exact ⟨e ▸ h.1, h.2⟩)) ?_
      simp only [pickSegs, pickOps, List.map_cons, List.map_nil, Option.map_some, Option.map_none, Option.getD_some, List.getElem?_toArray, List.getElem?_cons_zero, List.getElem?_cons_succ]
      refine wpSegs_some fun K hK => ?_
      repeat go_big_quiet_step (fail)
      refine wpQuiet_nil ?_
      clear hqd
      go_wp2_with fail
      refine HU.out.mono ?_
      rintro e w2 ⟨rfl, rfl⟩
      go_wp2_with fail
      refine ⟨Ext.keeps.refl _, hK _ _ ?_⟩
      clear hK K
      refine wpSegs_none ?_
      repeat go_big_quiet_step (fail)
      refine wpQuiet_nil (wpSegs_nil ?_)
      clear hd hus
      go_wp2_with fail
      go_loopw [6, 7] (fun l i wr => ∃ (j m : Nat) (ids : List Nat) (pre rest : St), j ≤ L ∧ m ≤ N ∧ i = .int .i64 j ∧ pre.length = j ∧ j + rest.length = L ∧ ids.length = m ∧ T = (ids ++ (takeS j (N - m) rest).1, pre ++ (takeS j (N - m) rest).2) ∧ wr.ownsRow w.heap.size 3 1 l m (ids.map iv) ∧ RSto wr q g (pre ++ rest) ∧ OnlyP g w wr) (fun _ i _ => L - (intOf i).toNat)
      case atStart => exact ⟨0, 0, [], [], s, Nat.zero_le _, Nat.zero_le _, rfl, rfl, by rw [Nat.zero_add]; exact hL.out, rfl, by rw [Nat.sub_zero, hT.out]; rfl, World.ownsRow_nil _ _ _ _, HR.out.mono (Ext.drew w), OnlyP.of_ext (Ext.drew w)⟩
      case round =>
        obtain ⟨j, m, ids, pre, rest, hjL, hmN, rfl, hpre, hrest, hids, hTe, hown, hsto, honly⟩ := hrel
        obtain ⟨a, cap, rfl, hc1, hc2⟩ := own_shape hown
        unfold maxLen at hc2
        have HP := Lib.hid hpre
        have HRS := Lib.hid hrest
        have HI := Lib.hid hids
        have HT := Lib.hid hTe
        have HO := Lib.hid hown
        have HS := Lib.hid hsto
        have HON := Lib.hid honly
        have hlen : (pre ++ rest).length = L := by rw [List.length_append, hpre]; exact hrest
        have hqr : wr.cell? ⟨q, 0, none⟩ = some (.slice (some ⟨g, 0, none⟩) L L) := by rw [← hlen]; exact hsto.top
        clear hpre hrest hids hTe hown hsto honly hlen
        by_cases hj : j < L
        · by_cases hm : m < N
          · cases rest with
            | nil => have := HRS.out; simp at this; omega
            | cons o t =>
              have hat : (pre ++ o :: t)[j]? = some o := by rw [List.getElem?_append_right (by have := HP.out; omega), HP.out]; simp
              have hon := HS.out.on hat
              cases o with
              | some p =>
                simp only [Option.isSome_some] at hon
                go_wp2_with fail
                go_roundw
                case rel => exact ⟨j + 1, m, ids, pre ++ [some p], t, by omega, hmN, by go_num, by rw [List.length_append, HP.out]; rfl, by have := HRS.out; simp at this; omega, HI.out, by rw [HT.out, takeS_some _ _ _ _ (by omega)]; simp, HO.out, by have := HS.out; simpa using this, HON.out⟩
                case measure => simp [intOf]; omega
              | none =>
                simp only [Option.isSome_none] at hon
                have hqz : ∀ z : Later (OnlyP g) wr.drew, z.val.cell? ⟨q, 0, none⟩ = some (.slice (some ⟨g, 0, none⟩) L L) := fun z => World.grownBy.cell z.ext (show wr.drew.cell? ⟨q, 0, none⟩ = _ from hqr) (fun hh => HS.out.ne (by simpa using hh))
                have HLY := Lib.hid (fun W => refLay_any j (.slice none 0 0) [] W (Rd.nil W) (by simp) (by omega))
                have HAT := Lib.hid hat
                generalize hM : layP j [] = M at HLY
                replace hM := Lib.hid hM
                have hLM : j ≤ 4096 := by omega
                go_wp2_with fail
                refine wp_region_segs (OnlyP g) (OnlyP.keeps _) [([0, 1, 2, 3, 4, 5], some 6), ([], some 7), ([8], some 9)] (by kernel_rfl) (by kernel_rfl) (fun c a a' w e h => (by exact ⟨e ▸ h.1, h.2⟩)) ?_
                simp only [pickSegs, pickOps, List.map_cons, List.map_nil, Option.map_some, Option.getD_some, List.getElem?_toArray, List.getElem?_cons_zero, List.getElem?_cons_succ]
                refine wpSegs_some fun K hK => ?_
                repeat go_big_quiet_step (fail)
                refine wpQuiet_nil ?_
                clear hqz
                go_wp2_with fail
                refine (HLY.out _).mono ?_
                rintro e w3 ⟨rfl, hx3⟩
                have HX3 := Lib.hid hx3
                have HS3 := Lib.hid (HS.out.mono (Ext.trans (Ext.drew wr) hx3))
                have ON3 := Lib.hid (OnlyP.of_ext (g := g) (Ext.trans (Ext.drew wr) hx3))
                clear hx3
                go_wp2_with fail
                refine ⟨OnlyP.of_ext HX3.out, hK _ _ ?_⟩
                clear hK K
                refine wpSegs_some fun K hK => ?_
                refine wpQuiet_nil ?_
                go_wp2_with fail
                refine ⟨OnlyP.refl _ _, hK _ _ ?_⟩
                clear hK K
                refine wpSegs_some fun K hK => ?_
                repeat go_big_quiet_step (fail)
                refine wpQuiet_nil ?_
                have c0 := HS3.out.on HAT.out
                have c1 := HS3.out.at' j _ HAT.out 1 _ rfl
                have f0 := HS3.out.free (j * 2)
                have f1 := HS3.out.free (j * 2 + 1)
                have HS4 := Lib.hid (show RSto ((w3.setCell ⟨g, j * 2, none⟩ (.bool true)).setCell ⟨g, j * 2 + 1, none⟩ (.string ⟨M.toArray⟩)) q g ((pre ++ none :: t).set j (some M)) from HS3.out.put (i := j) (by have := HP.out; have := HRS.out; rw [List.length_append]; simp; omega) (some M) _ _ rfl)
                have ON4 := Lib.hid (show OnlyP g wr ((w3.setCell ⟨g, j * 2, none⟩ (.bool true)).setCell ⟨g, j * 2 + 1, none⟩ (.string ⟨M.toArray⟩)) from OnlyP.trans ON3.out (OnlyP.trans (OnlyP.set g (j * 2) _ _) (OnlyP.set g (j * 2 + 1) _ _)))
                simp only [Option.isSome_none] at c0
                go_wp2_with fail
                refine ⟨OnlyP.trans (OnlyP.set g (j * 2) _ _) (OnlyP.set g (j * 2 + 1) _ _), hK _ _ ?_⟩
                clear hK K c0 c1 f0 f1
                refine wpSegs_nil ?_
                generalize (w3.setCell ⟨g, j * 2, none⟩ (.bool true)).setCell ⟨g, j * 2 + 1, none⟩ (.string ⟨M.toArray⟩) = W4 at HS4 ON4 ⊢
                have HO4 := Lib.hid (own_only HO.out ON4.out hgw)
                have HW4 := Lib.hid (show w.heap.size ≤ W4.heap.size from Nat.le_trans HON.out.size ON4.out.size)
                have HB4 := Lib.hid (show Below w.heap.size W4 (W4.alloc (.cells #[.int .i64 (j : Int)] 3)) from (Below.refl _ W4).alloc HW4.out _)
                go_wp2_with (at_builtin; go_must (refine wpList_append_own _ rfl (.tmp 53) (.tmp 55) 34 rfl w.heap.size 3 i0 (.int .i64 0) 1 8 Try.underlying34 hi hz0 hz1 hz2 rfl (by decide) _ _ _ rfl (HO4.out.alloc _) ⟨W4.heap.size, 0, none⟩ 1 1 [.int .i64 (j : Int)] rfl rfl (row_new W4 [.int .i64 (j : Int)] 3) (by simp [Value.oneCell']) (by unfold maxLen; first | omega | (simp; omega)) (by first | omega | (simp; omega)) (by have := HW4.out; first | omega | (simp; omega)) ?_); intro v5 w5 hown5 hgrow5 _; have HO5 := Lib.hid hown5; have HB5 := Lib.hid (show Below w.heap.size W4 w5 from HB4.out.grown hgrow5 (by have := HW4.out; simp; omega) (fun k hk => (HO4.out.lt k hk).1)); clear hown5 hgrow5)
                go_roundw
                case rel =>
                  refine ⟨j + 1, m + 1, ids ++ [j], pre ++ [some M], t, by omega, by omega, by go_num, by rw [List.length_append, HP.out]; rfl, by have := HRS.out; simp at this; omega, by rw [List.length_append, HI.out]; rfl, ?_, ?_, ?_, ?_⟩
                  · rw [HT.out, takeS_none _ _ _ (by omega), hM.out]
                    simp [Nat.sub_sub]
                  · have h := HO5.out
                    rw [List.map_append]
                    exact h
                  · have h := HS4.out
                    rw [List.set_append_right _ _ (by have := HP.out; omega), HP.out] at h
                    have h2 := h.below HB5.out hqw hgw
                    simpa using h2
                  · exact (OnlyP.trans HON.out ON4.out).below HB5.out
                case measure => simp [intOf]; omega
          · have hmN2 : m = N := by omega
            subst hmN2
            have HTF := Lib.hid (show T = (ids, pre ++ rest) from by rw [HT.out, Nat.sub_self, takeS_zero]; simp)
            go_wp2_with fail
            go_ret2
            refine ⟨_, rfl, ?_, by rw [HTF.out]; exact HS.out, HON.out⟩
            rw [HTF.out]
            simp only
            rw [HI.out]
            exact HO.out
        · have hr0 : rest = [] := List.length_eq_zero_iff.1 (by have := HRS.out; omega)
          have HTF := Lib.hid (show T = (ids, pre ++ rest) from by rw [HT.out, hr0, takeS_nil]; simp)
          clear hr0
          go_wp2_with fail
          go_ret2
          refine ⟨_, rfl, ?_, by rw [HTF.out]; exact HS.out, HON.out⟩
          rw [HTF.out]
          simp only
          rw [HI.out]
          exact HO.out

end Go.Proofs.Ythelgjoobckbaaa
