/-
  Texts of this proof, merged: AskEx, MayPure, Prefix, ZoneRef4, Read, CellSay2, Shown, FormOnly, RefRead, RefText, CellRefTake, CellRefTaken, CellSay3.
-/
import Derived.WalkKit
import Derived.Lib.Hide
import Derived.RegionTactic
import Derived.ChangeAlike
import Derived.BigQuiet
import Derived.Outline
import Derived.LoopN
import Derived.Test.YtfnmcdjfdhdlmaaGreatDoorZ8
import Derived.Test.YtfnmcdjfdhdlmaaGreatDoorZ4
import Derived.Test.YtfnmcdjfdhdlmaaGreatDoorZ6
import Derived.Test.YtfnmcdjfdhdlmaaGreatDoorRows
import Derived.Test.YtfnmcdjfdhdlmaaGreatDoorZ3
import Derived.Test.YtfnmcdjfdhdlmaaGreatDoorZ5
/-
  The law's own helpers of conditions: num, small, fits; the document's examples.
-/
namespace Go.Proofs.YtfnmcdjfdhdlmaaGreatDoor
section
open Go.ChangeAt Go.RowKit Go.BigFrame

theorem num14_any (n : Int) (w : World) : Calls Tryz.prog 10 #[.int .i64 n] w fun e w' => e = .returned (.agg #[.int .u8 2, .int .i64 n, .string ⟨#[]⟩]) ∧ Ext w w' := by
  go_enter Tryz.func10, Tryz.ntmps10
  go_wp2_with fail
  refine bodyPost_ret (results_cell_row (P := Tryz.prog) (fn := Tryz.f10) rfl _ _ w.heap.size 36 _ (0, 0) _ rfl (heap_alloc_new _ _) Tryz.underlying36 rfl (by kernel_rfl)) rfl ?_
  exact ⟨rfl, ext_new w _⟩

set_option maxRecDepth 100000 in
theorem small14_any (u : Value) (l : List Nd) (w : World) (hu : RdNds w u l) (hf : FitN 9223372036854775807 l) :
    Calls Tryz.prog 5 #[u] w fun e w' => (∃ b : Bool, e = .returned (.bool b) ∧ (b = true → l.length ≤ 60 ∧ ∀ n ∈ l, n.v.s.length ≤ 200)) ∧ Ext w w' := by
  obtain ⟨ao, cap, rfl, -, -⟩ := hu.shape
  obtain ⟨-, h1, h2, hc⟩ := hu.plain
  have HC := Lib.hid hc
  have HF := Lib.hid hf
  unfold maxLen at h2
  obtain ⟨N, hN⟩ : ∃ N, l.length = N := ⟨_, rfl⟩
  have HN := Lib.hid hN
  rw [hN] at h1 ⊢
  clear hu hc hN hf
  go_enter Tryz.func5, Tryz.ntmps5
  go_wp2_with fail
  go_loopw [7] (fun i wr => ∃ j : Nat, j ≤ N ∧ i = .int .i64 j ∧ (∀ n ∈ l.take j, n.v.s.length ≤ 200) ∧ Ext w wr) (fun i _ => N - (intOf i).toNat)
  case atStart => exact ⟨0, Nat.zero_le _, rfl, fun n hn => by simp at hn, Ext.keeps.refl _⟩
  case round =>
    obtain ⟨j, hj, rfl, hb, hx⟩ := hrel
    have HB := Lib.hid hb
    have HX := Lib.hid hx
    clear hb hx
    by_cases hlt : j < N
    · have hjl : j < l.length := by have := HN.out; omega
      obtain ⟨g, off, rfl, c0, c1, c2, c3, c4, c5⟩ := HC.out j hjl
      have x0 := (HX.out.cell (lt_of_cell c0)).trans c0
      have x1 := (HX.out.cell (lt_of_cell c1)).trans c1
      have x2 := (HX.out.cell (lt_of_cell c2)).trans c2
      have x3 := (HX.out.cell (lt_of_cell c3)).trans c3
      have x4 := (HX.out.cell (lt_of_cell c4)).trans c4
      have x5 := (HX.out.cell (lt_of_cell c5)).trans c5
      have HS := Lib.hid (List.take_succ_eq_append_getElem hjl)
      have hfl := (HF.out _ (List.getElem_mem hjl)).2
      generalize l[j] = nd at x0 x1 x2 x3 x4 x5 HS hfl
      obtain ⟨o, c, kd, ⟨vk, vn, vs⟩⟩ := nd
      simp only at x0 x1 x2 x3 x4 x5 hfl
      clear c0 c1 c2 c3 c4 c5 hjl
      have HX1 := Lib.hid (Ext.trans HX.out (ext_new wr (.cells #[.int .u8 o, .int .i64 c, .int .i64 kd, .int .u8 vk, .int .i64 vn, .string ⟨vs.toArray⟩] 38)))
      by_cases h200 : 200 < vs.length
      · have d : decide (200 < vs.length) = true := decide_eq_true h200
        have d' : decide ((200 : Int) < (vs.length : Int)) = true := decide_eq_true (by omega)
        clear h200
        go_wp2_with fail
        go_ret
        exact ⟨⟨false, rfl, fun h => by cases h⟩, HX1.out⟩
      · have d : decide (200 < vs.length) = false := decide_eq_false h200
        have d' : decide ((200 : Int) < (vs.length : Int)) = false := decide_eq_false (by omega)
        have H2 := Lib.hid h200
        clear h200
        go_wp2_with fail
        go_roundw
        case rel => exact ⟨j + 1, by omega, by go_num, fun n hn => by
          rw [HS.out] at hn
          rcases List.mem_append.1 hn with hn | hn
          · exact HB.out n hn
          · rw [List.mem_singleton.1 hn]; exact Nat.le_of_not_lt H2.out, HX1.out⟩
        case measure => simp [intOf]; omega
    · have e : j = N := by omega
      subst e
      have HALL := Lib.hid (show ∀ n ∈ l, n.v.s.length ≤ 200 from fun n hn => HB.out n (by rwa [List.take_of_length_le (by have := HN.out; omega)]))
      by_cases h60 : j ≤ 60
      · have d : decide (j ≤ 60) = true := decide_eq_true h60
        have d' : decide ((j : Int) ≤ (60 : Int)) = true := decide_eq_true (by omega)
        go_wp2_with fail
        go_ret
        exact ⟨⟨true, rfl, fun _ => ⟨h60, HALL.out⟩⟩, HX.out⟩
      · have d : decide (j ≤ 60) = false := decide_eq_false h60
        have d' : decide ((j : Int) ≤ (60 : Int)) = false := decide_eq_false (by omega)
        go_wp2_with fail
        go_ret
        exact ⟨⟨false, rfl, fun h => by cases h⟩, HX.out⟩

/-- Is a row one of columns of these kinds? -/
def fitsP (K : List Int) (r : List V) : Prop := K.length ≤ 20 ∧ r.length = K.length ∧ ∀ v ∈ r, v.s.length ≤ 200 ∧ rightV v = true
set_option maxRecDepth 100000 in
set_option maxHeartbeats 4000000 in
theorem fits14_any (u v : Value) (K : List Int) (r : List V) (w : World) (hu : RdV w u (K.map (Value.int .u8))) (hK : K.length ≤ 9223372036854775807) (hv : RdVals w v r) (hf : FitV 9223372036854775807 r) :
    Calls Tryz.prog 15 #[u, v] w fun e w' => (∃ b : Bool, e = .returned (.bool b) ∧ (b = true → fitsP K r)) ∧ Ext w w' := by
  obtain ⟨bo, cb, rfl, h3, h4, hcb⟩ := RdV.cellsAt hu
  rw [List.length_map] at *
  have HCB := Lib.hid hcb
  obtain ⟨ao, cap, rfl, -, -⟩ := hv.shape
  obtain ⟨-, h1, h2, hc⟩ := hv.plain
  have HC := Lib.hid hc
  have HF := Lib.hid hf
  unfold maxLen at h2 h4
  obtain ⟨N, hN⟩ : ∃ N, r.length = N := ⟨_, rfl⟩
  have HN := Lib.hid hN
  rw [hN] at h1 ⊢
  obtain ⟨M, hM⟩ : ∃ M, K.length = M := ⟨_, rfl⟩
  have HM := Lib.hid hM
  rw [hM] at h3 hK ⊢
  clear hu hc hN hf hM hv hcb
  by_cases h20 : 20 < M
  · have d : decide (20 < M) = true := decide_eq_true h20
    have d' : decide ((20 : Int) < (M : Int)) = true := decide_eq_true (by omega)
    clear h20
    go_enter Tryz.func15, Tryz.ntmps15
    go_wp2_with fail
    go_ret
    exact ⟨⟨false, rfl, fun h => by cases h⟩, Ext.keeps.refl _⟩
  · have d : decide (20 < M) = false := decide_eq_false h20
    have d' : decide ((20 : Int) < (M : Int)) = false := decide_eq_false (by omega)
    have H20 := Lib.hid h20
    clear h20
    by_cases hNM : N = M
    · have q : ((N : Int) != (M : Int)) = false := by simp [hNM]
      have q' : (N != M) = false := by simp [hNM]
      have HNM := Lib.hid hNM
      clear hNM
      go_enter Tryz.func15, Tryz.ntmps15
      go_wp2_with fail
      go_loopw [5, 19] (fun _ i wr => ∃ j : Nat, j ≤ N ∧ i = .int .i64 j ∧ (∀ v ∈ r.take j, v.s.length ≤ 200 ∧ rightV v = true) ∧ Ext w wr) (fun _ i _ => N - (intOf i).toNat)
      case atStart => exact ⟨0, Nat.zero_le _, rfl, fun n hn => by simp at hn, Ext.keeps.refl _⟩
      case round =>
        obtain ⟨j, hj, rfl, hb, hx⟩ := hrel
        have HB := Lib.hid hb
        have HX := Lib.hid hx
        clear hb hx
        by_cases hlt : j < N
        · have hjl : j < r.length := by have := HN.out; omega
          have hjM : j < M := by have := HNM.out; omega
          have hjK : j < K.length := by have := HM.out; omega
          obtain ⟨g, off, rfl, c0, c1, c2⟩ := HC.out j hjl
          obtain ⟨x, rfl, hcx⟩ := HCB.out j (.int .u8 K[j]) (by rw [List.getElem?_map, List.getElem?_eq_getElem hjK]; rfl)
          have x0 := (HX.out.cell (lt_of_cell c0)).trans c0
          have x1 := (HX.out.cell (lt_of_cell c1)).trans c1
          have x2 := (HX.out.cell (lt_of_cell c2)).trans c2
          have HCX := Lib.hid ((HX.out.cell (lt_of_cell hcx)).trans hcx)
          have HS := Lib.hid (List.take_succ_eq_append_getElem hjl)
          have hfl := HF.out _ (List.getElem_mem hjl)
          generalize K[j] = y at HCX
          generalize r[j] = vv at x0 x1 x2 HS hfl
          have HR := Lib.hid (fun (h : vv.s.length ≤ 5000) W => Right_any vv hfl.1 h W)
          obtain ⟨vk, vn, vs⟩ := vv
          unfold V.val at HR
          simp only at x0 x1 x2 hfl HR
          have hfl2 := hfl.2
          have HB1 := Lib.hid (Blk.new wr [.int .u8 vk, .int .i64 vn, .string ⟨vs.toArray⟩] 36)
          have HX1 := Lib.hid (Ext.trans HX.out (ext_new wr (.cells #[.int .u8 vk, .int .i64 vn, .string ⟨vs.toArray⟩] 36)))
          have HX2 := Lib.hid (ext_new wr (.cells #[.int .u8 vk, .int .i64 vn, .string ⟨vs.toArray⟩] 36))
          obtain ⟨nb, hnb⟩ : ∃ nb, wr.heap.size = nb := ⟨_, rfl⟩
          rw [hnb] at HB1
          clear c0 c1 c2 hjl hjK hcx hfl
          go_upto_region 6 with fail
          try rw [hnb]
          generalize hWA : wr.alloc (.cells #[.int .u8 vk, .int .i64 vn, .string ⟨vs.toArray⟩] 36) = WA at HB1 HX1 HX2 ⊢
          have HCA := Lib.hid ((HX2.out.cell (lt_of_cell HCX.out)).trans HCX.out)
          clear hWA x0 x1 x2
          by_cases h200 : 200 < vs.length
          · have e1 : decide (200 < vs.length) = true := decide_eq_true h200
            have e1' : decide ((200 : Int) < (vs.length : Int)) = true := decide_eq_true (by omega)
            clear h200
            refine wp_region_segs Ext Ext.keeps [([0, 1, 2, 3, 4, 5], some 6), ([7, 8, 9, 10, 11, 12, 13, 14, 15, 16, 17, 18, 19, 20, 21, 22], none)] (by kernel_rfl) (by kernel_rfl) (fun c a a' w e h => (by exact ⟨e ▸ h.1, h.2⟩)) ?_
            simp only [pickSegs, pickOps, List.map_cons, List.map_nil, Option.map_some, Option.map_none, Option.getD_some, List.getElem?_toArray, List.getElem?_cons_zero, List.getElem?_cons_succ]
            have a0 := later_cell (w := WA) (b := nb) (fun j u hj => HB1.out.cell j u hj) 0 (.int .u8 vk) rfl
            have a1 := later_cell (w := WA) (b := nb) (fun j u hj => HB1.out.cell j u hj) 1 (.int .i64 vn) rfl
            have a2 := later_cell (w := WA) (b := nb) (fun j u hj => HB1.out.cell j u hj) 2 (.string ⟨vs.toArray⟩) rfl
            refine wpSegs_some fun K hK => ?_
            repeat go_big_quiet_step (fail)
            refine wpQuiet_nil ?_
            clear a0 a1 a2
            go_wp2_with fail
            refine ⟨Ext.keeps.refl _, hK _ _ ?_⟩
            clear hK
            refine wpSegs_none ?_
            repeat go_big_quiet_step (fail)
            refine wpQuiet_nil (wpSegs_nil ?_)
            go_wp2_with fail
            go_ret
            exact ⟨⟨false, rfl, fun h => by cases h⟩, Ext.trans HX1.out (Ext.drew _)⟩
          · have e1 : decide (200 < vs.length) = false := decide_eq_false h200
            have e1' : decide ((200 : Int) < (vs.length : Int)) = false := decide_eq_false (by omega)
            have HRR := Lib.hid (HR.out (by omega))
            have H200 := Lib.hid h200
            generalize hrv : rightV ⟨vk, vn, vs⟩ = rv at HRR
            have HRV := Lib.hid hrv
            clear hrv h200
            refine wp_region_segs Ext Ext.keeps [([0, 1, 2, 3, 4, 5], some 6), ([7, 8, 9, 10, 11, 12, 13, 14, 15, 16, 17, 18, 19, 20, 21, 22], none)] (by kernel_rfl) (by kernel_rfl) (fun c a a' w e h => (by exact ⟨e ▸ h.1, h.2⟩)) ?_
            simp only [pickSegs, pickOps, List.map_cons, List.map_nil, Option.map_some, Option.map_none, Option.getD_some, List.getElem?_toArray, List.getElem?_cons_zero, List.getElem?_cons_succ]
            have a0 := later_cell (w := WA) (b := nb) (fun j u hj => HB1.out.cell j u hj) 0 (.int .u8 vk) rfl
            have a1 := later_cell (w := WA) (b := nb) (fun j u hj => HB1.out.cell j u hj) 1 (.int .i64 vn) rfl
            have a2 := later_cell (w := WA) (b := nb) (fun j u hj => HB1.out.cell j u hj) 2 (.string ⟨vs.toArray⟩) rfl
            refine wpSegs_some fun K hK => ?_
            repeat go_big_quiet_step (fail)
            refine wpQuiet_nil ?_
            clear a0 a1 a2
            go_wp2_with fail
            refine (HRR.out _).mono ?_
            rintro e W1 ⟨rfl, hx⟩
            have HH1 := Lib.hid hx
            clear hx
            go_wp2_with fail
            refine ⟨HH1.out, hK _ _ ?_⟩
            clear hK K
            have HBB := Lib.hid ((HB1.out.ext (Ext.drew _)).ext HH1.out)
            have HY := Lib.hid (((Ext.trans (Ext.drew WA) HH1.out).cell (lt_of_cell HCA.out)).trans HCA.out)
            have a0 := now_cell (w := W1) (b := nb) (fun j u hj => HBB.out.cell j u hj) 0 (.int .u8 vk) rfl
            have a1 := now_cell (w := W1) (b := nb) (fun j u hj => HBB.out.cell j u hj) 1 (.int .i64 vn) rfl
            have a2 := now_cell (w := W1) (b := nb) (fun j u hj => HBB.out.cell j u hj) 2 (.string ⟨vs.toArray⟩) rfl
            have hy : ∀ z : Later Ext W1, z.val.cell? (x.add j) = some (.int .u8 y) := fun z => (z.ext.cell (lt_of_cell HY.out)).trans HY.out
            cases rv with
            | false =>
              refine wpSegs_none ?_
              repeat go_big_quiet_step (fail)
              refine wpQuiet_nil (wpSegs_nil ?_)
              clear a0 a1 a2 hy
              go_wp2_with fail
              go_ret
              exact ⟨⟨false, rfl, fun h => by cases h⟩, Ext.trans HX1.out (Ext.trans (Ext.drew _) HH1.out)⟩
            | true =>
              by_cases hk0 : vk = 0
              · have q0 : (vk != (0 : Int)) = false := by simp [hk0]
                have q0' : (vk == (0 : Int)) = true := by simp [hk0]
                clear hk0
                refine wpSegs_none ?_
                repeat go_big_quiet_step (fail)
                refine wpQuiet_nil (wpSegs_nil ?_)
                clear a0 a1 a2 hy
                go_wp2_with fail
                go_roundw
                case rel => exact ⟨j + 1, by omega, by go_num, fun n hn => by
                  rw [HS.out] at hn
                  rcases List.mem_append.1 hn with hn | hn
                  · exact HB.out n hn
                  · rw [List.mem_singleton.1 hn]; exact ⟨Nat.le_of_not_lt H200.out, HRV.out⟩, Ext.trans HX1.out (Ext.trans (Ext.drew _) HH1.out)⟩
                case measure => simp [intOf]; omega
              · have q0 : (vk != (0 : Int)) = true := bne_iff_ne.2 hk0
                have q0' : (vk == (0 : Int)) = false := beq_eq_false_iff_ne.2 hk0
                clear hk0
                by_cases hky : vk = y
                · have q1 : (vk != y) = false := by simp [hky]
                  clear hky
                  refine wpSegs_none ?_
                  repeat go_big_quiet_step (fail)
                  refine wpQuiet_nil (wpSegs_nil ?_)
                  clear a0 a1 a2 hy
                  go_wp2_with fail
                  go_roundw
                  case rel => exact ⟨j + 1, by omega, by go_num, fun n hn => by
                    rw [HS.out] at hn
                    rcases List.mem_append.1 hn with hn | hn
                    · exact HB.out n hn
                    · rw [List.mem_singleton.1 hn]; exact ⟨Nat.le_of_not_lt H200.out, HRV.out⟩, Ext.trans HX1.out (Ext.trans (Ext.drew _) HH1.out)⟩
                  case measure => simp [intOf]; omega
                · have q1 : (vk != y) = true := bne_iff_ne.2 hky
                  clear hky
                  refine wpSegs_none ?_
                  repeat go_big_quiet_step (fail)
                  refine wpQuiet_nil (wpSegs_nil ?_)
                  clear a0 a1 a2 hy
                  go_wp2_with fail
                  go_ret
                  exact ⟨⟨false, rfl, fun h => by cases h⟩, Ext.trans HX1.out (Ext.trans (Ext.drew _) HH1.out)⟩
        · have e : j = N := by omega
          subst e
          have HALL := Lib.hid (show fitsP K r from ⟨by have := HM.out; have := H20.out; omega, by rw [HN.out, HM.out, HNM.out], fun n hn => HB.out n (by rwa [List.take_of_length_le (by have := HN.out; omega)])⟩)
          go_wp2_with fail
          go_ret
          exact ⟨⟨true, rfl, fun _ => HALL.out⟩, HX.out⟩
    · have q : ((N : Int) != (M : Int)) = true := bne_iff_ne.2 (by omega)
      have q' : (N != M) = true := bne_iff_ne.2 hNM
      clear hNM
      go_enter Tryz.func15, Tryz.ntmps15
      go_wp2_with fail
      go_ret
      exact ⟨⟨false, rfl, fun h => by cases h⟩, Ext.keeps.refl _⟩

/-! ### New rows -/

theorem rdv_new (w : World) (xs : List Value) (t : TypeId) (h : xs.length ≤ 1000) : RdV (w.alloc (.cells xs.toArray t)) (.slice (some ⟨w.heap.size, 0, none⟩) xs.length xs.length) xs :=
  .inr ⟨_, _, rfl, Nat.le_refl _, by unfold maxLen; omega, fun i u hu => row_new w xs t i u hu⟩
theorem nds_new (w : World) (l : List Nd) (t : TypeId) (h : l.length ≤ 1000) : RdNds (w.alloc (.cells (l.flatMap Nd.cells).toArray t)) (.slice (some ⟨w.heap.size, 0, none⟩) l.length l.length) l := by
  refine ⟨_, _, rfl, Nat.le_refl _, by unfold maxLen; omega, fun j hj => ⟨_, 0, rfl, fun i y hy => ?_⟩⟩
  have hi : i < 6 := (List.getElem?_eq_some_iff.1 hy).1
  have c := row_new w (l.flatMap Nd.cells) t _ _ ((ndCells l j hj i hi).trans hy)
  rw [add_at] at c
  rw [Nat.add_assoc]
  exact c
theorem vals_new (w : World) (l : List V) (t : TypeId) (h : l.length ≤ 1000) : RdVals (w.alloc (.cells (l.flatMap V.cells).toArray t)) (.slice (some ⟨w.heap.size, 0, none⟩) l.length l.length) l := by
  refine ⟨_, _, rfl, Nat.le_refl _, by unfold maxLen; omega, fun j hj => ⟨_, 0, rfl, fun i y hy => ?_⟩⟩
  have hi : i < 3 := (List.getElem?_eq_some_iff.1 hy).1
  have c := row_new w (l.flatMap V.cells) t _ _ ((valCells l j hj i hi).trans hy)
  rw [add_at] at c
  rw [Nat.add_assoc]
  exact c

/-! ### The examples -/

def exA : List Nd := [⟨2, 0, 2, V.zero⟩, ⟨6, 0, 0, ⟨2, 5, []⟩⟩, ⟨8, 1, 0, V.zero⟩]
theorem exA_right : rightA okP [2, 2] exA := by decide +kernel
theorem exA_err : errA okP [2, 2] exA = 0 := if_pos exA_right
theorem exA_1 : evalS isB exA [⟨2, 4, []⟩, V.zero] = 2 := by decide +kernel
theorem exA_2 : evalS isB exA [V.zero, V.zero] = 1 := by decide +kernel
theorem exA_3 : evalS isB exA [⟨2, 5, []⟩, V.zero] = 0 := by decide +kernel
theorem fit_small (k n : Int) (hk : 0 ≤ k ∧ k ≤ 255) (hn : -1000 ≤ n ∧ n ≤ 1000) : (⟨k, n, []⟩ : V).fits := ⟨hk.1, hk.2, by show -9223372036854775808 ≤ n; omega, by show n ≤ 9223372036854775807; omega⟩
theorem exA_fit : FitN 5000 exA := by
  intro x hx
  simp only [exA, List.mem_cons, List.not_mem_nil, or_false] at hx
  rcases hx with rfl | rfl | rfl
  · exact ⟨⟨by decide, by decide, by decide, by decide, by decide, by decide, fit_small 0 0 (by decide) (by decide)⟩, by decide⟩
  · exact ⟨⟨by decide, by decide, by decide, by decide, by decide, by decide, fit_small 2 5 (by decide) (by decide)⟩, by decide⟩
  · exact ⟨⟨by decide, by decide, by decide, by decide, by decide, by decide, fit_small 0 0 (by decide) (by decide)⟩, by decide⟩
theorem exA_row (a b : V) (ha : a = ⟨2, 4, []⟩ ∨ a = ⟨2, 5, []⟩ ∨ a = V.zero) (hb : b = V.zero) : FitV 5000 [a, b] := by
  intro x hx
  simp only [List.mem_cons, List.not_mem_nil, or_false] at hx
  rcases hx with rfl | rfl
  · rcases ha with rfl | rfl | rfl
    · exact ⟨fit_small 2 4 (by decide) (by decide), by decide⟩
    · exact ⟨fit_small 2 5 (by decide) (by decide), by decide⟩
    · exact ⟨fit_small 0 0 (by decide) (by decide), by decide⟩
  · subst hb
    exact ⟨fit_small 0 0 (by decide) (by decide), by decide⟩

set_option maxRecDepth 100000 in
set_option maxHeartbeats 4000000 in
theorem shown14_any (w : World) (hT : Tabs w) : Calls Tryz.prog 4 #[] w fun e w' => e = .returned (.bool true) ∧ Ext w w' := by
  have hT0 := Lib.hid hT
  clear hT
  go_enter Tryz.func4, Tryz.ntmps4
  go_wp2_with fail
  refine (num14_any 5 _).mono ?_
  rintro e w0 ⟨rfl, hx⟩
  have HX0 := Lib.hid hx
  have HLN := Lib.hid (nds_new w0 exA 38 (by decide))
  have HXN := Lib.hid (ext_new w0 (.cells (exA.flatMap Nd.cells).toArray 38))
  clear hx
  go_upto_region 2 with fail
  generalize hWL : w0.alloc (.cells #[.int .u8 2, .int .i64 0, .int .i64 2, .int .u8 0, .int .i64 0, .string ⟨#[]⟩, .int .u8 6, .int .i64 0, .int .i64 0, .int .u8 2, .int .i64 5, .string ⟨#[]⟩, .int .u8 8, .int .i64 1, .int .i64 0, .int .u8 0, .int .i64 0, .string ⟨#[]⟩] 38) = WL
  replace HLN := Lib.hid (show RdNds WL (.slice (some ⟨w0.heap.size, 0, none⟩) 3 3) exA by rw [← hWL]; exact HLN.out)
  replace HXN := Lib.hid (show Ext w WL by rw [← hWL]; exact Ext.trans HX0.out HXN.out)
  clear hWL
  have HKN := Lib.hid (rdv_new WL [.int .u8 2, .int .u8 2] 5 (by decide))
  have HNK := Lib.hid (ext_new WL (.cells #[.int .u8 2, .int .u8 2] 5))
  go_wp2_with fail
  refine (pRight14_any _ _ [2, 2] exA _ HKN.out (by decide) (HLN.out.mono HNK.out) exA_fit (hT0.out.mono (Ext.trans HXN.out HNK.out))).mono ?_
  rintro e w1 ⟨rfl, hx⟩
  have HX1 := Lib.hid (Ext.trans HXN.out (Ext.trans HNK.out hx))
  have HL1 := Lib.hid (HLN.out.mono (Ext.trans HNK.out hx))
  clear hx
  rw [exA_err]
  go_wp2_with fail
  refine (num14_any 4 _).mono ?_
  rintro e w2a ⟨rfl, hx⟩
  have HX2a := Lib.hid (Ext.trans HX1.out hx)
  have HL2a := Lib.hid (HL1.out.mono hx)
  clear hx
  go_wp2_with fail
  have HR2 := Lib.hid (vals_new w2a [⟨2, 4, []⟩, V.zero] 36 (by decide))
  have HN2 := Lib.hid (ext_new w2a (.cells ([⟨2, 4, []⟩, V.zero].flatMap V.cells).toArray 36))
  refine (pEval14_any _ _ [2, 2] exA [⟨2, 4, []⟩, V.zero] _ (HL2a.out.mono HN2.out) exA_fit HR2.out (exA_row _ _ (.inl rfl) rfl) (hT0.out.mono (Ext.trans HX2a.out HN2.out)) exA_right rfl).mono ?_
  rintro e w2 ⟨rfl, hx⟩
  have HX2 := Lib.hid (Ext.trans HX2a.out (Ext.trans HN2.out hx))
  have HL2 := Lib.hid (HL2a.out.mono (Ext.trans HN2.out hx))
  clear hx
  rw [exA_1]
  go_wp2_with fail
  have HR3 := Lib.hid (vals_new w2 [V.zero, V.zero] 36 (by decide))
  have HN3 := Lib.hid (ext_new w2 (.cells ([V.zero, V.zero].flatMap V.cells).toArray 36))
  refine (pEval14_any _ _ [2, 2] exA [V.zero, V.zero] _ (HL2.out.mono HN3.out) exA_fit HR3.out (exA_row _ _ (.inr (.inr rfl)) rfl) (hT0.out.mono (Ext.trans HX2.out HN3.out)) exA_right rfl).mono ?_
  rintro e w3 ⟨rfl, hx⟩
  have HX3 := Lib.hid (Ext.trans HX2.out (Ext.trans HN3.out hx))
  have HL3 := Lib.hid (HL2.out.mono (Ext.trans HN3.out hx))
  clear hx
  rw [exA_2]
  go_wp2_with fail
  refine (num14_any 5 _).mono ?_
  rintro e w4a ⟨rfl, hx⟩
  have HX4a := Lib.hid (Ext.trans HX3.out hx)
  have HL4a := Lib.hid (HL3.out.mono hx)
  clear hx
  go_wp2_with fail
  have HR4 := Lib.hid (vals_new w4a [⟨2, 5, []⟩, V.zero] 36 (by decide))
  have HN4 := Lib.hid (ext_new w4a (.cells ([⟨2, 5, []⟩, V.zero].flatMap V.cells).toArray 36))
  refine (pEval14_any _ _ [2, 2] exA [⟨2, 5, []⟩, V.zero] _ (HL4a.out.mono HN4.out) exA_fit HR4.out (exA_row _ _ (.inr (.inl rfl)) rfl) (hT0.out.mono (Ext.trans HX4a.out HN4.out)) exA_right rfl).mono ?_
  rintro e w4 ⟨rfl, hx⟩
  have HX4 := Lib.hid (Ext.trans HX4a.out (Ext.trans HN4.out hx))
  have HL4 := Lib.hid (HL4a.out.mono (Ext.trans HN4.out hx))
  clear hx
  rw [exA_3]
  go_wp2_with fail
  go_ret
  exact ⟨rfl, HX4.out⟩

end
end Go.Proofs.YtfnmcdjfdhdlmaaGreatDoor

/-
  What may come of conditions, over triples of bools. No program.
-/
namespace Go.Proofs.YtfnmcdjfdhdlmaaGreatDoor
open Go.RowKit

abbrev T3 := Bool × Bool × Bool
def g3 (t : T3) (i : Nat) : Bool := if i = 0 then t.1 else if i = 1 then t.2.1 else t.2.2
def p3 (t : T3) (i : Nat) (b : Bool) : T3 := if i = 0 then (b, t.2.1, t.2.2) else if i = 1 then (t.1, b, t.2.2) else (t.1, t.2.1, b)
def tL (t : T3) : List Value := [.bool t.1, .bool t.2.1, .bool t.2.2]
theorem tL_at (t : T3) (i : Nat) (h : i < 3) : (tL t)[i]? = some (.bool (g3 t i)) := by
  obtain ⟨a, b, c⟩ := t
  match i, h with
  | 0, _ => rfl
  | 1, _ => rfl
  | 2, _ => rfl
theorem tL_set (t : T3) (i : Nat) (b : Bool) (h : i < 3) : (tL t).set i (.bool b) = tL (p3 t i b) := by
  obtain ⟨x, y, z⟩ := t
  match i, h with
  | 0, _ => rfl
  | 1, _ => rfl
  | 2, _ => rfl
def notZ (t : T3) : T3 := (t.2.2, t.2.1, t.1)
def accN (a : T3) : Nat → T3
  | 0 => (false, false, false)
  | q + 1 => p3 (accN a q) (2 - q) (g3 a q)
theorem accN_3 (a : T3) : accN a 3 = notZ a := by
  obtain ⟨x, y, z⟩ := a
  cases x <;> cases y <;> cases z <;> rfl
def jnI (or : Bool) (x y : Nat) : Nat := if or = true then (if x < y then y else x) else (if x < y then x else y)
theorem jnI_lt {or : Bool} {x y : Nat} (hx : x < 3) (hy : y < 3) : jnI or x y < 3 := by
  unfold jnI
  split
  · split <;> omega
  · split <;> omega
def accJ (or : Bool) (a b : T3) : Nat → T3
  | 0 => (false, false, false)
  | q + 1 => if (g3 a (q / 3) && g3 b (q % 3)) = true then p3 (accJ or a b q) (jnI or (q / 3) (q % 3)) true else accJ or a b q
theorem accJ_step (or : Bool) (a b : T3) (x y : Nat) (hy : y < 3) : accJ or a b (3 * x + y + 1) = if (g3 a x && g3 b y) = true then p3 (accJ or a b (3 * x + y)) (jnI or x y) true else accJ or a b (3 * x + y) := by
  have e1 : (3 * x + y) / 3 = x := by omega
  have e2 : (3 * x + y) % 3 = y := by omega
  show (if (g3 a ((3 * x + y) / 3) && g3 b ((3 * x + y) % 3)) = true then _ else _) = _
  rw [e1, e2]
def joinZ (n : Nd) (a b : T3) : T3 := accJ (decide (n.op ≠ 2)) a b 9

/-- What may come of a pattern. -/
def likeZ (z : Zo) (p : List UInt8) : T3 :=
  (decide (z.n < z.m) && !decide (p = [37]), decide (0 < z.n), decide (z.n < z.m) && (!Op.bytesLess z.b.s (fixS p) && (!Op.bytesLess (fixS p) z.a.s || (fixS p).isPrefixOf z.a.s)))
def zoneC (zs : List Zo) (n : Nd) : Zo := (zs[n.col.toNat]?).getD Zo.zero
/-- What may come of a node without parts. -/
def leafZ (zs : List Zo) (n : Nd) : T3 :=
  if n.op = 5 then equalZ (zoneC zs n) n.v else if n.op = 6 then lessZ (zoneC zs n) n.v else if n.op = 7 then likeZ (zoneC zs n) n.v.s else if n.op = 8 then nullZ (zoneC zs n) else (false, false, true)
def combZ (zs : List Zo) : Nd → List T3 → T3 := combG (leafZ zs) notZ joinZ
def mayS (l : List Nd) (zs : List Zo) : T3 := ((stk (combZ zs) l)[0]?).getD (false, false, false)
theorem may_one {l : List Nd} (zs : List Zo) (h : endK 1 l = some []) : stk (combZ zs) l = [mayS l zs] := by
  obtain ⟨v, hv, -⟩ := stk_whole (combZ zs) h
  unfold mayS
  rw [hv]
  rfl

end Go.Proofs.YtfnmcdjfdhdlmaaGreatDoor

/-
  strings.HasPrefix.
-/
namespace Go.Proofs.YtfnmcdjfdhdlmaaGreatDoor
open Go.RowKit Go.BigFrame

theorem pfx_cut {s t : List UInt8} : s.isPrefixOf t = (decide (s.length ≤ t.length) && (t.take s.length == s)) := by
  rw [Bool.eq_iff_iff, List.isPrefixOf_iff_prefix, List.prefix_iff_eq_take, Bool.and_eq_true, decide_eq_true_iff, beq_iff_eq]
  constructor
  · intro h
    refine ⟨?_, h.symm⟩
    have := congrArg List.length h
    rw [List.length_take] at this
    omega
  · exact fun h => h.2.symm
theorem pfx_take (l : List UInt8) (k : Nat) : (⟨l.toArray⟩ : ByteArray).extract 0 k = ⟨(l.take k).toArray⟩ := by
  apply ByteArray.ext
  simp [ByteArray.data_extract]
theorem litePfx_any (t s : List UInt8) (w : World) :
    Calls Tryz.prog 109 #[.string ⟨t.toArray⟩, .string ⟨s.toArray⟩] w fun e w' => e = .returned (.bool (s.isPrefixOf t)) ∧ w = w' := by
  have HP := Lib.hid (pfx_cut (s := s) (t := t))
  by_cases h : s.length ≤ t.length
  · have d1 : decide (s.length ≤ t.length) = true := decide_eq_true h
    have d1' : decide ((s.length : Int) ≤ (t.length : Int)) = true := decide_eq_true (by omega)
    have hc := pfx_take t s.length
    have HPP := Lib.hid (show s.isPrefixOf t = (t.take s.length == s) by rw [HP.out, d1, Bool.true_and])
    generalize t.take s.length = x at hc HPP
    go_enter Tryz.func109, Tryz.ntmps109
    go_wp2_with fail
    go_ret
    exact ⟨by rw [HPP.out]; rfl, rfl⟩
  · have d1 : decide (s.length ≤ t.length) = false := decide_eq_false h
    have d1' : decide ((s.length : Int) ≤ (t.length : Int)) = false := decide_eq_false (by omega)
    have HPP := Lib.hid (show s.isPrefixOf t = false by rw [HP.out, d1, Bool.false_and])
    go_enter Tryz.func109, Tryz.ntmps109
    go_wp2_with fail
    go_ret
    exact ⟨by rw [HPP.out]; rfl, rfl⟩
theorem hasPfx_any (t s : List UInt8) (w : World) :
    Calls Tryz.prog 79 #[.string ⟨t.toArray⟩, .string ⟨s.toArray⟩] w fun e w' => e = .returned (.bool (s.isPrefixOf t)) ∧ w = w' := by
  go_enter Tryz.func79, Tryz.ntmps79
  go_wp2_with fail
  refine (litePfx_any t s w).mono ?_
  rintro e w1 ⟨rfl, rfl⟩
  go_wp2_with fail
  go_ret
  exact ⟨rfl, rfl⟩

end Go.Proofs.YtfnmcdjfdhdlmaaGreatDoor

/-
  The contracts of the document's own zones: what may be, and bytes.
-/
namespace Go.Proofs.YtfnmcdjfdhdlmaaGreatDoor
section
open Go.RowKit Go.BigFrame

/-- A zone, stored into a block. -/
abbrev put8 (W : World) (b : Nat) (z : Zo) : World :=
  (((((((W.setCell ⟨b, 0, none⟩ (.int .u8 z.a.k)).setCell ⟨b, 1, none⟩ (.int .i64 z.a.n)).setCell ⟨b, 2, none⟩ (.string ⟨z.a.s.toArray⟩)).setCell ⟨b, 3, none⟩ (.int .u8 z.b.k)).setCell ⟨b, 4, none⟩ (.int .i64 z.b.n)).setCell ⟨b, 5, none⟩ (.string ⟨z.b.s.toArray⟩)).setCell ⟨b, 6, none⟩ (.int .i64 z.n)).setCell ⟨b, 7, none⟩ (.int .i64 z.m)
theorem Blk.put8 {W : World} {b : Nat} {y : Zo} {t : TypeId} (h : Blk W b y.cells t) (z : Zo) : Blk (put8 W b z) b z.cells t :=
  (((((((h.set 0 _).set 1 _).set 2 _).set 3 _).set 4 _).set 5 _).set 6 _).set 7 _
theorem Blk.put8_beside {W : World} {b b' : Nat} {xs : List Value} {t : TypeId} (h : Blk W b xs t) (hne : b ≠ b') (z : Zo) : Blk (Proofs.YtfnmcdjfdhdlmaaGreatDoor.put8 W b' z) b xs t :=
  (((((((h.beside hne 0 _).beside hne 1 _).beside hne 2 _).beside hne 3 _).beside hne 4 _).beside hne 5 _).beside hne 6 _).beside hne 7 _
theorem below_put8 {N : Nat} {w W : World} {b : Nat} (h : Below N w W) (hb : N ≤ b) (z : Zo) : Below N w (put8 W b z) :=
  Below.setCell (Below.setCell (Below.setCell (Below.setCell (Below.setCell (Below.setCell (Below.setCell (Below.setCell h hb _) hb _) hb _) hb _) hb _) hb _) hb _) hb _

/-- Where Of stands: the answer's place, the zone so far. -/
structure OZ (w : World) (z : Zo) (W : World) : Prop where
  r : Blk W w.heap.size Zo.zero.cells 47
  z : Blk W (w.heap.size + 1) z.cells 47
  x : Ext w W
theorem OZ.ext {w : World} {z : Zo} {W W' : World} (h : OZ w z W) (hx : Ext W W') : OZ w z W' := ⟨h.r.ext hx, h.z.ext hx, Ext.trans h.x hx⟩
theorem OZ.start (w : World) : OZ w Zo.zero ((w.alloc (.cells Zo.zero.cells.toArray 47)).alloc (.cells Zo.zero.cells.toArray 47)) := by
  have h1 := Blk.new w Zo.zero.cells 47
  have h2 := Blk.new (w.alloc (.cells Zo.zero.cells.toArray 47)) Zo.zero.cells 47
  simp only [World.alloc, Array.size_push] at h2
  exact ⟨h1.ext (ext_new _ _), h2, Ext.trans (ext_new _ _) (ext_new _ _)⟩
theorem OZ.put {w : World} {z : Zo} {W : World} (h : OZ w z W) (y : Zo) : OZ w y (put8 W (w.heap.size + 1) y) :=
  ⟨h.r.put8_beside (by omega) y, h.z.put8 y, below_put8 h.x (by omega) y⟩

theorem oneZ_no {v : V} (h : v.k = 0) : oneZ v = ⟨V.zero, V.zero, 1, 1⟩ := by unfold oneZ; rw [nz_no h, if_pos h]
theorem oneZ_yes {v : V} (h : v.k ≠ 0) : oneZ v = ⟨v, v, 0, 1⟩ := by unfold oneZ; rw [nz_yes h, if_neg h]

end
section
open Go.RowKit Go.BigFrame

end
end Go.Proofs.YtfnmcdjfdhdlmaaGreatDoor

/-
  The contracts of octets' decoder: first, and the methods of a reader.
-/
namespace Go.Proofs.YtfnmcdjfdhdlmaaGreatDoor
open Go.RowKit Go.BigFrame

theorem val_take_snoc (t : List UInt8) (k : Nat) (h : k < t.length) : val (t.take (k + 1)) = val (t.take k) * 256 + t[k].toNat := by
  rw [List.take_succ_eq_append_getElem h, val_snoc]

/-- What 'first' hands back where the first byte announces further ones. -/
def longV (c : Nat) (t : List UInt8) : Value := if val t < 248 ∨ (1 < c - 247 ∧ t.head? = some 0) then .tuple #[.int .u64 0, .int .i64 0] else .tuple #[.int .u64 (val t), .int .i64 (1 + (c : Int) - 247)]
theorem longV_no {c : Nat} {t : List UInt8} (h : val t < 248 ∨ (1 < c - 247 ∧ t.head? = some 0)) : longV c t = .tuple #[.int .u64 0, .int .i64 0] := if_pos h
theorem longV_yes {c : Nat} {t : List UInt8} (h : ¬ (val t < 248 ∨ (1 < c - 247 ∧ t.head? = some 0))) : longV c t = .tuple #[.int .u64 (val t), .int .i64 (1 + (c : Int) - 247)] := if_neg h

/-! ### A reader -/

/-- The block b is a reader (a struct of type T: bytes to come, and whether it is bad) whose bytes to come are l (in memory from block B on). -/
def RdrT (T : TypeId) (B : Nat) (w : World) (b : Nat) (l : List UInt8) (bad : Bool) : Prop :=
  ∃ v, w.heap[b]? = some (.cells #[v, .bool bad] T (0, 0)) ∧ Rd w v l ∧ ∀ k, v.ownBlock = some k → B ≤ k

/-- Only block b of what was there has changed. -/
def Only (b : Nat) (w w' : World) : Prop := w.grownBy w' (some b)

section
variable {T : TypeId}

theorem Rdr.cell0 {w : World} {b : Nat} {v : Value} {bad : Bool} (h : w.heap[b]? = some (.cells #[v, .bool bad] T (0, 0))) : w.cell? ⟨b, 0, none⟩ = some v := by
  simp [World.cell?, h]
theorem Rdr.cell1 {w : World} {b : Nat} {v : Value} {bad : Bool} (h : w.heap[b]? = some (.cells #[v, .bool bad] T (0, 0))) : w.cell? ⟨b, 1, none⟩ = some (.bool bad) := by
  simp [World.cell?, h]
theorem Rdr.free {w : World} {b : Nat} {v : Value} {bad : Bool} (h : w.heap[b]? = some (.cells #[v, .bool bad] T (0, 0))) (i : Nat) : w.frozen? ⟨b, i, none⟩ = false := by
  simp [World.frozen?, h]

/-- Bytes do not lie in a reader's own block. -/
theorem Rd.apart {w : World} {b : Nat} {u v : Value} {bad : Bool} {l : List UInt8} (hb : w.heap[b]? = some (.cells #[u, .bool bad] T (0, 0))) (hu : ∀ n, u ≠ .int .u8 n) (hr : Rd w v l) {w' : World} (ho : Only b w w') : Rd w' v l := by
  rcases hr with h | ⟨x, cap, h1, h2, h3, h4⟩
  · exact .inl h
  · refine .inr ⟨x, cap, h1, h2, h3, fun i y hy => ?_⟩
    have hc := h4 i y hy
    refine ho.cell hc (fun hh => ?_)
    have hh' : (x.add i).block = b := by simpa using hh
    have hy' : ∃ n, y = .int .u8 n := by
      rw [List.getElem?_map] at hy
      obtain ⟨c, _, rfl⟩ := Option.map_eq_some_iff.1 hy
      exact ⟨_, rfl⟩
    obtain ⟨n, rfl⟩ := hy'
    unfold World.cell? at hc
    rw [hh', hb] at hc
    simp only at hc
    split at hc
    · cases hc
    · generalize (x.add i).off = o at hc
      match o, hc with
      | 0, hc => simp at hc; exact hu n hc
      | 1, hc => simp at hc
      | o + 2, hc => simp at hc

end

theorem Only.refl (b : Nat) (w : World) : Only b w w := ⟨rfl, rfl, rfl, Nat.le_refl _, fun _ _ _ => rfl⟩

/-- What spoil leaves. -/
theorem Rdr.spoilt {T : TypeId} (B : Nat) {w : World} {b : Nat} {v : Value} {bad : Bool} (hb : w.heap[b]? = some (.cells #[v, .bool bad] T (0, 0))) :
    RdrT T B ((w.setCell ⟨b, 0, none⟩ (.slice none 0 0)).setCell ⟨b, 1, none⟩ (.bool true)) b [] true ∧ Only b w ((w.setCell ⟨b, 0, none⟩ (.slice none 0 0)).setCell ⟨b, 1, none⟩ (.bool true)) := by
  refine ⟨⟨.slice none 0 0, ?_, Rd.nil _, fun k hk => by cases hk⟩, ⟨rfl, rfl, rfl, by simp [World.setCell], fun k _ hk => ?_⟩⟩
  · have hlt : b < w.heap.size := (Array.getElem?_eq_some_iff.1 hb).1
    simp [World.setCell, Array.getElem?_modify, hb]
  · have hne : k ≠ b := fun e => hk (by rw [e])
    rw [Below.heap_setCell _ _ _ _ hne, Below.heap_setCell _ _ _ _ hne]

theorem front_zero {l : List UInt8} (h : (front l).2 = 0) : front l = (0, 0) := by
  cases l with
  | nil => rfl
  | cons c t =>
    simp only [front] at h ⊢
    split
    · rename_i h1; rw [if_pos h1] at h; simp at h
    · rename_i h1
      rw [if_neg h1] at h
      split
      · rfl
      · rename_i h2
        rw [if_neg h2] at h
        split
        · rfl
        · rename_i h3; rw [if_neg h3] at h; simp at h

theorem front_le {l : List UInt8} {n s : Nat} (h : front l = (n, s)) : s ≤ l.length := by
  by_cases hs : s = 0
  · omega
  · obtain ⟨_, h1, h2⟩ := front_sound l n s h hs
    have := congrArg List.length h2
    rw [List.length_append, List.length_drop] at this
    omega

/-- What is left behind some bytes. -/
theorem Rdr.step {T : TypeId} {B b s cap L : Nat} {w : World} {x : Addr} {l : List UInt8} {bad : Bool} (hb : w.heap[b]? = some (.cells #[.slice (some x) L cap, .bool bad] T (0, 0))) (hL : L = l.length) (h2 : l.length ≤ cap) (h3 : cap ≤ maxLen)
    (h4 : ∀ i u, (l.map bv)[i]? = some u → w.cell? (x.add i) = some u) (hB : B ≤ x.block) (hs : s ≤ l.length) (a' : Addr) (ha : a'.block = x.block) (ha' : s < l.length → ∀ i, a'.add i = x.add (s + i)) :
    RdrT T B (w.setCell ⟨b, 0, none⟩ (.slice (some a') (L - s) (cap - s))) b (l.drop s) bad ∧ Only b w (w.setCell ⟨b, 0, none⟩ (.slice (some a') (L - s) (cap - s))) := by
  have ho : Only b w (w.setCell ⟨b, 0, none⟩ (.slice (some a') (L - s) (cap - s))) := ⟨rfl, rfl, rfl, by simp [World.setCell], fun k _ hk => by
    have hne : k ≠ b := fun e => hk (by rw [e])
    rw [Below.heap_setCell _ _ _ _ hne]⟩
  refine ⟨⟨.slice (some a') (L - s) (cap - s), ?_, Rd.apart hb (fun n hn => by cases hn) (.inr ⟨a', cap - s, by rw [List.length_map, List.length_drop, hL], by rw [List.length_map, List.length_drop]; omega, by omega, fun i u hu => ?_⟩) ho, fun k hk => ?_⟩, ho⟩
  · simp [World.setCell, Array.getElem?_modify, hb]
  · have hi : i < (l.drop s).length := by
      have := (List.getElem?_eq_some_iff.1 hu).1
      simpa using this
    rw [List.length_drop] at hi
    rw [ha' (by omega)]
    refine h4 (s + i) u ?_
    rw [List.map_drop, List.getElem?_drop] at hu
    exact hu
  · cases hk; rw [ha]; exact hB

theorem add_add (b off s i : Nat) : (⟨b, off + s, none⟩ : Addr).add i = (⟨b, off, none⟩ : Addr).add (s + i) := by rw [add_at, add_at, Nat.add_assoc]

theorem Only.trans {b : Nat} {x y z : World} (h : Only b x y) (k : Only b y z) : Only b x z :=
  ⟨k.os.trans h.os, k.tape.trans h.tape, k.output.trans h.output, Nat.le_trans h.size k.size, fun i hi hne => (k.block i (Nat.lt_of_lt_of_le hi h.size) hne).trans (h.block i hi hne)⟩

theorem add_more (x : Addr) (n i : Nat) : (x.add n).add i = x.add (n + i) := by
  unfold Addr.add
  by_cases hn : n = 0
  · subst hn; simp
  · by_cases hi : i = 0
    · subst hi; simp [hn]
    · simp [hn, hi, Nat.add_assoc]

theorem Rdr.emptied {T : TypeId} (B : Nat) {w : World} {b : Nat} {v : Value} {bad : Bool} (hb : w.heap[b]? = some (.cells #[v, .bool bad] T (0, 0))) :
    RdrT T B (w.setCell ⟨b, 0, none⟩ (.slice none 0 0)) b [] bad ∧ Only b w (w.setCell ⟨b, 0, none⟩ (.slice none 0 0)) := by
  refine ⟨⟨.slice none 0 0, ?_, Rd.nil _, fun k hk => by cases hk⟩, ⟨rfl, rfl, rfl, by simp [World.setCell], fun k _ hk => ?_⟩⟩
  · simp [World.setCell, Array.getElem?_modify, hb]
  · have hne : k ≠ b := fun e => hk (by rw [e])
    rw [Below.heap_setCell _ _ _ _ hne]

/-! ### A new reader -/

end Go.Proofs.YtfnmcdjfdhdlmaaGreatDoor

/-
  The program's contracts of Put and Take: bytes cloned, and Put.
-/
namespace Go.Proofs.YtfnmcdjfdhdlmaaGreatDoor
open Go.RowKit Go.BigFrame

/-- b[k:], whatever is left behind it. -/
theorem slice_from (x : Value) (l : List UInt8) (k : Nat) (w : World) (hr : Rd w x l) (hk : k ≤ l.length) :
    ∃ a cap, Rd w (.slice a (l.length - k) cap) (l.drop k) ∧ ∀ (i : Int) W, i = (k : Int) → (Instr.slice 22 x (some (.int .i64 i)) none none).run Tryz.prog W = .ok (.slice a (l.length - k) cap) W := by
  rcases hr with ⟨rfl, h1⟩ | ⟨x, cap, rfl, h2, h3, h4⟩
  · have hl0 : l = [] := by simpa using h1
    subst hl0
    have hk0 : k = 0 := by simpa using hk
    subst hk0
    refine ⟨none, 0, Rd.nil w, fun i W hi => ?_⟩
    subst hi
    simp [Instr.slice, Instr.sliceBounds, Instr.sliceBound, run_underlying Tryz.underlying22, go_sem]
  · rw [List.length_map] at h2
    by_cases hc : cap = k
    · refine ⟨some x, cap - k, ?_, fun i W hi => ?_⟩
      · have hd : l.drop k = [] := List.drop_eq_nil_of_le (by omega)
        rw [hd, show l.length - k = 0 by omega]
        exact .inr ⟨x, _, rfl, Nat.zero_le _, by omega, fun i u hu => by simp at hu⟩
      · subst hi
        subst hc
        simp [Instr.slice, Instr.sliceBounds, Instr.sliceBound, run_underlying Tryz.underlying22, go_sem, hk]
    · refine ⟨some (x.add k), cap - k, ?_, fun i W hi => ?_⟩
      · refine .inr ⟨x.add k, cap - k, by rw [List.length_map, List.length_drop], by rw [List.length_map, List.length_drop]; omega, by omega, fun i u hu => ?_⟩
        rw [add_more]
        exact h4 (k + i) u (by rw [List.map_drop, List.getElem?_drop] at hu; exact hu)
      · subst hi
        simp [Instr.slice, Instr.sliceBounds, Instr.sliceBound, run_underlying Tryz.underlying22, go_sem, hk, hc]

end Go.Proofs.YtfnmcdjfdhdlmaaGreatDoor

/-
  'shown' (the document's examples) returns true; 'few' cuts to 3,000 bytes; the calls of a nil reader.
-/
namespace Go.Proofs.YtfnmcdjfdhdlmaaGreatDoor
open Go.RowKit

/-- What a call leaves that hands back bytes of its own, and what string(..) of them is. -/
def Gives (w : World) (l : List UInt8) (r : Ending) (w' : World) : Prop :=
  ∃ v, r = .returned v ∧ (convert 22 9 v).run Tryz.prog w' = .ok (.string ⟨l.toArray⟩) w' ∧ Rd w' v l ∧ Below w.heap.size w w'

theorem Fresh.gives {w : World} {l : List UInt8} {r : Ending} {w' : World} (h : Fresh 5 w (l.map bv) r w') : Gives w l r w' := by
  obtain ⟨v, rfl, hown, hb⟩ := h
  have hr : Rd w' v l := RdV.of_owns hown
  exact ⟨v, rfl, hr.string _ _ _ Tryz.underlying22 Tryz.underlying5 Tryz.underlying9, hr, hb⟩

/-! ### A nil reader -/

/-- What a call hands back that are these bytes, in memory that was there. -/
def Few (w : World) (l : List UInt8) (r : Ending) : Prop := ∃ v, r = .returned v ∧ (convert 22 9 v).run Tryz.prog w = .ok (.string ⟨l.toArray⟩) w ∧ Rd w v l
theorem Few.mk {w : World} {l : List UInt8} {v : Value} (h : Rd w v l) : Few w l (.returned v) := ⟨v, rfl, h.string _ _ _ Tryz.underlying22 Tryz.underlying5 Tryz.underlying9, h⟩

end Go.Proofs.YtfnmcdjfdhdlmaaGreatDoor

/-
  The walk of the law FormOnly.
-/
namespace Go.Proofs.YtfnmcdjfdhdlmaaGreatDoor
open Go.RowKit Go.BigFrame

theorem Only.below {B b : Nat} {w w' : World} (h : Only b w w') (hb : B ≤ b) (hB : B ≤ w.heap.size) : Below B w w' :=
  (Below.refl B w).grown h hB (fun k hk => by cases hk; exact hb)

/-- A reader goes on as it is where its own memory is as it was. -/
theorem Rdr.mono {T : TypeId} {B b : Nat} {w w' : World} {l : List UInt8} {bad : Bool} (h : RdrT T B w b l bad) (hb : Below w.heap.size w w') : RdrT T B w' b l bad := by
  obtain ⟨v, h1, h2, h3⟩ := h
  exact ⟨v, (hb.block b (Array.getElem?_eq_some_iff.1 h1).1).trans h1, h2.mono hb, h3⟩

theorem only_ext {w1 w2 w3 : World} {b : Nat} (h2 : Below w1.heap.size w1 w2) (h3 : Only b w2 w3) (hb : w1.heap.size ≤ b) : Below w1.heap.size w1 w3 :=
  h2.trans (h3.below hb h2.size)

/-- The bytes that were taken are the number's encoding. -/
theorem cut_enc {x : Addr} {m cap n s : Nat} {l : List UInt8} (hl : l.length = m) (_hm : m ≤ cap) (hf : front l = (n, s)) (hs : s ≠ 0) (W : World) (h : Rd W (.slice (some x) m cap) l) : Rd W (.slice (some x) s cap) (enc n) := by
  obtain ⟨_, h1, h2⟩ := front_sound l n s hf hs
  have hle := front_le hf
  have he : l.take s = enc n := by
    rw [h2, h1, List.take_left]
  rcases h with ⟨h0, _⟩ | ⟨x', cap', h0, h3, h4, h5⟩
  · cases h0
  · simp only [Value.slice.injEq, Option.some.injEq] at h0
    obtain ⟨rfl, _, rfl⟩ := h0
    have := RdV.takes h3 h4 h5 s s (by rw [List.length_map]; omega)
    rw [← List.map_take, he] at this
    exact this

theorem only_end {w w1 w2 w3 : World} {b : Nat} (h1 : Below w.heap.size w w1) (h2 : Below w1.heap.size w1 w2) (h3 : Only b w2 w3) (hb : w1.heap.size ≤ b) : Below w.heap.size w w3 := by
  have s1 := h1.size
  have s2 := h2.size
  exact (h1.trans (h2.mono s1)).trans (h3.below (by omega) (by omega))

end Go.Proofs.YtfnmcdjfdhdlmaaGreatDoor

/-
  The contracts of the document's own reader.
-/
namespace Go.Proofs.YtfnmcdjfdhdlmaaGreatDoor
open Go.RowKit Go.BigFrame

theorem refSpoilt {T : TypeId} (B : Nat) {w : World} {b : Nat} {v : Value} {bad : Bool} (hb : w.heap[b]? = some (.cells #[v, .bool bad] T (0, 0))) :
    RdrT T B ((w.setCell ⟨b, 1, none⟩ (.bool true)).setCell ⟨b, 0, none⟩ (.slice none 0 0)) b [] true ∧ Only b w ((w.setCell ⟨b, 1, none⟩ (.bool true)).setCell ⟨b, 0, none⟩ (.slice none 0 0)) := by
  refine ⟨⟨.slice none 0 0, ?_, Rd.nil _, fun k hk => by cases hk⟩, ⟨rfl, rfl, rfl, by simp [World.setCell], fun k _ hk => ?_⟩⟩
  · simp [World.setCell, Array.getElem?_modify, hb]
  · have hne : k ≠ b := fun e => hk (by rw [e])
    rw [Below.heap_setCell _ _ _ _ hne, Below.heap_setCell _ _ _ _ hne]

/-- What the reference's loop comes to: the number that the first byte, or the bytes behind it, hold. -/
def refVal (c : UInt8) (t : List UInt8) : Nat := if c.toNat < 248 then c.toNat else val (t.take (c.toNat - 247))
/-- How many bytes it has looked at. -/
def refLen (c : UInt8) : Nat := if c.toNat < 248 then 1 else 1 + (c.toNat - 247)

theorem refVal_lt (c : UInt8) (t : List UInt8) : refVal c t < 18446744073709551616 := by
  have hc := c.toNat_lt
  unfold refVal
  split
  · omega
  · have h1 := val_lt (t.take (c.toNat - 247))
    have h4 := Nat.pow_le_pow_right (show 0 < 256 by decide) (show (t.take (c.toNat - 247)).length ≤ 8 by rw [List.length_take]; omega)
    have h5 : (256 : Nat) ^ 8 = 18446744073709551616 := by decide
    omega

/-- The reference's test is the document's. -/
theorem front_of_ref (c : UInt8) (t : List UInt8) (hl : refLen c ≤ t.length + 1) (h : enc (refVal c t) = (c :: t).take (refLen c)) : front (c :: t) = (refVal c t, refLen c) := by
  have h1 := front_enc (refVal c t) ((c :: t).drop (refLen c)) (refVal_lt c t)
  rw [h, List.take_append_drop] at h1
  rw [h1, List.length_take, List.length_cons, Nat.min_eq_left hl]
theorem front_is_ref (c : UInt8) (t : List UInt8) (h : (front (c :: t)).2 ≠ 0) : front (c :: t) = (refVal c t, refLen c) := by
  by_cases hs : c.toNat < 248
  · simp only [front, refVal, refLen, if_pos hs]
  · simp only [front, if_neg hs] at h ⊢
    simp only [refVal, refLen, if_neg hs]
    by_cases h4 : t.length < c.toNat - 247
    · rw [if_pos h4] at h; exact absurd rfl h
    · rw [if_neg h4] at h ⊢
      by_cases h5 : val (t.take (c.toNat - 247)) < 248 ∨ 1 < c.toNat - 247 ∧ t.head? = some 0
      · rw [if_pos h5] at h; exact absurd rfl h
      · rw [if_neg h5]
theorem ref_of_front (c : UInt8) (t : List UInt8) (h : (front (c :: t)).2 ≠ 0) : enc (refVal c t) = (c :: t).take (refLen c) := by
  have e := front_is_ref c t h
  rw [e] at h
  obtain ⟨_, h2, h3⟩ := front_sound (c :: t) _ _ e h
  have h4 := congrArg (List.take (refLen c)) h3
  rw [List.take_append_of_le_length (by omega), h2, List.take_length] at h4
  rw [← h4, h2]

/-- An encoder onto nil, and what string(..) of it is from then on. -/
theorem Num_of {f : FuncId} (H : ∀ (v : Value) (l : List UInt8) (n : Nat) (w : World), Rd w v l → l.length + 9 ≤ 140737488355328 → n ≤ 18446744073709551615 → Calls Tryz.prog f #[v, .int .u64 n] w (Fresh 5 w ((l ++ enc n).map bv)))
    (n : Nat) (w : World) (h1 : n ≤ 18446744073709551615) :
    Calls Tryz.prog f #[.slice none 0 0, .int .u64 n] w fun e w' => ∃ v, e = .returned v ∧ (∀ p : Later Ext w', (convert 22 9 v).run Tryz.prog p.val = .ok (.string ⟨(enc n).toArray⟩) p.val) ∧ Ext w w' := by
  refine (H (.slice none 0 0) [] n w (Rd.nil w) (by simp) h1).mono ?_
  rintro e w1 ⟨v, rfl, hown, hb⟩
  rw [List.nil_append] at hown
  exact ⟨v, rfl, fun p => (Rd.mono (RdV.of_owns hown) p.ext).string _ _ _ Tryz.underlying22 Tryz.underlying5 Tryz.underlying9, hb⟩

theorem only_after {b : Nat} {x y z : World} (h : Ext x y) (k : Only b y z) : Only b x z :=
  ⟨k.os.trans h.os, k.tape.trans h.tape, k.output.trans h.output, Nat.le_trans h.size k.size, fun i hi hne => (k.block i (Nat.lt_of_lt_of_le hi h.size) hne).trans (h.block i hi)⟩

end Go.Proofs.YtfnmcdjfdhdlmaaGreatDoor

/-
  The contract of the document's own reader of a text.
-/
namespace Go.Proofs.YtfnmcdjfdhdlmaaGreatDoor
open Go.RowKit Go.BigFrame

end Go.Proofs.YtfnmcdjfdhdlmaaGreatDoor

/-
  The contract of the document's own Take.
-/
namespace Go.Proofs.YtfnmcdjfdhdlmaaGreatDoor
open Go.RowKit Go.BigFrame

theorem rd_setBelow {B g i : Nat} {w : World} {v u : Value} {l : List UInt8} (hr : Rd w v l) (hB : ∀ k, v.ownBlock = some k → B ≤ k) (hg : g < B) : Rd (w.setCell ⟨g, i, none⟩ u) v l := by
  rcases hr with ⟨rfl, h1⟩ | ⟨x, cap, rfl, h2, _h3, h4⟩
  · exact .inl ⟨rfl, h1⟩
  · have hx : B ≤ x.block := hB _ rfl
    refine .inr ⟨x, cap, rfl, h2, _h3, fun k y hk => ?_⟩
    rw [World.cell?_of_block (w := w) (Below.heap_setCell _ _ _ _ (by rw [add_block]; show x.block ≠ g; omega))]
    exact h4 k y hk

end Go.Proofs.YtfnmcdjfdhdlmaaGreatDoor

/-
  The contract of the document's own Take, put together.
-/
namespace Go.Proofs.YtfnmcdjfdhdlmaaGreatDoor
open Go.RowKit Go.BigFrame

theorem takeV_no1 (t : List UInt8) (c : UInt8) (hc : c = 1 ∨ c = 2) (hf : (front t).2 = 0) : takeV (c :: t) = none := by
  unfold takeV
  dsimp only
  rw [if_neg (by rcases hc with rfl | rfl <;> decide), if_pos hc, if_pos hf]
theorem takeV_yes1 (t : List UInt8) (c : UInt8) (hc : c = 1 ∨ c = 2) (hf : (front t).2 ≠ 0) (hr : rightV ⟨(c.toNat : Int), zag (front t).1, []⟩ = true) : takeV (c :: t) = some (⟨(c.toNat : Int), zag (front t).1, []⟩, t.drop (front t).2) := by
  unfold takeV
  dsimp only
  rw [if_neg (by rcases hc with rfl | rfl <;> decide), if_pos hc, if_neg hf, if_pos hr]
theorem takeV_wrong1 (t : List UInt8) (c : UInt8) (hc : c = 1 ∨ c = 2) (hf : (front t).2 ≠ 0) (hr : rightV ⟨(c.toNat : Int), zag (front t).1, []⟩ = false) : takeV (c :: t) = none := by
  unfold takeV
  dsimp only
  rw [if_neg (by rcases hc with rfl | rfl <;> decide), if_pos hc, if_neg hf, if_neg (by rw [hr]; decide)]
theorem takeV_no3 (t : List UInt8) (hf : (front t).2 = 0) : takeV (3 :: t) = none := by
  unfold takeV
  dsimp only
  rw [if_neg (by decide), if_neg (by decide), if_pos rfl, if_pos hf]
theorem takeV_yes3 (t : List UInt8) (hf : (front t).2 ≠ 0) (hn : (front t).1 ≤ 1024 ∧ (front t).1 ≤ (t.drop (front t).2).length) : takeV (3 :: t) = some (⟨3, 0, (t.drop (front t).2).take (front t).1⟩, (t.drop (front t).2).drop (front t).1) := by
  unfold takeV
  dsimp only
  rw [if_neg (by decide), if_neg (by decide), if_pos rfl, if_neg hf, if_pos hn]
theorem takeV_long3 (t : List UInt8) (hf : (front t).2 ≠ 0) (hn : ¬ ((front t).1 ≤ 1024 ∧ (front t).1 ≤ (t.drop (front t).2).length)) : takeV (3 :: t) = none := by
  unfold takeV
  dsimp only
  rw [if_neg (by decide), if_neg (by decide), if_pos rfl, if_neg hf, if_neg hn]
theorem zag_fits (k : Int) (h0 : 0 ≤ k) (h1 : k ≤ 255) (n : Nat) (hn : n < 2 ^ 64) : (⟨k, zag n, []⟩ : V).fits := by
  refine ⟨h0, h1, ?_, ?_⟩
  · show -9223372036854775808 ≤ zag n
    unfold zag
    split <;> omega
  · show zag n ≤ 9223372036854775807
    unfold zag
    split <;> omega
theorem fits_no (k : Int) (s : List UInt8) (h0 : 0 ≤ k) (h1 : k ≤ 255) : (⟨k, 0, s⟩ : V).fits := by
  refine ⟨h0, h1, ?_, ?_⟩
  · show -9223372036854775808 ≤ (0 : Int); decide
  · show (0 : Int) ≤ 9223372036854775807; decide
theorem right_is {v : V} {x : Bool} (h : rightV v = x) (hv : v.fits) (hl : v.s.length ≤ 9223372036854775807) (W : World) : Calls Tryz.prog 39 #[v.val] W fun e w' => e = .returned (.bool x) ∧ Ext W w' := by
  subst h
  exact refRight_any v hv hl W

end Go.Proofs.YtfnmcdjfdhdlmaaGreatDoor

/-
  The program's contracts: Take, case by case.
-/
namespace Go.Proofs.YtfnmcdjfdhdlmaaGreatDoor
open Go.RowKit Go.BigFrame

instance (g : Nat) (w : World) : Inhabited (Later (Only g) w) := ⟨⟨w, Only.refl _ _⟩⟩
theorem Only.keeps (g : Nat) : Keeps (Only g) := ⟨Only.refl g, fun _ _ _ h k => Only.trans h k⟩
theorem Only.of_ext {g : Nat} {w w' : World} (h : Ext w w') : Only g w w' := ⟨h.os, h.tape, h.output, h.size, fun k hk _ => h.block k hk⟩
theorem only_kept {w w' : World} {b g : Nat} {xs : List Value} (h : ∀ j u, xs[j]? = some u → w.cell? ⟨b, j, none⟩ = some u) (ho : Only g w w') (hne : b ≠ g) : ∀ j u, xs[j]? = some u → w'.cell? ⟨b, j, none⟩ = some u :=
  fun j u hj => ho.cell (h j u hj) (fun hh => hne (by simpa using hh))
theorem only_cells {w w' : World} {b g : Nat} {xs : List Value} (h : ∀ j u, xs[j]? = some u → w.cell? ⟨b, j, none⟩ = some u) (ho : Only g w w') (hne : b ≠ g) (j : Nat) (u : Value) (hj : xs[j]? = some u) : ∀ z : Later (Only g) w', z.val.cell? ⟨b, j, none⟩ = some u :=
  fun z => only_kept (only_kept h ho hne) z.ext hne j u hj
theorem only_frozen {w w' : World} {b g i : Nat} (ho : Only g w w') (hb : b < w.heap.size) (hne : b ≠ g) : w'.frozen? ⟨b, i, none⟩ = w.frozen? ⟨b, i, none⟩ := by
  unfold World.frozen?
  rw [ho.block b hb (fun e => hne (by simpa using e))]
theorem new_free0 (w : World) (O O' : Obj) (xs : List Value) (t : TypeId) (hO : O = .cells xs.toArray t) (j : Nat) : ((w.alloc O).alloc O').frozen? ⟨w.heap.size, j, none⟩ = false := by
  unfold World.frozen?
  rw [heap_alloc2_old, hO]
  simp
theorem new_free1 (w : World) (O O' : Obj) (xs : List Value) (t : TypeId) (hO : O' = .cells xs.toArray t) (j : Nat) : ((w.alloc O).alloc O').frozen? ⟨w.heap.size + 1, j, none⟩ = false := by
  unfold World.frozen?
  rw [heap_alloc2_new, hO]
  simp
theorem set_1 {w : World} {B : Nat} {a b c : Value} (h : ∀ j u, ([a, b, c] : List Value)[j]? = some u → w.cell? ⟨B, j, none⟩ = some u) (y : Value) :
    ∀ j u, ([a, y, c] : List Value)[j]? = some u → (w.setCell ⟨B, 1, none⟩ y).cell? ⟨B, j, none⟩ = some u := by
  intro j u hj
  match j, hj with
  | 0, hj =>
    cases hj
    rw [World.cell?_setCell_other]
    · exact h 0 _ rfl
    all_goals simp
  | 1, hj =>
    cases hj
    exact World.cell?_setCell_same _ _ _ (h 1 _ rfl)
  | 2, hj =>
    cases hj
    rw [World.cell?_setCell_other]
    · exact h 2 _ rfl
    all_goals simp
theorem set_2 {w : World} {B : Nat} {a b c : Value} (h : ∀ j u, ([a, b, c] : List Value)[j]? = some u → w.cell? ⟨B, j, none⟩ = some u) (y : Value) :
    ∀ j u, ([a, b, y] : List Value)[j]? = some u → (w.setCell ⟨B, 2, none⟩ y).cell? ⟨B, j, none⟩ = some u := by
  intro j u hj
  match j, hj with
  | 0, hj =>
    cases hj
    rw [World.cell?_setCell_other]
    · exact h 0 _ rfl
    all_goals simp
  | 1, hj =>
    cases hj
    rw [World.cell?_setCell_other]
    · exact h 1 _ rfl
    all_goals simp
  | 2, hj =>
    cases hj
    exact World.cell?_setCell_same _ _ _ (h 2 _ rfl)
theorem set_off {w : World} {B g i : Nat} {xs : List Value} {u : Value} (h : ∀ j y, xs[j]? = some y → w.cell? ⟨B, j, none⟩ = some y) (hg : B ≠ g) :
    ∀ j y, xs[j]? = some y → (w.setCell ⟨g, i, none⟩ u).cell? ⟨B, j, none⟩ = some y := fun j y hj => by
  rw [World.cell?_of_block (w := w) (Below.heap_setCell _ _ _ _ hg)]
  exact h j y hj
theorem only_drew (g : Nat) (w : World) : Only g w w.drew := Only.of_ext (Ext.drew w)
theorem only_set (g i : Nat) (w : World) (u : Value) : Only g w (w.setCell ⟨g, i, none⟩ u) := by
  refine ⟨rfl, rfl, rfl, by simp [World.setCell], fun k _ hk => ?_⟩
  rw [Below.heap_setCell _ _ _ _ (fun e => hk (by rw [e]))]
theorem own_set {B g i : Nat} {w : World} {v u : Value} {l : List UInt8} (h : OwnL B w v l) (hg : g < B) : OwnL B (w.setCell ⟨g, i, none⟩ u) v l := by
  rcases h with h | ⟨g', off, cap, rfl, h1, h2, h3, h4, h5⟩
  · exact .inl h
  · refine .inr ⟨g', off, cap, rfl, h1, h2, h3, fun j y hj => ?_, fun j => by simpa [go_sem] using h5 j⟩
    rw [World.cell?_of_block (w := w) (Below.heap_setCell _ _ _ _ (by show g' ≠ g; omega))]
    exact h4 j y hj
theorem own_base {B B' : Nat} {w : World} {v : Value} {l : List UInt8} (h : OwnL B w v l) (hb : B' ≤ B) : OwnL B' w v l := by
  rcases h with h | ⟨g', off, cap, rfl, h1, h2⟩
  · exact .inl h
  · exact .inr ⟨g', off, cap, rfl, by omega, h2⟩
theorem Rdr.set {T : TypeId} {B b g i : Nat} {w : World} {l : List UInt8} {bad : Bool} {u : Value} (h : RdrT T B w b l bad) (hg : g < B) (hb : b ≠ g) : RdrT T B (w.setCell ⟨g, i, none⟩ u) b l bad := by
  obtain ⟨v, h1, h2, h3⟩ := h
  exact ⟨v, by rw [Below.heap_setCell _ _ _ _ (by exact hb)]; exact h1, rd_setBelow h2 h3 hg, h3⟩

end Go.Proofs.YtfnmcdjfdhdlmaaGreatDoor
