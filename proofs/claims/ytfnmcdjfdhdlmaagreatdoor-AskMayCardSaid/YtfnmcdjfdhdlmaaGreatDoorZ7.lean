/-
  Texts of this proof, merged: AskP2, LikeFixed, Greedy, LikeMatch.
-/
import Derived.BigQuiet
import Derived.Test.YtfnmcdjfdhdlmaaGreatDoorZ4
import Derived.Test.YtfnmcdjfdhdlmaaGreatDoorZ6
import Derived.Test.YtfnmcdjfdhdlmaaGreatDoorZ5
/-
  The program's contracts of conditions: which may be.
-/
namespace Go.Proofs.YtfnmcdjfdhdlmaaGreatDoor
open Go.RowKit Go.BigFrame

/-- Is a text a pattern? -/
def okP (s : List UInt8) : Bool := (elsOf s).isSome
theorem errN_ok (s : List UInt8) : errN s = bif okP s then 0 else 30 := by
  unfold okP
  cases h : elsOf s with
  | none => rw [errN_none h]; rfl
  | some ps => rw [errN_some h]; rfl

set_option maxRecDepth 100000 in
set_option maxHeartbeats 1000000 in
theorem pRightValue_any (K : Int) (n : Nd) (w : World) (hT : Tabs w) (hv : n.v.fits) (hl : n.v.s.length ≤ 5000) :
    Calls Tryz.prog 58 #[.int .u8 K, n.val] w fun e w' => e = .returned (.bool (rightVal okP K n)) ∧ Ext w w' := by
  have HR := Lib.hid (fun W => Right_any n.v hv hl W)
  have HK := Lib.hid (fun W (h : Ext w W) => Check_any n.v.s W (hT.mono h) hl)
  obtain ⟨o, c, kd, ⟨vk, vn, vs⟩⟩ := n
  simp only at hl HR HK
  rw [errN_ok] at HK
  have HB := Lib.hid (Blk.new w [.int .u8 o, .int .i64 c, .int .i64 kd, .int .u8 vk, .int .i64 vn, .string ⟨vs.toArray⟩] 38)
  have HX := Lib.hid (ext_new w (.cells #[.int .u8 o, .int .i64 c, .int .i64 kd, .int .u8 vk, .int .i64 vn, .string ⟨vs.toArray⟩] 38))
  have HQ := Lib.hid (show rightVal okP K ⟨o, c, kd, ⟨vk, vn, vs⟩⟩ = if o = 8 then decide ((⟨vk, vn, vs⟩ : V) = V.zero) else rightV ⟨vk, vn, vs⟩ && (decide (vk = K) && (!decide (o = 7) || (decide (K = 3) && okP vs))) from rfl)
  unfold Nd.val
  unfold V.val at HR
  simp only at HR ⊢
  rw [HQ.out]
  clear hv hT
  by_cases h8 : o = 8
  · subst h8
    rw [if_pos rfl]
    have hq : ∀ W, (binOp .eql 36 (.agg #[.int .u8 vk, .int .i64 vn, .string ⟨vs.toArray⟩]) (.agg #[.int .u8 0, .int .i64 0, .string ⟨#[]⟩])).run Tryz.prog W = .ok (.bool (decide ((⟨vk, vn, vs⟩ : V) = V.zero))) W := fun W => eq_val ⟨vk, vn, vs⟩ V.zero W
    generalize decide ((⟨vk, vn, vs⟩ : V) = V.zero) = b at hq ⊢
    go_enter Tryz.func58, Tryz.ntmps58
    go_wp2_with fail
    go_ret
    exact ⟨rfl, HX.out⟩
  · rw [if_neg h8]
    have q8 : (o == (8 : Int)) = false := beq_eq_false_iff_ne.2 h8
    clear h8
    generalize rightV ⟨vk, vn, vs⟩ = r at HR ⊢
    go_enter Tryz.func58, Tryz.ntmps58
    go_wp2_with fail
    refine (HR.out _).mono ?_
    rintro e w1 ⟨rfl, hx⟩
    have HB1 := Lib.hid (HB.out.ext hx)
    have HX1 := Lib.hid (Ext.trans HX.out hx)
    clear hx
    have e0 : w1.cell? ⟨w.heap.size, 0, none⟩ = some (.int .u8 o) := HB1.out.cell 0 _ rfl
    have e3 : w1.cell? ⟨w.heap.size, 3, none⟩ = some (.int .u8 vk) := HB1.out.cell 3 _ rfl
    have e5 : w1.cell? ⟨w.heap.size, 5, none⟩ = some (.string ⟨vs.toArray⟩) := HB1.out.cell 5 _ rfl
    cases r with
    | false =>
      go_wp2_with fail
      go_ret
      exact ⟨rfl, HX1.out⟩
    | true =>
      by_cases hk : vk = K
      · have q : (vk != K) = false := by simp [hk]
        have HKK := Lib.hid hk
        clear hk
        by_cases h7 : o = 7
        · subst h7
          by_cases h3 : K = 3
          · subst h3
            go_wp2_with fail
            refine (HK.out _ HX1.out).mono ?_
            rintro e w2 ⟨rfl, hx⟩
            have HX2 := Lib.hid (Ext.trans HX1.out hx)
            clear hx
            cases hok : okP vs with
            | true =>
              have HOK := Lib.hid hok
              clear hok
              simp only [cond_true]
              go_wp2_with fail
              go_ret
              exact ⟨by rw [HKK.out, HOK.out]; rfl, HX2.out⟩
            | false =>
              have HOK := Lib.hid hok
              clear hok
              simp only [cond_false]
              go_wp2_with fail
              go_ret
              exact ⟨by rw [HKK.out, HOK.out]; rfl, HX2.out⟩
          · have q3 : (K == (3 : Int)) = false := beq_eq_false_iff_ne.2 h3
            have H3 := Lib.hid h3
            clear h3
            go_wp2_with fail
            go_ret
            exact ⟨by rw [HKK.out, decide_eq_false H3.out]; simp, HX1.out⟩
        · have q7 : (o != (7 : Int)) = true := bne_iff_ne.2 h7
          have H7 := Lib.hid h7
          clear h7
          go_wp2_with fail
          go_ret
          exact ⟨by rw [HKK.out, decide_eq_false H7.out]; simp, HX1.out⟩
      · have q : (vk != K) = true := bne_iff_ne.2 hk
        have HKK := Lib.hid hk
        clear hk
        go_wp2_with fail
        go_ret
        exact ⟨by rw [decide_eq_false HKK.out]; simp, HX1.out⟩

set_option maxRecDepth 100000 in
set_option maxHeartbeats 2000000 in
theorem pRightFields_any (u : Value) (K : List Int) (n : Nd) (w : World) (hu : RdV w u (K.map (Value.int .u8))) (_hK : K.length ≤ 1000000) (hT : Tabs w) (hv : n.v.fits) (hl : n.v.s.length ≤ 5000) :
    Calls Tryz.prog 32 #[u, n.val] w fun e w' => e = .returned (.bool (rightF okP K n)) ∧ Ext w w' := by
  have HV := Lib.hid (fun k W (h : Ext w W) => pRightValue_any k n W (hT.mono h) hv hl)
  obtain ⟨ao, ca, rfl, h1, h2, hca⟩ := RdV.cellsAt hu
  rw [List.length_map] at *
  have HC := Lib.hid hca
  obtain ⟨N, hN⟩ : ∃ N, K.length = N := ⟨_, rfl⟩
  have HN := Lib.hid hN
  rw [hN] at h1 ⊢
  unfold maxLen at h2
  obtain ⟨o, c, kd, ⟨vk, vn, vs⟩⟩ := n
  have HB := Lib.hid (Blk.new w [.int .u8 o, .int .i64 c, .int .i64 kd, .int .u8 vk, .int .i64 vn, .string ⟨vs.toArray⟩] 38)
  have HX := Lib.hid (ext_new w (.cells #[.int .u8 o, .int .i64 c, .int .i64 kd, .int .u8 vk, .int .i64 vn, .string ⟨vs.toArray⟩] 38))
  have HQ := Lib.hid (show rightF okP K ⟨o, c, kd, ⟨vk, vn, vs⟩⟩ = if o = 2 ∨ o = 3 then decide ((⟨o, c, kd, ⟨vk, vn, vs⟩⟩ : Nd) = ⟨o, 0, kd, V.zero⟩) else if o = 1 ∨ o = 4 then decide ((⟨o, c, kd, ⟨vk, vn, vs⟩⟩ : Nd) = ⟨o, 0, 0, V.zero⟩) else decide (kd = 0) && (decide (0 ≤ c ∧ c < K.length) && rightVal okP ((K[c.toNat]?).getD 0) ⟨o, c, kd, ⟨vk, vn, vs⟩⟩) from rfl)
  unfold Nd.val at HV ⊢
  simp only at HV ⊢
  rw [HQ.out]
  clear hu hca hN hv hl hT
  by_cases h23 : o = 2 ∨ o = 3
  · rw [if_pos h23]
    have hq : ∀ W, (binOp .eql 38 (.agg #[.int .u8 o, .int .i64 c, .int .i64 kd, .int .u8 vk, .int .i64 vn, .string ⟨vs.toArray⟩]) (.agg #[.int .u8 o, .int .i64 0, .int .i64 kd, .int .u8 0, .int .i64 0, .string ⟨#[]⟩])).run Tryz.prog W = .ok (.bool (decide ((⟨o, c, kd, ⟨vk, vn, vs⟩⟩ : Nd) = ⟨o, 0, kd, V.zero⟩))) W := fun W => eq_nd ⟨o, c, kd, ⟨vk, vn, vs⟩⟩ ⟨o, 0, kd, V.zero⟩ W
    generalize decide ((⟨o, c, kd, ⟨vk, vn, vs⟩⟩ : Nd) = ⟨o, 0, kd, V.zero⟩) = b at hq ⊢
    rcases h23 with rfl | rfl <;> (
      go_enter Tryz.func32, Tryz.ntmps32
      go_wp2_with fail
      go_ret
      exact ⟨rfl, HX.out⟩)
  · rw [if_neg h23]
    have q2 : (o == (2 : Int)) = false := beq_eq_false_iff_ne.2 (by omega)
    have q3 : (o == (3 : Int)) = false := beq_eq_false_iff_ne.2 (by omega)
    clear h23
    by_cases h14 : o = 1 ∨ o = 4
    · rw [if_pos h14]
      have hq : ∀ W, (binOp .eql 38 (.agg #[.int .u8 o, .int .i64 c, .int .i64 kd, .int .u8 vk, .int .i64 vn, .string ⟨vs.toArray⟩]) (.agg #[.int .u8 o, .int .i64 0, .int .i64 0, .int .u8 0, .int .i64 0, .string ⟨#[]⟩])).run Tryz.prog W = .ok (.bool (decide ((⟨o, c, kd, ⟨vk, vn, vs⟩⟩ : Nd) = ⟨o, 0, 0, V.zero⟩))) W := fun W => eq_nd ⟨o, c, kd, ⟨vk, vn, vs⟩⟩ ⟨o, 0, 0, V.zero⟩ W
      generalize decide ((⟨o, c, kd, ⟨vk, vn, vs⟩⟩ : Nd) = ⟨o, 0, 0, V.zero⟩) = b at hq ⊢
      rcases h14 with rfl | rfl <;> (
        go_enter Tryz.func32, Tryz.ntmps32
        go_wp2_with fail
        go_ret
        exact ⟨rfl, HX.out⟩)
    · rw [if_neg h14]
      have q1 : (o == (1 : Int)) = false := beq_eq_false_iff_ne.2 (by omega)
      have q4 : (o == (4 : Int)) = false := beq_eq_false_iff_ne.2 (by omega)
      clear h14
      generalize hW : w.alloc (.cells #[.int .u8 o, .int .i64 c, .int .i64 kd, .int .u8 vk, .int .i64 vn, .string ⟨vs.toArray⟩] 38) = W0 at HB HX
      have HW := Lib.hid hW
      clear hW
      by_cases hkd : kd = 0
      · subst hkd
        have HI := Lib.hid (fun W => in_any N c W)
        by_cases hin : 0 ≤ c ∧ c < (N : Int)
        · obtain ⟨j, rfl⟩ := Int.eq_ofNat_of_zero_le hin.1
          have hj : j < N := by omega
          have HQ2 := Lib.hid (show (decide ((0 : Int) = 0) && (decide (0 ≤ (j : Int) ∧ (j : Int) < K.length) && rightVal okP ((K[(j : Int).toNat]?).getD 0) ⟨o, j, 0, ⟨vk, vn, vs⟩⟩)) = rightVal okP ((K[j]?).getD 0) ⟨o, j, 0, ⟨vk, vn, vs⟩⟩ by rw [decide_eq_true rfl, decide_eq_true (by have := HN.out; omega), Int.toNat_natCast]; rfl)
          rw [HQ2.out]
          have hjK : j < K.length := by have := HN.out; omega
          obtain ⟨x, rfl, hcx⟩ := HC.out j (.int .u8 K[j]) (by rw [List.getElem?_map, List.getElem?_eq_getElem hjK]; rfl)
          have HCX := Lib.hid ((HX.out.cell (lt_of_cell hcx)).trans hcx)
          rw [List.getElem?_eq_getElem hjK, Option.getD_some]
          rw [decide_eq_true hin] at HI
          clear hcx hin
          generalize K[j] = y at HCX ⊢
          have HV2 := Lib.hid (HV.out y)
          clear HV
          generalize rightVal okP y ⟨o, j, 0, ⟨vk, vn, vs⟩⟩ = b at HV2 ⊢
          go_enter Tryz.func32, Tryz.ntmps32
          go_wp2_with fail
          rw [HW.out]
          refine wp_region_segs Ext Ext.keeps [([0, 1, 2, 3, 4, 5, 6, 7], some 8), ([9, 10, 11, 12, 13, 14, 15, 16], some 17), ([18, 19], none)] (by kernel_rfl) (by kernel_rfl) (fun c a a' w e h => (by exact ⟨e ▸ h.1, h.2⟩)) ?_
          simp only [pickSegs, pickOps, List.map_cons, List.map_nil, Option.map_some, Option.map_none, Option.getD_some, List.getElem?_toArray, List.getElem?_cons_zero, List.getElem?_cons_succ]
          have a0 := later_cell (w := W0) (b := w.heap.size) (fun j u hj => HB.out.cell j u hj) 0 (.int .u8 o) rfl
          have a1 := later_cell (w := W0) (b := w.heap.size) (fun j u hj => HB.out.cell j u hj) 1 (.int .i64 (j : Int)) rfl
          have a2 := later_cell (w := W0) (b := w.heap.size) (fun j u hj => HB.out.cell j u hj) 2 (.int .i64 0) rfl
          have a3 := later_cell (w := W0) (b := w.heap.size) (fun j u hj => HB.out.cell j u hj) 3 (.int .u8 vk) rfl
          have a4 := later_cell (w := W0) (b := w.heap.size) (fun j u hj => HB.out.cell j u hj) 4 (.int .i64 vn) rfl
          have a5 := later_cell (w := W0) (b := w.heap.size) (fun j u hj => HB.out.cell j u hj) 5 (.string ⟨vs.toArray⟩) rfl
          refine wpSegs_some fun K hK => ?_
          repeat go_big_quiet_step (fail)
          refine wpQuiet_nil ?_
          clear a0 a1 a2 a3 a4 a5
          go_wp2_with fail
          refine (HI.out _).mono ?_
          rintro e W' ⟨rfl, rfl⟩
          go_wp2_with fail
          refine ⟨Ext.keeps.refl _, hK _ _ ?_⟩
          clear hK K
          have a0 := now_cell (w := W0.drew) (b := w.heap.size) (fun j u hj => (HB.out.ext (Ext.drew _)).cell j u hj) 0 (.int .u8 o) rfl
          have a1 := now_cell (w := W0.drew) (b := w.heap.size) (fun j u hj => (HB.out.ext (Ext.drew _)).cell j u hj) 1 (.int .i64 (j : Int)) rfl
          have a2 := now_cell (w := W0.drew) (b := w.heap.size) (fun j u hj => (HB.out.ext (Ext.drew _)).cell j u hj) 2 (.int .i64 0) rfl
          have a3 := now_cell (w := W0.drew) (b := w.heap.size) (fun j u hj => (HB.out.ext (Ext.drew _)).cell j u hj) 3 (.int .u8 vk) rfl
          have a4 := now_cell (w := W0.drew) (b := w.heap.size) (fun j u hj => (HB.out.ext (Ext.drew _)).cell j u hj) 4 (.int .i64 vn) rfl
          have a5 := now_cell (w := W0.drew) (b := w.heap.size) (fun j u hj => (HB.out.ext (Ext.drew _)).cell j u hj) 5 (.string ⟨vs.toArray⟩) rfl
          have hy : ∀ z : Later Ext W0.drew, z.val.cell? (x.add j) = some (.int .u8 y) := fun z => (z.ext.cell (lt_of_cell (((Ext.drew W0).cell (lt_of_cell HCX.out)).trans HCX.out))).trans (((Ext.drew W0).cell (lt_of_cell HCX.out)).trans HCX.out)
          refine wpSegs_some fun K hK => ?_
          repeat go_big_quiet_step (fail)
          refine wpQuiet_nil ?_
          clear a0 a1 a2 a3 a4 a5
          clear hy
          go_wp2_with fail
          refine (HV2.out _ (Ext.trans HX.out (Ext.drew _))).mono ?_
          rintro e W1 ⟨rfl, hx⟩
          have HH1 := Lib.hid hx
          clear hx
          go_wp2_with fail
          refine ⟨HH1.out, hK _ _ ?_⟩
          clear hK K
          refine wpSegs_none ?_
          repeat go_big_quiet_step (fail)
          refine wpQuiet_nil (wpSegs_nil ?_)
          go_wp2_with fail
          go_ret
          exact ⟨rfl, Ext.trans HX.out (Ext.trans (Ext.drew _) HH1.out)⟩
        · have HQ2 := Lib.hid (show (decide ((0 : Int) = 0) && (decide (0 ≤ c ∧ c < K.length) && rightVal okP ((K[c.toNat]?).getD 0) ⟨o, c, 0, ⟨vk, vn, vs⟩⟩)) = false by rw [decide_eq_false (show ¬ (0 ≤ c ∧ c < (K.length : Int)) by have := HN.out; omega)]; simp)
          rw [HQ2.out]
          rw [decide_eq_false hin] at HI
          clear hin HV
          go_enter Tryz.func32, Tryz.ntmps32
          go_wp2_with fail
          rw [HW.out]
          refine wp_region_segs Ext Ext.keeps [([0, 1, 2, 3, 4, 5, 6, 7], some 8), ([9, 10, 11, 12, 13, 14, 15, 16], some 17), ([18, 19], none)] (by kernel_rfl) (by kernel_rfl) (fun c a a' w e h => (by exact ⟨e ▸ h.1, h.2⟩)) ?_
          simp only [pickSegs, pickOps, List.map_cons, List.map_nil, Option.map_some, Option.map_none, Option.getD_some, List.getElem?_toArray, List.getElem?_cons_zero, List.getElem?_cons_succ]
          have a0 := later_cell (w := W0) (b := w.heap.size) (fun j u hj => HB.out.cell j u hj) 0 (.int .u8 o) rfl
          have a1 := later_cell (w := W0) (b := w.heap.size) (fun j u hj => HB.out.cell j u hj) 1 (.int .i64 c) rfl
          have a2 := later_cell (w := W0) (b := w.heap.size) (fun j u hj => HB.out.cell j u hj) 2 (.int .i64 0) rfl
          have a3 := later_cell (w := W0) (b := w.heap.size) (fun j u hj => HB.out.cell j u hj) 3 (.int .u8 vk) rfl
          have a4 := later_cell (w := W0) (b := w.heap.size) (fun j u hj => HB.out.cell j u hj) 4 (.int .i64 vn) rfl
          have a5 := later_cell (w := W0) (b := w.heap.size) (fun j u hj => HB.out.cell j u hj) 5 (.string ⟨vs.toArray⟩) rfl
          refine wpSegs_some fun K hK => ?_
          repeat go_big_quiet_step (fail)
          refine wpQuiet_nil ?_
          clear a0 a1 a2 a3 a4 a5
          go_wp2_with fail
          refine (HI.out _).mono ?_
          rintro e W' ⟨rfl, rfl⟩
          go_wp2_with fail
          refine ⟨Ext.keeps.refl _, hK _ _ ?_⟩
          clear hK K
          refine wpSegs_some fun K hK => ?_
          repeat go_big_quiet_step (fail)
          refine wpQuiet_nil ?_
          go_wp2_with fail
          refine ⟨Ext.keeps.refl _, hK _ _ ?_⟩
          clear hK K
          refine wpSegs_none ?_
          repeat go_big_quiet_step (fail)
          refine wpQuiet_nil (wpSegs_nil ?_)
          go_wp2_with fail
          go_ret
          exact ⟨rfl, Ext.trans HX.out (Ext.drew _)⟩
      · have HQ2 := Lib.hid (show (decide (kd = 0) && (decide (0 ≤ c ∧ c < K.length) && rightVal okP ((K[c.toNat]?).getD 0) ⟨o, c, kd, ⟨vk, vn, vs⟩⟩)) = false by rw [decide_eq_false hkd]; rfl)
        have qk : (kd == (0 : Int)) = false := beq_eq_false_iff_ne.2 hkd
        rw [HQ2.out]
        clear hkd HV
        go_enter Tryz.func32, Tryz.ntmps32
        go_wp2_with fail
        rw [HW.out]
        refine wp_region_segs Ext Ext.keeps [([0, 1, 2, 3, 4, 5, 6, 7], some 8), ([9, 10, 11, 12, 13, 14, 15, 16], some 17), ([18, 19], none)] (by kernel_rfl) (by kernel_rfl) (fun c a a' w e h => (by exact ⟨e ▸ h.1, h.2⟩)) ?_
        simp only [pickSegs, pickOps, List.map_cons, List.map_nil, Option.map_some, Option.map_none, Option.getD_some, List.getElem?_toArray, List.getElem?_cons_zero, List.getElem?_cons_succ]
        have a0 := later_cell (w := W0) (b := w.heap.size) (fun j u hj => HB.out.cell j u hj) 0 (.int .u8 o) rfl
        have a1 := later_cell (w := W0) (b := w.heap.size) (fun j u hj => HB.out.cell j u hj) 1 (.int .i64 c) rfl
        have a2 := later_cell (w := W0) (b := w.heap.size) (fun j u hj => HB.out.cell j u hj) 2 (.int .i64 kd) rfl
        have a3 := later_cell (w := W0) (b := w.heap.size) (fun j u hj => HB.out.cell j u hj) 3 (.int .u8 vk) rfl
        have a4 := later_cell (w := W0) (b := w.heap.size) (fun j u hj => HB.out.cell j u hj) 4 (.int .i64 vn) rfl
        have a5 := later_cell (w := W0) (b := w.heap.size) (fun j u hj => HB.out.cell j u hj) 5 (.string ⟨vs.toArray⟩) rfl
        refine wpSegs_some fun K hK => ?_
        repeat go_big_quiet_step (fail)
        refine wpQuiet_nil ?_
        clear a0 a1 a2 a3 a4 a5
        go_wp2_with fail
        refine ⟨Ext.keeps.refl _, hK _ _ ?_⟩
        clear hK K
        refine wpSegs_some fun K hK => ?_
        repeat go_big_quiet_step (fail)
        refine wpQuiet_nil ?_
        go_wp2_with fail
        refine ⟨Ext.keeps.refl _, hK _ _ ?_⟩
        clear hK K
        refine wpSegs_none ?_
        repeat go_big_quiet_step (fail)
        refine wpQuiet_nil (wpSegs_nil ?_)
        go_wp2_with fail
        go_ret
        exact ⟨rfl, Ext.trans HX.out (Ext.drew _)⟩

theorem enters_wrong14 : ∀ args w, (callFunc 31 args).run Tryz.prog w = .ok (.enter 31 args) w := enters_of Tryz.func31 (by kernel_rfl) rfl
theorem pWrong14_any (u : Value) (K : List Int) (n : Nd) (kb : Nat) (w : World) (hkb : w.cell? ⟨kb, 0, none⟩ = some u) (hu : RdV w u (K.map (Value.int .u8))) (hK : K.length ≤ 1000000) (hT : Tabs w) (hv : n.v.fits) (hl : n.v.s.length ≤ 5000) :
    Calls Tryz.prog 31 #[n.val, .pointer (some ⟨kb, 0, none⟩)] w fun e w' => e = .returned (.bool (!rightF okP K n)) ∧ Ext w w' := by
  have HF := Lib.hid (fun W (h : Ext w W) => pRightFields_any u K n W (hu.mono h) hK (hT.mono h) hv hl)
  obtain ⟨ao, ca, rfl, h1, h2, hca⟩ := RdV.cellsAt hu
  rw [List.length_map] at *
  generalize K.length = N at *
  obtain ⟨o, c, kd, ⟨vk, vn, vs⟩⟩ := n
  have HX := Lib.hid (ext_new w (.cells #[.int .u8 o, .int .i64 c, .int .i64 kd, .int .u8 vk, .int .i64 vn, .string ⟨vs.toArray⟩] 38))
  have x0 := (HX.out.cell (lt_of_cell hkb)).trans hkb
  generalize rightF okP K ⟨o, c, kd, ⟨vk, vn, vs⟩⟩ = b at HF ⊢
  unfold Nd.val at HF ⊢
  simp only at HF ⊢
  clear hu hca hv hl hT hkb
  go_enter Tryz.func31, Tryz.ntmps31
  go_wp2_with fail
  refine (HF.out _ HX.out).mono ?_
  rintro e w1 ⟨rfl, hx⟩
  have HX1 := Lib.hid (Ext.trans HX.out hx)
  clear hx
  go_wp2_with fail
  go_ret
  exact ⟨rfl, HX1.out⟩

set_option maxRecDepth 100000 in
theorem indexFuncN_any (G : Nat) (p : Value) (B : Nd → Bool) (u : Value) (ws : List Nd) (w : World) (hu : RdNds w u ws) (he : ∀ args w, (callFunc G args).run Tryz.prog w = .ok (.enter G args) w)
    (hf : ∀ v ∈ ws, ∀ W, Ext w W → Calls Tryz.prog G #[v.val, p] W fun e w' => e = .returned (.bool (B v)) ∧ Ext W w') :
    Calls Tryz.prog 59 #[u, .func (.func G) #[] #[p]] w fun e w' => (∃ k : Int, e = .returned (.int .i64 k) ∧ -1 ≤ k ∧ k ≤ 9223372036854775807 ∧ decide (0 ≤ k) = ws.any B) ∧ Ext w w' := by
  obtain ⟨ao, cap, rfl, -, -⟩ := hu.shape
  obtain ⟨-, h1, h2, hc⟩ := hu.plain
  have HC := Lib.hid hc
  have HF := Lib.hid hf
  unfold maxLen at h2
  obtain ⟨N, hN⟩ : ∃ N, ws.length = N := ⟨_, rfl⟩
  have HN := Lib.hid hN
  rw [hN] at h1 ⊢
  clear hu hc hf hN
  go_enter Tryz.func59, Tryz.ntmps59
  go_wp2_with fail
  go_loopw [5, 8] (fun _ i wr => ∃ j : Nat, j ≤ N ∧ i = .int .i64 j ∧ (ws.take j).any B = false ∧ Ext w wr) (fun _ i _ => N - (intOf i).toNat)
  case atStart => exact ⟨0, Nat.zero_le _, rfl, rfl, Ext.keeps.refl _⟩
  case round =>
    obtain ⟨j, hj, rfl, hb, hx⟩ := hrel
    have HB := Lib.hid hb
    have HX := Lib.hid hx
    clear hb hx
    by_cases hlt : j < N
    · have hjl : j < ws.length := by have := HN.out; omega
      obtain ⟨g, off, rfl, c0, c1, c2, c3, c4, c5⟩ := HC.out j hjl
      have x0 := (HX.out.cell (lt_of_cell c0)).trans c0
      have x1 := (HX.out.cell (lt_of_cell c1)).trans c1
      have x2 := (HX.out.cell (lt_of_cell c2)).trans c2
      have x3 := (HX.out.cell (lt_of_cell c3)).trans c3
      have x4 := (HX.out.cell (lt_of_cell c4)).trans c4
      have x5 := (HX.out.cell (lt_of_cell c5)).trans c5
      have HS := Lib.hid (List.take_succ_eq_append_getElem hjl)
      have HM := Lib.hid (List.getElem_mem hjl)
      have HFC := Lib.hid (HF.out _ HM.out wr HX.out)
      generalize ws[j] = v at x0 x1 x2 x3 x4 x5 HS HFC HM
      have HEN := he
      obtain ⟨o, c, kd, ⟨vk, vn, vs⟩⟩ := v
      unfold Nd.val at HFC
      simp only at x0 x1 x2 x3 x4 x5 HFC
      clear c0 c1 c2 c3 c4 c5
      cases hb : B ⟨o, c, kd, ⟨vk, vn, vs⟩⟩ with
      | true =>
        rw [hb] at HFC
        have HB1 := Lib.hid hb
        clear hb
        go_wp2_with fail
        refine HFC.out.mono ?_
        rintro e w2 ⟨rfl, hx⟩
        have HX2 := Lib.hid (Ext.trans HX.out hx)
        clear hx
        go_wp2_with fail
        go_ret
        exact ⟨⟨_, rfl, by omega, by omega, by rw [List.any_eq_true.2 ⟨_, HM.out, HB1.out⟩]; exact decide_eq_true (by omega)⟩, HX2.out⟩
      | false =>
        rw [hb] at HFC
        have HB1 := Lib.hid hb
        clear hb
        go_wp2_with fail
        refine HFC.out.mono ?_
        rintro e w2 ⟨rfl, hx⟩
        have HX2 := Lib.hid (Ext.trans HX.out hx)
        clear hx
        go_wp2_with fail
        go_roundw
        case rel => exact ⟨j + 1, by omega, by go_num, by rw [HS.out, List.any_append, HB.out]; simp [HB1.out], HX2.out⟩
        case measure => simp [intOf]; omega
    · have HNO := Lib.hid (show ws.any B = false by have h := HB.out; rwa [List.take_of_length_le (by have := HN.out; omega)] at h)
      go_wp2_with fail
      go_ret
      exact ⟨⟨-1, rfl, by omega, by omega, by rw [HNO.out]; decide⟩, HX.out⟩

set_option maxRecDepth 100000 in
theorem containsFuncN_any (G : Nat) (p : Value) (B : Nd → Bool) (u : Value) (ws : List Nd) (w : World) (hu : RdNds w u ws) (he : ∀ args w, (callFunc G args).run Tryz.prog w = .ok (.enter G args) w)
    (hf : ∀ v ∈ ws, ∀ W, Ext w W → Calls Tryz.prog G #[v.val, p] W fun e w' => e = .returned (.bool (B v)) ∧ Ext W w') :
    Calls Tryz.prog 33 #[u, .func (.func G) #[] #[p]] w fun e w' => e = .returned (.bool (ws.any B)) ∧ Ext w w' := by
  have HI := Lib.hid (indexFuncN_any G p B u ws w hu he hf)
  clear hf
  go_enter Tryz.func33, Tryz.ntmps33
  go_wp2_with fail
  refine HI.out.mono ?_
  rintro e w2 ⟨⟨k, rfl, hk1, hk2, hk⟩, hx⟩
  go_wp2_with fail
  go_ret
  exact ⟨by rw [← hk]; rfl, hx⟩

set_option maxRecDepth 100000 in
set_option maxHeartbeats 1000000 in
theorem pRight14_any (u v : Value) (K : List Int) (l : List Nd) (w : World) (hu : RdV w u (K.map (Value.int .u8))) (hK : K.length ≤ 1000000) (hv : RdNds w v l) (hf : FitN 5000 l) (hT : Tabs w) :
    Calls Tryz.prog 11 #[u, v] w fun e w' => e = .returned (.int .i64 (errA okP K l)) ∧ Ext w w' := by
  rw [errA_is]
  have HW := Lib.hid (fun W (h : Ext w W) => pWhole_any v l W (hv.mono h))
  have HCF := Lib.hid (fun (kb : Nat) W (h : Ext w W) (hkb : W.cell? ⟨kb, 0, none⟩ = some u) => containsFuncN_any 31 (.pointer (some ⟨kb, 0, none⟩)) (fun n => !rightF okP K n) v l W (hv.mono h) enters_wrong14 fun n hn W' h' =>
    pWrong14_any u K n kb W' ((h'.cell (lt_of_cell hkb)).trans hkb) (hu.mono (Ext.trans h h')) hK (hT.mono (Ext.trans h h')) (hf n hn).1.v (hf n hn).2)
  have HA := Lib.hid (show l.all (rightF okP K) = !l.any (fun n => !rightF okP K n) by rw [List.all_eq_not_any_not])
  rw [HA.out]
  obtain ⟨ao, ca, rfl, h1, h2, -⟩ := RdV.cellsAt hu
  obtain ⟨bo, cb, rfl, h3, h4, -⟩ := hv
  rw [List.length_map] at *
  generalize K.length = N at *
  generalize l.length = M at *
  generalize l.any (fun n => !rightF okP K n) = b at HCF ⊢
  generalize wholeS l = c at HW ⊢
  have HX := Lib.hid (ext_new w (.cells #[.slice ao N ca] 22))
  have HB := Lib.hid (Blk.new w [.slice ao N ca] 22)
  have hmf : ∀ (fn : Fn) (first cap : Array Value) (w : World), (Instr.makeFunc fn first cap).run Tryz.prog w = .ok (.func fn first cap) w := fun _ _ _ _ => rfl
  clear hu hf hT
  go_enter Tryz.func11, Tryz.ntmps11
  go_wp2_with fail
  refine (HW.out _ HX.out).mono ?_
  rintro e w1 ⟨rfl, hx⟩
  have HX1 := Lib.hid (Ext.trans HX.out hx)
  have HB1 := Lib.hid (HB.out.ext hx)
  clear hx
  cases c with
  | false =>
    go_wp2_with fail
    go_ret
    exact ⟨rfl, HX1.out⟩
  | true =>
    go_wp2_with fail
    refine (HCF.out w.heap.size _ HX1.out (HB1.out.cell 0 _ rfl)).mono ?_
    rintro e w2 ⟨rfl, hx⟩
    have HX2 := Lib.hid (Ext.trans HX1.out hx)
    clear hx
    cases b with
    | false =>
      go_wp2_with fail
      go_ret
      exact ⟨rfl, HX2.out⟩
    | true =>
      go_wp2_with fail
      go_ret
      exact ⟨rfl, HX2.out⟩

end Go.Proofs.YtfnmcdjfdhdlmaaGreatDoor

/-
  The program's Fixed.
-/
namespace Go.Proofs.YtfnmcdjfdhdlmaaGreatDoor
open Go.RowKit

set_option maxRecDepth 100000 in
set_option maxHeartbeats 1000000 in
theorem Fixed_any (l : List UInt8) (w : World) (hT : Tabs w) (hl : l.length ≤ 5000) :
    Calls Tryz.prog 78 #[sv l] w fun e w' => e = .returned (.tuple #[sv (fixS l), .bool (fixB l), .int .i64 (errN l)]) ∧ Ext w w' := by
  have HP := Lib.hid (elements_any l w hT hl)
  have HLL := Lib.hid (lets_length l)
  have HL := Lib.hid hl
  generalize hS : fixS l = S
  generalize hB : fixB l = B
  generalize hE : errN l = E
  have HS := Lib.hid hS
  have HB := Lib.hid hB
  have HE := Lib.hid hE
  clear hT hl hE hS hB
  unfold sv at HP ⊢
  go_enter Tryz.func78, Tryz.ntmps78
  go_wp2_with fail
  refine HP.out.mono ?_
  rintro e w1 ⟨⟨ps, v, h, rfl, hown⟩ | ⟨h, rfl⟩, hb⟩
  · have H := Lib.hid h
    have HBE := Lib.hid hb
    have hel := els_len _ _ _ (Nat.le_refl _) h
    have HPL := Lib.hid (show ps.length ≤ 5000 by have := HLL.out; have := HL.out; omega)
    have HC4 := Lib.hid (show ∀ c, El.lit c ∈ ps → c.length ≤ 4 from fun c hc => by have h := lets_letters l c (hel.2 c hc); rw [← h.2]; exact (wid_bounds c h.1).2.2)
    have HOWN := Lib.hid hown
    obtain ⟨ao, cp, rfl⟩ : ∃ ao cp, v = .slice ao ps.length cp := by
      rcases hown.2 with ⟨h1, h2⟩ | ⟨g, cap, cur, h1, _⟩
      · exact ⟨none, 0, by rw [h1, h2]⟩
      · exact ⟨_, _, h1⟩
    clear h hb hel hown
    go_wp2_with fail
    go_loopw [9, 20] (fun _ i wr => ∃ (j : Nat) (pre : List UInt8), j ≤ ps.length ∧ i = .int .i64 j ∧ pre.length ≤ 4 * j ∧ fixedE ps = (pre ++ (fixedE (ps.drop j)).1, (fixedE (ps.drop j)).2) ∧ Bld w1.heap.size w1.heap.size pre wr ∧ Below w1.heap.size w1 wr) (fun _ i _ => ps.length - (intOf i).toNat)
    case atStart => exact ⟨0, [], Nat.zero_le _, rfl, Nat.le_refl _, rfl, bldFresh _, (Below.refl _ _).alloc (Nat.le_refl _) _⟩
    case round =>
      obtain ⟨j, pre, hj, rfl, hpl, hfix, hbld, hbel⟩ := hrel
      have HFIX := Lib.hid hfix
      have HBLD := Lib.hid hbld
      have HBEL := Lib.hid hbel
      have hsz := hbel.size
      clear hfix hbld hbel
      have hpl2 : pre.length ≤ 20000 := by have := HPL.out; omega
      have hps : ps.length ≤ 5000 := HPL.out
      by_cases hlt : j < ps.length
      · obtain ⟨x, rfl⟩ : ∃ x, ao = some x := by
          rcases HOWN.out.2 with ⟨_, h2⟩ | ⟨g, cap, cur, h1, _⟩
          · omega
          · simp only [Value.slice.injEq] at h1
            exact ⟨_, h1.1⟩
        obtain ⟨g, rfl, _, hg⟩ := own_addr HOWN.out
        have hcell : ∀ f, f < 2 → wr.cell? ⟨g, j * 2 + f, none⟩ = (pC ps[j])[f]? := fun f hf => by
          have h1 : w1.cell? ⟨g, j * 2 + f, none⟩ = (pC ps[j])[f]? := by rw [HOWN.out.cellAt _ (by omega), pC_at ps j f hlt hf]
          rw [← h1]
          exact HBEL.out.cell (p := ⟨g, j * 2 + f, none⟩) hg
        have HDR := Lib.hid (List.drop_eq_getElem_cons hlt)
        have HMEM := Lib.hid (List.getElem_mem hlt)
        generalize ps[j] = el at hcell HDR HMEM
        have hc0 := hcell 0 (by decide)
        have hc1 := hcell 1 (by decide)
        rw [Nat.add_zero] at hc0
        clear hcell
        cases el with
        | any =>
          simp only [pC, List.getElem?_cons_zero, List.getElem?_cons_succ] at hc0 hc1
          go_wp2_with fail
          refine (bldString _ _ _ _ (Lib.IsBuilderF.alloc HBLD.out _) (by simp; omega)).mono ?_
          rintro e w4 ⟨rfl, _, hbe4, _⟩
          have HBE4 := Lib.hid (show Ext w w4 from Ext.trans HBE.out ((HBEL.out.alloc hsz _).trans hbe4))
          clear hbe4
          go_wp2_with fail
          refine bodyPost_ret (v := .tuple #[.string ⟨pre.toArray⟩, .bool false, .int .i64 0]) (by simp [results, Tryz.results78, go_sem]) rfl ⟨?_, HBE4.out⟩
          have hf := HFIX.out
          rw [HDR.out] at hf
          rw [← HS.out, ← HB.out, ← HE.out, (fix_some H.out).1, (fix_some H.out).2, errN_some H.out, hf]
          simp [fixedE]
        | one =>
          simp only [pC, List.getElem?_cons_zero, List.getElem?_cons_succ] at hc0 hc1
          go_wp2_with fail
          refine (bldString _ _ _ _ (Lib.IsBuilderF.alloc HBLD.out _) (by simp; omega)).mono ?_
          rintro e w4 ⟨rfl, _, hbe4, _⟩
          have HBE4 := Lib.hid (show Ext w w4 from Ext.trans HBE.out ((HBEL.out.alloc hsz _).trans hbe4))
          clear hbe4
          go_wp2_with fail
          refine bodyPost_ret (v := .tuple #[.string ⟨pre.toArray⟩, .bool false, .int .i64 0]) (by simp [results, Tryz.results78, go_sem]) rfl ⟨?_, HBE4.out⟩
          have hf := HFIX.out
          rw [HDR.out] at hf
          rw [← HS.out, ← HB.out, ← HE.out, (fix_some H.out).1, (fix_some H.out).2, errN_some H.out, hf]
          simp [fixedE]
        | lit c =>
          simp only [pC, List.getElem?_cons_zero, List.getElem?_cons_succ] at hc0 hc1
          have hc4 := HC4.out c HMEM.out
          unfold sv at hc1
          go_wp2_with fail
          refine (bldWriteString _ _ pre c _ (Lib.IsBuilderF.alloc HBLD.out _) (by omega) (by simp; omega)).mono ?_
          rintro e w3 ⟨⟨n3, rfl⟩, hb3, hbe3, _⟩
          have HB3 := Lib.hid hb3
          have HBE3 := Lib.hid ((HBEL.out.alloc hsz _).trans hbe3)
          clear hb3 hbe3
          go_wp2_with fail
          go_roundw
          case rel =>
            refine ⟨j + 1, pre ++ c, by omega, by go_num, by rw [List.length_append]; omega, ?_, HB3.out, HBE3.out⟩
            rw [HFIX.out, HDR.out]
            simp [fixedE]
          case measure => simp [intOf]; omega
      · have hjN : j = ps.length := by omega
        have HDN := Lib.hid (show ps.drop j = [] from List.drop_eq_nil_of_le (by omega))
        subst hjN
        go_wp2_with fail
        refine (bldString _ _ _ _ HBLD.out hsz).mono ?_
        rintro e w4 ⟨rfl, _, hbe4, _⟩
        have HBE4 := Lib.hid (show Ext w w4 from Ext.trans HBE.out (HBEL.out.trans hbe4))
        clear hbe4
        go_wp2_with fail
        refine bodyPost_ret (v := .tuple #[.string ⟨pre.toArray⟩, .bool true, .int .i64 0]) (by simp [results, Tryz.results78, go_sem]) rfl ⟨?_, HBE4.out⟩
        have hf := HFIX.out
        rw [HDN.out] at hf
        rw [← HS.out, ← HB.out, ← HE.out, (fix_some H.out).1, (fix_some H.out).2, errN_some H.out, hf]
        simp [fixedE]
  · have H := Lib.hid h
    have HBE := Lib.hid hb
    clear h hb
    go_wp2_with fail
    refine bodyPost_ret (v := .tuple #[.string ⟨#[]⟩, .bool false, .int .i64 30]) (by simp [results, Tryz.results78, go_sem]) rfl ⟨?_, HBE.out⟩
    rw [← HS.out, ← HB.out, ← HE.out, (fix_none H.out).1, (fix_none H.out).2, errN_none H.out]

end Go.Proofs.YtfnmcdjfdhdlmaaGreatDoor

/-
  To go through a pattern's elements and a text's letters, giving the last % one letter more each time that what is behind it fails: that it tells what is like the pattern. No program.
-/
namespace Go.Proofs.YtfnmcdjfdhdlmaaGreatDoor

/-- An element of one letter takes this one. -/
def tkE : El → List UInt8 → Bool
  | .any, _ => false
  | .one, _ => true
  | .lit d, c => decide (d = c)

def noAny (l : List El) : Prop := ∀ e ∈ l, e ≠ .any

theorem mt_single (e : El) (he : e ≠ .any) (t : List El) (s : List (List UInt8)) : mt (e :: t) s = true ↔ ∃ c r, s = c :: r ∧ tkE e c = true ∧ mt t r = true := by
  cases e with
  | any => exact absurd rfl he
  | one =>
    rw [mt_one]
    exact ⟨fun ⟨c, r, h1, h2⟩ => ⟨c, r, h1, rfl, h2⟩, fun ⟨c, r, h1, _, h2⟩ => ⟨c, r, h1, h2⟩⟩
  | lit d =>
    rw [mt_lit]
    constructor
    · rintro ⟨r, rfl, h⟩
      exact ⟨d, r, rfl, by simp [tkE], h⟩
    · rintro ⟨c, r, rfl, h1, h2⟩
      have : d = c := by simpa [tkE] using h1
      exact ⟨r, by rw [this], h2⟩

theorem mt_cons (e : El) (he : e ≠ .any) (t : List El) (c : List UInt8) (r : List (List UInt8)) : mt (e :: t) (c :: r) = (tkE e c && mt t r) := by
  apply Bool.eq_iff_iff.2
  rw [mt_single e he, Bool.and_eq_true]
  constructor
  · rintro ⟨c', r', h, h1, h2⟩
    cases h
    exact ⟨h1, h2⟩
  · rintro ⟨h1, h2⟩
    exact ⟨c, r, rfl, h1, h2⟩

/-- What elements of one letter each are like. -/
theorem mt_mid (mid : List El) (hm : noAny mid) (rest : List El) : ∀ s, mt (mid ++ rest) s = true ↔ mid.length ≤ s.length ∧ mt mid (s.take mid.length) = true ∧ mt rest (s.drop mid.length) = true := by
  induction mid with
  | nil =>
    intro s
    simp only [List.nil_append, List.length_nil, Nat.zero_le, List.take_zero, List.drop_zero, true_and]
    exact ⟨fun h => ⟨rfl, h⟩, fun h => h.2⟩
  | cons e t ih =>
    have he : e ≠ .any := hm e (by simp)
    have ht : noAny t := fun x hx => hm x (List.mem_cons_of_mem _ hx)
    intro s
    cases s with
    | nil =>
      rw [List.cons_append, mt_single e he]
      constructor
      · rintro ⟨c, r, h, _⟩; cases h
      · rintro ⟨h, _⟩; simp at h
    | cons c r =>
      rw [List.cons_append, mt_cons e he, Bool.and_eq_true, ih ht]
      simp only [List.length_cons, List.take_succ_cons, List.drop_succ_cons, Nat.add_le_add_iff_right]
      rw [mt_cons e he, Bool.and_eq_true]
      exact ⟨fun ⟨a, b, c, d⟩ => ⟨b, ⟨a, c⟩, d⟩, fun ⟨b, ⟨a, c⟩, d⟩ => ⟨a, b, c, d⟩⟩

/-- How far one has come: the element nx, the letter la, the element behind the last %, and where its letters end. -/
def Gr (L : List El) (S : List (List UInt8)) (nx la af en : Nat) : Prop :=
  nx ≤ L.length ∧ la ≤ S.length ∧ en ≤ la ∧ af ≤ nx ∧
  ((af = 0 ∧ en = 0 ∧ mt L S = mt (L.drop nx) (S.drop la)) ∨
   (0 < af ∧ ∃ mid, L.drop af = mid ++ L.drop nx ∧ noAny mid ∧ en + mid.length = la ∧ mt mid ((S.drop en).take mid.length) = true ∧
      (mt L S = true ↔ ∃ k, en ≤ k ∧ k ≤ S.length ∧ mt (L.drop af) (S.drop k) = true)))

theorem Gr_start (L : List El) (S : List (List UInt8)) : Gr L S 0 0 0 0 := ⟨Nat.zero_le _, Nat.zero_le _, Nat.le_refl _, Nat.le_refl _, .inl ⟨rfl, rfl, rfl⟩⟩

theorem Gr_any {L : List El} {S : List (List UInt8)} {nx la af en : Nat} (h : Gr L S nx la af en) (hn : nx < L.length) (he : L[nx] = .any) : Gr L S (nx + 1) la (nx + 1) la := by
  obtain ⟨h1, h2, h3, h4, h5⟩ := h
  have hd : L.drop nx = .any :: L.drop (nx + 1) := by rw [List.drop_eq_getElem_cons hn, he]
  refine ⟨hn, h2, Nat.le_refl _, Nat.le_refl _, .inr ⟨by omega, [], rfl, (fun x hx => by cases hx), by simp, rfl, ?_⟩⟩
  rcases h5 with ⟨_, _, h5⟩ | ⟨_, mid, m1, m2, m3, m4, m5⟩
  · rw [h5, hd, mt_any]
    constructor
    · rintro ⟨k, hk, h⟩
      rw [List.length_drop] at hk
      exact ⟨la + k, by omega, by omega, by rw [List.drop_drop] at h; exact h⟩
    · rintro ⟨k, hk1, hk2, h⟩
      obtain ⟨j, rfl⟩ : ∃ j, k = la + j := ⟨k - la, by omega⟩
      exact ⟨j, by rw [List.length_drop]; omega, by rw [List.drop_drop]; exact h⟩
  · rw [m5, m1, hd]
    constructor
    · rintro ⟨k, hk1, hk2, h⟩
      obtain ⟨n1, _, n3⟩ := (mt_mid mid m2 _ _).1 h
      rw [List.length_drop] at n1
      obtain ⟨j, hj, h⟩ := (mt_any _ _).1 n3
      rw [List.length_drop, List.length_drop] at hj
      refine ⟨k + mid.length + j, by omega, by omega, ?_⟩
      rw [List.drop_drop, List.drop_drop, ← Nat.add_assoc] at h
      exact h
    · rintro ⟨k, hk1, hk2, h⟩
      obtain ⟨j, rfl⟩ : ∃ j, k = la + j := ⟨k - la, by omega⟩
      refine ⟨en, Nat.le_refl _, by omega, (mt_mid mid m2 _ _).2 ⟨by rw [List.length_drop]; omega, m4, (mt_any _ _).2 ⟨j, by rw [List.length_drop, List.length_drop]; omega, ?_⟩⟩⟩
      rw [List.drop_drop, List.drop_drop, ← Nat.add_assoc, m3]
      exact h

theorem Gr_take {L : List El} {S : List (List UInt8)} {nx la af en : Nat} (h : Gr L S nx la af en) (hn : nx < L.length) (ha : la < S.length) (he : L[nx] ≠ .any) (ht : tkE L[nx] S[la] = true) : Gr L S (nx + 1) (la + 1) af en := by
  obtain ⟨h1, h2, h3, h4, h5⟩ := h
  have hd : L.drop nx = L[nx] :: L.drop (nx + 1) := List.drop_eq_getElem_cons hn
  have hs : S.drop la = S[la] :: S.drop (la + 1) := List.drop_eq_getElem_cons ha
  generalize L[nx] = x at he ht hd
  generalize S[la] = c at ht hs
  refine ⟨hn, ha, by omega, by omega, ?_⟩
  rcases h5 with ⟨a1, a2, h5⟩ | ⟨a1, mid, m1, m2, m3, m4, m5⟩
  · refine .inl ⟨a1, a2, ?_⟩
    rw [h5, hd, hs, mt_cons _ he, ht, Bool.true_and]
  · refine .inr ⟨a1, mid ++ [x], by rw [m1, hd, List.append_assoc]; rfl, ?_, by rw [List.length_append, List.length_singleton]; omega, ?_, m5⟩
    · intro y hy
      rcases List.mem_append.1 hy with hy | hy
      · exact m2 y hy
      · rw [List.mem_singleton.1 hy]; exact he
    · have hl : (mid ++ [x]).length = mid.length + 1 := by simp
      rw [hl, mt_mid mid m2]
      refine ⟨by rw [List.length_take, List.length_drop]; omega, ?_, ?_⟩
      · rw [List.take_take, Nat.min_eq_left (by omega)]; exact m4
      · rw [List.drop_take, List.drop_drop, m3, show mid.length + 1 - mid.length = 1 by omega, hs, List.take_succ_cons, List.take_zero, mt_cons _ he, ht]
        rfl

/-- Where neither goes, the last % takes one letter more. -/
theorem Gr_back {L : List El} {S : List (List UInt8)} {nx la af en : Nat} (h : Gr L S nx la af en) (ha : la < S.length) (hf : 0 < af) (hno : ∀ (hn : nx < L.length), L[nx] ≠ .any ∧ tkE L[nx] S[la] = false) : Gr L S af (en + 1) af (en + 1) := by
  obtain ⟨h1, h2, h3, h4, h5⟩ := h
  have hs : S.drop la = S[la] :: S.drop (la + 1) := List.drop_eq_getElem_cons ha
  refine ⟨by omega, by omega, Nat.le_refl _, Nat.le_refl _, .inr ⟨hf, [], rfl, (fun x hx => by cases hx), by simp, rfl, ?_⟩⟩
  rcases h5 with ⟨a1, _⟩ | ⟨a1, mid, m1, m2, m3, m4, m5⟩
  · omega
  · rw [m5]
    constructor
    · rintro ⟨k, hk1, hk2, h⟩
      rcases Nat.lt_or_ge en k with hk | hk
      · exact ⟨k, hk, hk2, h⟩
      · exfalso
        have : k = en := by omega
        subst this
        rw [m1, mt_mid mid m2, List.drop_drop, show k + mid.length = la by omega, hs] at h
        have h := h.2.2
        rcases Nat.lt_or_ge nx L.length with hn | hn
        · rw [List.drop_eq_getElem_cons hn, mt_cons _ (hno hn).1, (hno hn).2] at h
          cases h
        · rw [List.drop_eq_nil_of_le hn, mt_nil] at h
          cases h
    · rintro ⟨k, hk1, hk2, h⟩
      exact ⟨k, by omega, hk2, h⟩

/-- Where neither goes and there is no %, it is not like the pattern. -/
theorem Gr_no {L : List El} {S : List (List UInt8)} {nx la af en : Nat} (h : Gr L S nx la af en) (ha : la < S.length) (hf : af = 0) (hno : ∀ (hn : nx < L.length), L[nx] ≠ .any ∧ tkE L[nx] S[la] = false) : mt L S = false := by
  obtain ⟨h1, h2, h3, h4, h5⟩ := h
  have hs : S.drop la = S[la] :: S.drop (la + 1) := List.drop_eq_getElem_cons ha
  rcases h5 with ⟨_, _, h5⟩ | ⟨a1, _⟩
  · rw [h5, hs]
    rcases Nat.lt_or_ge nx L.length with hn | hn
    · rw [List.drop_eq_getElem_cons hn, mt_cons _ (hno hn).1, (hno hn).2, Bool.false_and]
    · rw [List.drop_eq_nil_of_le hn]
      rfl
  · omega

def allAny (l : List El) : Bool := l.all fun e => decide (e = .any)
theorem mt_allAny (l : List El) : mt l [] = allAny l := by
  induction l with
  | nil => rfl
  | cons e t ih =>
    unfold allAny at ih ⊢
    rw [List.all_cons, ← ih]
    cases e with
    | any =>
      apply Bool.eq_iff_iff.2
      rw [mt_any, Bool.and_eq_true]
      constructor
      · rintro ⟨k, _, h⟩
        exact ⟨rfl, by simpa using h⟩
      · rintro ⟨_, h⟩
        exact ⟨0, Nat.le_refl _, h⟩
    | one => rfl
    | lit c => rfl

/-- Where the letters are at an end, what is left must be %. -/
theorem Gr_end {L : List El} {S : List (List UInt8)} {nx la af en : Nat} (h : Gr L S nx la af en) (ha : S.length ≤ la) : mt L S = allAny (L.drop nx) := by
  obtain ⟨h1, h2, h3, h4, h5⟩ := h
  have hs : S.drop la = [] := List.drop_eq_nil_of_le ha
  rcases h5 with ⟨_, _, h5⟩ | ⟨a1, mid, m1, m2, m3, m4, m5⟩
  · rw [h5, hs, mt_allAny]
  · apply Bool.eq_iff_iff.2
    rw [m5, ← mt_allAny, m1]
    constructor
    · rintro ⟨k, hk1, hk2, h⟩
      obtain ⟨n1, _, n3⟩ := (mt_mid mid m2 _ _).1 h
      rw [List.length_drop] at n1
      rw [List.drop_drop, @List.drop_eq_nil_of_le _ S _ (by omega)] at n3
      exact n3
    · intro h
      exact ⟨en, Nat.le_refl _, by omega, (mt_mid mid m2 _ _).2 ⟨by rw [List.length_drop]; omega, m4, by rw [List.drop_drop, @List.drop_eq_nil_of_le _ S _ (by omega)]; exact h⟩⟩

end Go.Proofs.YtfnmcdjfdhdlmaaGreatDoor

/-
  The program's Match.
-/
namespace Go.Proofs.YtfnmcdjfdhdlmaaGreatDoor
open Go.RowKit Go.BigFrame

/-- A slice reads as these elements. -/
def RdE (w : World) (v : Value) (qs : List El) : Prop :=
  ∃ ao cap, v = .slice ao qs.length cap ∧ qs.length ≤ cap ∧ cap ≤ maxLen ∧ ∀ j, (hj : j < qs.length) → ∃ g off, ao = some ⟨g, off, none⟩ ∧ ∀ f, f < 2 → w.cell? ⟨g, off + j * 2 + f, none⟩ = (pC qs[j])[f]?

theorem takes_any (el : El) (he : el ≠ .any) (c : List UInt8) (w : World) :
    Calls Tryz.prog 124 #[.agg (pC el).toArray, sv c] w fun e w' => e = .returned (.bool (tkE el c)) ∧ Ext w w' := by
  unfold sv
  cases el with
  | any => exact absurd rfl he
  | one =>
    clear he
    simp only [pC, tkE]
    go_enter Tryz.func124, Tryz.ntmps124
    go_wp2_with fail
    go_ret
    exact ⟨rfl, (Below.refl _ w).alloc (Nat.le_refl _) _⟩
  | lit d =>
    clear he
    simp only [pC, tkE, sv]
    by_cases hd : d = c
    · subst hd
      rw [decide_eq_true rfl]
      go_enter Tryz.func124, Tryz.ntmps124
      go_wp2_with fail
      go_ret
      exact ⟨rfl, (Below.refl _ w).alloc (Nat.le_refl _) _⟩
    · have q : (d == c) = false := beq_eq_false_iff_ne.2 hd
      rw [decide_eq_false hd]
      clear hd
      go_enter Tryz.func124, Tryz.ntmps124
      go_wp2_with fail
      go_ret
      exact ⟨rfl, (Below.refl _ w).alloc (Nat.le_refl _) _⟩

set_option maxRecDepth 100000 in
set_option maxHeartbeats 1000000 in
theorem onlyAnyMany_any (qs : List El) (v : Value) (w : World) (hv : RdE w v qs) (_hq : qs.length ≤ 5000) :
    Calls Tryz.prog 125 #[v] w fun e w' => e = .returned (.bool (allAny qs)) ∧ Ext w w' := by
  obtain ⟨ao, cap, rfl, hc1, hc2, hcells⟩ := hv
  have HC := Lib.hid hcells
  unfold maxLen at hc2
  clear hcells
  go_enter Tryz.func125, Tryz.ntmps125
  go_wp2_with fail
  go_loopw [4, 7] (fun _ i wr => ∃ j : Nat, j ≤ qs.length ∧ i = .int .i64 j ∧ allAny qs = allAny (qs.drop j) ∧ Ext w wr) (fun _ i _ => qs.length - (intOf i).toNat)
  case atStart => exact ⟨0, Nat.zero_le _, rfl, rfl, Ext.keeps.refl _⟩
  case round =>
    obtain ⟨j, hj, rfl, hall, hext⟩ := hrel
    have HALL := Lib.hid hall
    have HE := Lib.hid hext
    clear hall hext
    by_cases hlt : j < qs.length
    · obtain ⟨g, off, rfl, hf⟩ := HC.out j hlt
      have hf' : ∀ f, f < 2 → wr.cell? ⟨g, off + j * 2 + f, none⟩ = (pC qs[j])[f]? := fun f h => by
        have h0 := hf f h
        obtain ⟨u, hu⟩ : ∃ u, (pC qs[j])[f]? = some u := ⟨_, List.getElem?_eq_getElem (by rw [show (pC qs[j]).length = 2 by cases qs[j] <;> rfl]; exact h)⟩
        rw [hu] at h0 ⊢
        rw [← h0]
        exact HE.out.cell (lt_of_cell h0)
      have HDR := Lib.hid (List.drop_eq_getElem_cons hlt)
      clear hf
      generalize qs[j] = el at hf' HDR
      have hc0 := hf' 0 (by decide)
      have hc1 := hf' 1 (by decide)
      rw [Nat.add_zero] at hc0
      clear hf'
      cases el with
      | any =>
        simp only [pC, List.getElem?_cons_zero, List.getElem?_cons_succ] at hc0 hc1
        go_wp2_with fail
        go_roundw
        case rel => exact ⟨j + 1, by omega, by go_num, by rw [HALL.out, HDR.out]; rfl, HE.out.alloc HE.out.size _⟩
        case measure => simp [intOf]; omega
      | one =>
        simp only [pC, List.getElem?_cons_zero, List.getElem?_cons_succ] at hc0 hc1
        go_wp2_with fail
        go_ret
        exact ⟨by rw [HALL.out, HDR.out]; rfl, HE.out.alloc HE.out.size _⟩
      | lit c =>
        simp only [pC, List.getElem?_cons_zero, List.getElem?_cons_succ] at hc0 hc1
        unfold sv at hc1
        go_wp2_with fail
        go_ret
        exact ⟨by rw [HALL.out, HDR.out]; rfl, HE.out.alloc HE.out.size _⟩
    · have HDN := Lib.hid (show qs.drop j = [] from List.drop_eq_nil_of_le (by omega))
      have hjq : j = qs.length := by omega
      subst hjq
      go_wp2_with fail
      go_ret
      exact ⟨by rw [HALL.out, HDN.out]; rfl, HE.out⟩

/-- What is read there stays so. -/
theorem RdE.mono {w w' : World} {v : Value} {qs : List El} (h : RdE w v qs) (hb : Below w.heap.size w w') : RdE w' v qs := by
  obtain ⟨ao, cap, h1, h2, h3, h4⟩ := h
  refine ⟨ao, cap, h1, h2, h3, fun j hj => ?_⟩
  obtain ⟨g, off, h5, h6⟩ := h4 j hj
  refine ⟨g, off, h5, fun f hf => ?_⟩
  have h0 := h6 f hf
  obtain ⟨u, hu⟩ : ∃ u, (pC qs[j])[f]? = some u := ⟨_, List.getElem?_eq_getElem (by rw [show (pC qs[j]).length = 2 by cases qs[j] <;> rfl]; exact hf)⟩
  rw [hu] at h0 ⊢
  rw [← h0]
  exact hb.cell (lt_of_cell h0)

theorem RdE.of_owns {w : World} {base : Nat} {v : Value} {qs : List El} (h : w.ownsRow base 139 2 v qs.length (qs.flatMap pC)) : RdE w v qs := by
  rcases h.2 with ⟨h1, h2⟩ | ⟨g, cap, cur, h1, h3, h4, h5, h6, h7⟩
  · have : qs = [] := List.length_eq_zero_iff.1 h2
    subst this
    exact ⟨none, 0, h1, Nat.le_refl _, by simp [maxLen], fun j hj => by simp at hj⟩
  · refine ⟨_, cap, h1, h5, h6, fun j hj => ⟨g, 0, rfl, fun f hf => ?_⟩⟩
    subst h1
    rw [Nat.zero_add, h.cellAt _ (by omega), pC_at qs j f hj hf]

end Go.Proofs.YtfnmcdjfdhdlmaaGreatDoor
