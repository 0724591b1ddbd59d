/-
  Texts of this proof, merged: AskP2, LikeFixed, Greedy, LikeMatch, LikeGo.
-/
import Derived.BigQuiet
import Derived.Test.YtfnmcdjfdhdlmaaZ4
import Derived.Test.YtfnmcdjfdhdlmaaZ6
import Derived.Test.YtfnmcdjfdhdlmaaZ5
/-
  The program's contracts of conditions: which may be.
-/
namespace Go.Proofs.Ytfnmcdjfdhdlmaa
open Go.RowKit Go.BigFrame

/-- Is a text a pattern? -/
def okP (s : List UInt8) : Bool := (elsOf s).isSome
theorem errN_ok (s : List UInt8) : errN s = bif okP s then 0 else 30 := by
  unfold okP
  cases h : elsOf s with
  | none => rw [errN_none h]; rfl
  | some ps => rw [errN_some h]; rfl

set_option maxRecDepth 100000 in
set_option maxHeartbeats 1000000 in
theorem pRightValue_any (K : Int) (n : Nd) (w : World) (hT : Tabs w) (hv : n.v.fits) (hl : n.v.s.length ≤ 5000) :
    Calls Try.prog 30 #[.int .u8 K, n.val] w fun e w' => e = .returned (.bool (rightVal okP K n)) ∧ Ext w w' := by
  have HR := Lib.hid (fun W => Right_any n.v hv hl W)
  have HK := Lib.hid (fun W (h : Ext w W) => Check_any n.v.s W (hT.mono h) hl)
  obtain ⟨o, c, kd, ⟨vk, vn, vs⟩⟩ := n
  simp only at hl HR HK
  rw [errN_ok] at HK
  have HB := Lib.hid (Blk.new w [.int .u8 o, .int .i64 c, .int .i64 kd, .int .u8 vk, .int .i64 vn, .string ⟨vs.toArray⟩] 39)
  have HX := Lib.hid (ext_new w (.cells #[.int .u8 o, .int .i64 c, .int .i64 kd, .int .u8 vk, .int .i64 vn, .string ⟨vs.toArray⟩] 39))
  have HQ := Lib.hid (show rightVal okP K ⟨o, c, kd, ⟨vk, vn, vs⟩⟩ = if o = 8 then decide ((⟨vk, vn, vs⟩ : V) = V.zero) else rightV ⟨vk, vn, vs⟩ && (decide (vk = K) && (!decide (o = 7) || (decide (K = 3) && okP vs))) from rfl)
  unfold Nd.val
  unfold V.val at HR
  simp only at HR ⊢
  rw [HQ.out]
  clear hv hT
  by_cases h8 : o = 8
  · subst h8
    rw [if_pos rfl]
    have hq : ∀ W, (binOp .eql 37 (.agg #[.int .u8 vk, .int .i64 vn, .string ⟨vs.toArray⟩]) (.agg #[.int .u8 0, .int .i64 0, .string ⟨#[]⟩])).run Try.prog W = .ok (.bool (decide ((⟨vk, vn, vs⟩ : V) = V.zero))) W := fun W => eq_val ⟨vk, vn, vs⟩ V.zero W
    generalize decide ((⟨vk, vn, vs⟩ : V) = V.zero) = b at hq ⊢
    go_enter Try.func30, Try.ntmps30
    go_wp2_with fail
    go_ret
    exact ⟨rfl, HX.out⟩
  · rw [if_neg h8]
    have q8 : (o == (8 : Int)) = false := beq_eq_false_iff_ne.2 h8
    clear h8
    generalize rightV ⟨vk, vn, vs⟩ = r at HR ⊢
    go_enter Try.func30, Try.ntmps30
    go_wp2_with fail
    refine (HR.out _).mono ?_
    rintro e w1 ⟨rfl, hx⟩
    have HB1 := Lib.hid (HB.out.ext hx)
    have HX1 := Lib.hid (Ext.trans HX.out hx)
    clear hx
    have e0 : w1.cell? ⟨w.heap.size, 0, none⟩ = some (.int .u8 o) := HB1.out.cell 0 _ rfl
    have e3 : w1.cell? ⟨w.heap.size, 3, none⟩ = some (.int .u8 vk) := HB1.out.cell 3 _ rfl
    have e5 : w1.cell? ⟨w.heap.size, 5, none⟩ = some (.string ⟨vs.toArray⟩) := HB1.out.cell 5 _ rfl
    cases r with
    | false =>
      go_wp2_with fail
      go_ret
      exact ⟨rfl, HX1.out⟩
    | true =>
      by_cases hk : vk = K
      · have q : (vk != K) = false := by simp [hk]
        have HKK := Lib.hid hk
        clear hk
        by_cases h7 : o = 7
        · subst h7
          by_cases h3 : K = 3
          · subst h3
            go_wp2_with fail
            refine (HK.out _ HX1.out).mono ?_
            rintro e w2 ⟨rfl, hx⟩
            have HX2 := Lib.hid (Ext.trans HX1.out hx)
            clear hx
            cases hok : okP vs with
            | true =>
              have HOK := Lib.hid hok
              clear hok
              simp only [cond_true]
              go_wp2_with fail
              go_ret
              exact ⟨by rw [HKK.out, HOK.out]; rfl, HX2.out⟩
            | false =>
              have HOK := Lib.hid hok
              clear hok
              simp only [cond_false]
              go_wp2_with fail
              go_ret
              exact ⟨by rw [HKK.out, HOK.out]; rfl, HX2.out⟩
          · have q3 : (K == (3 : Int)) = false := beq_eq_false_iff_ne.2 h3
            have H3 := Lib.hid h3
            clear h3
            go_wp2_with fail
            go_ret
            exact ⟨by rw [HKK.out, decide_eq_false H3.out]; simp, HX1.out⟩
        · have q7 : (o != (7 : Int)) = true := bne_iff_ne.2 h7
          have H7 := Lib.hid h7
          clear h7
          go_wp2_with fail
          go_ret
          exact ⟨by rw [HKK.out, decide_eq_false H7.out]; simp, HX1.out⟩
      · have q : (vk != K) = true := bne_iff_ne.2 hk
        have HKK := Lib.hid hk
        clear hk
        go_wp2_with fail
        go_ret
        exact ⟨by rw [decide_eq_false HKK.out]; simp, HX1.out⟩

set_option maxRecDepth 100000 in
set_option maxHeartbeats 2000000 in
theorem pRightFields_any (u : Value) (K : List Int) (n : Nd) (w : World) (hu : RdV w u (K.map (Value.int .u8))) (_hK : K.length ≤ 1000000) (hT : Tabs w) (hv : n.v.fits) (hl : n.v.s.length ≤ 5000) :
    Calls Try.prog 18 #[u, n.val] w fun e w' => e = .returned (.bool (rightF okP K n)) ∧ Ext w w' := by
  have HV := Lib.hid (fun k W (h : Ext w W) => pRightValue_any k n W (hT.mono h) hv hl)
  obtain ⟨ao, ca, rfl, h1, h2, hca⟩ := RdV.cellsAt hu
  rw [List.length_map] at *
  have HC := Lib.hid hca
  obtain ⟨N, hN⟩ : ∃ N, K.length = N := ⟨_, rfl⟩
  have HN := Lib.hid hN
  rw [hN] at h1 ⊢
  unfold maxLen at h2
  obtain ⟨o, c, kd, ⟨vk, vn, vs⟩⟩ := n
  have HB := Lib.hid (Blk.new w [.int .u8 o, .int .i64 c, .int .i64 kd, .int .u8 vk, .int .i64 vn, .string ⟨vs.toArray⟩] 39)
  have HX := Lib.hid (ext_new w (.cells #[.int .u8 o, .int .i64 c, .int .i64 kd, .int .u8 vk, .int .i64 vn, .string ⟨vs.toArray⟩] 39))
  have HQ := Lib.hid (show rightF okP K ⟨o, c, kd, ⟨vk, vn, vs⟩⟩ = if o = 2 ∨ o = 3 then decide ((⟨o, c, kd, ⟨vk, vn, vs⟩⟩ : Nd) = ⟨o, 0, kd, V.zero⟩) else if o = 1 ∨ o = 4 then decide ((⟨o, c, kd, ⟨vk, vn, vs⟩⟩ : Nd) = ⟨o, 0, 0, V.zero⟩) else decide (kd = 0) && (decide (0 ≤ c ∧ c < K.length) && rightVal okP ((K[c.toNat]?).getD 0) ⟨o, c, kd, ⟨vk, vn, vs⟩⟩) from rfl)
  unfold Nd.val at HV ⊢
  simp only at HV ⊢
  rw [HQ.out]
  clear hu hca hN hv hl hT
  by_cases h23 : o = 2 ∨ o = 3
  · rw [if_pos h23]
    have hq : ∀ W, (binOp .eql 39 (.agg #[.int .u8 o, .int .i64 c, .int .i64 kd, .int .u8 vk, .int .i64 vn, .string ⟨vs.toArray⟩]) (.agg #[.int .u8 o, .int .i64 0, .int .i64 kd, .int .u8 0, .int .i64 0, .string ⟨#[]⟩])).run Try.prog W = .ok (.bool (decide ((⟨o, c, kd, ⟨vk, vn, vs⟩⟩ : Nd) = ⟨o, 0, kd, V.zero⟩))) W := fun W => eq_nd ⟨o, c, kd, ⟨vk, vn, vs⟩⟩ ⟨o, 0, kd, V.zero⟩ W
    generalize decide ((⟨o, c, kd, ⟨vk, vn, vs⟩⟩ : Nd) = ⟨o, 0, kd, V.zero⟩) = b at hq ⊢
    rcases h23 with rfl | rfl <;> (
      go_enter Try.func18, Try.ntmps18
      go_wp2_with fail
      go_ret
      exact ⟨rfl, HX.out⟩)
  · rw [if_neg h23]
    have q2 : (o == (2 : Int)) = false := beq_eq_false_iff_ne.2 (by omega)
    have q3 : (o == (3 : Int)) = false := beq_eq_false_iff_ne.2 (by omega)
    clear h23
    by_cases h14 : o = 1 ∨ o = 4
    · rw [if_pos h14]
      have hq : ∀ W, (binOp .eql 39 (.agg #[.int .u8 o, .int .i64 c, .int .i64 kd, .int .u8 vk, .int .i64 vn, .string ⟨vs.toArray⟩]) (.agg #[.int .u8 o, .int .i64 0, .int .i64 0, .int .u8 0, .int .i64 0, .string ⟨#[]⟩])).run Try.prog W = .ok (.bool (decide ((⟨o, c, kd, ⟨vk, vn, vs⟩⟩ : Nd) = ⟨o, 0, 0, V.zero⟩))) W := fun W => eq_nd ⟨o, c, kd, ⟨vk, vn, vs⟩⟩ ⟨o, 0, 0, V.zero⟩ W
      generalize decide ((⟨o, c, kd, ⟨vk, vn, vs⟩⟩ : Nd) = ⟨o, 0, 0, V.zero⟩) = b at hq ⊢
      rcases h14 with rfl | rfl <;> (
        go_enter Try.func18, Try.ntmps18
        go_wp2_with fail
        go_ret
        exact ⟨rfl, HX.out⟩)
    · rw [if_neg h14]
      have q1 : (o == (1 : Int)) = false := beq_eq_false_iff_ne.2 (by omega)
      have q4 : (o == (4 : Int)) = false := beq_eq_false_iff_ne.2 (by omega)
      clear h14
      generalize hW : w.alloc (.cells #[.int .u8 o, .int .i64 c, .int .i64 kd, .int .u8 vk, .int .i64 vn, .string ⟨vs.toArray⟩] 39) = W0 at HB HX
      have HW := Lib.hid hW
      clear hW
      by_cases hkd : kd = 0
      · subst hkd
        have HI := Lib.hid (fun W => in_any N c W)
        by_cases hin : 0 ≤ c ∧ c < (N : Int)
        · obtain ⟨j, rfl⟩ := Int.eq_ofNat_of_zero_le hin.1
          have hj : j < N := by omega
          have HQ2 := Lib.hid (show (decide ((0 : Int) = 0) && (decide (0 ≤ (j : Int) ∧ (j : Int) < K.length) && rightVal okP ((K[(j : Int).toNat]?).getD 0) ⟨o, j, 0, ⟨vk, vn, vs⟩⟩)) = rightVal okP ((K[j]?).getD 0) ⟨o, j, 0, ⟨vk, vn, vs⟩⟩ by rw [decide_eq_true rfl, decide_eq_true (by have := HN.out; omega), Int.toNat_natCast]; rfl)
          rw [HQ2.out]
          have hjK : j < K.length := by have := HN.out; omega
          obtain ⟨x, rfl, hcx⟩ := HC.out j (.int .u8 K[j]) (by rw [List.getElem?_map, List.getElem?_eq_getElem hjK]; rfl)
          have HCX := Lib.hid ((HX.out.cell (lt_of_cell hcx)).trans hcx)
          rw [List.getElem?_eq_getElem hjK, Option.getD_some]
          rw [decide_eq_true hin] at HI
          clear hcx hin
          generalize K[j] = y at HCX ⊢
          have HV2 := Lib.hid (HV.out y)
          clear HV
          generalize rightVal okP y ⟨o, j, 0, ⟨vk, vn, vs⟩⟩ = b at HV2 ⊢
          go_enter Try.func18, Try.ntmps18
          go_wp2_with fail
          rw [HW.out]
          refine wp_region_segs Ext Ext.keeps [([0, 1, 2, 3, 4, 5, 6, 7], some 8), ([9, 10, 11, 12, 13, 14, 15, 16], some 17), ([18, 19], none)] (by kernel_rfl) (by kernel_rfl) (fun c a a' w e h => (by exact ⟨e ▸ h.1, h.2⟩)) ?_
          simp only [pickSegs, pickOps, List.map_cons, List.map_nil, Option.map_some, Option.map_none, Option.getD_some, List.getElem?_toArray, List.getElem?_cons_zero, List.getElem?_cons_succ]
          have a0 := later_cell (w := W0) (b := w.heap.size) (fun j u hj => HB.out.cell j u hj) 0 (.int .u8 o) rfl
          have a1 := later_cell (w := W0) (b := w.heap.size) (fun j u hj => HB.out.cell j u hj) 1 (.int .i64 (j : Int)) rfl
          have a2 := later_cell (w := W0) (b := w.heap.size) (fun j u hj => HB.out.cell j u hj) 2 (.int .i64 0) rfl
          have a3 := later_cell (w := W0) (b := w.heap.size) (fun j u hj => HB.out.cell j u hj) 3 (.int .u8 vk) rfl
          have a4 := later_cell (w := W0) (b := w.heap.size) (fun j u hj => HB.out.cell j u hj) 4 (.int .i64 vn) rfl
          have a5 := later_cell (w := W0) (b := w.heap.size) (fun j u hj => HB.out.cell j u hj) 5 (.string ⟨vs.toArray⟩) rfl
          refine wpSegs_some fun K hK => ?_
          repeat go_big_quiet_step (fail)
          refine wpQuiet_nil ?_
          clear a0 a1 a2 a3 a4 a5
          go_wp2_with fail
          refine (HI.out _).mono ?_
          rintro e W' ⟨rfl, rfl⟩
          go_wp2_with fail
          refine ⟨Ext.keeps.refl _, hK _ _ ?_⟩
          clear hK K
          have a0 := now_cell (w := W0.drew) (b := w.heap.size) (fun j u hj => (HB.out.ext (Ext.drew _)).cell j u hj) 0 (.int .u8 o) rfl
          have a1 := now_cell (w := W0.drew) (b := w.heap.size) (fun j u hj => (HB.out.ext (Ext.drew _)).cell j u hj) 1 (.int .i64 (j : Int)) rfl
          have a2 := now_cell (w := W0.drew) (b := w.heap.size) (fun j u hj => (HB.out.ext (Ext.drew _)).cell j u hj) 2 (.int .i64 0) rfl
          have a3 := now_cell (w := W0.drew) (b := w.heap.size) (fun j u hj => (HB.out.ext (Ext.drew _)).cell j u hj) 3 (.int .u8 vk) rfl
          have a4 := now_cell (w := W0.drew) (b := w.heap.size) (fun j u hj => (HB.out.ext (Ext.drew _)).cell j u hj) 4 (.int .i64 vn) rfl
          have a5 := now_cell (w := W0.drew) (b := w.heap.size) (fun j u hj => (HB.out.ext (Ext.drew _)).cell j u hj) 5 (.string ⟨vs.toArray⟩) rfl
          have hy : ∀ z : Later Ext W0.drew, z.val.cell? (x.add j) = some (.int .u8 y) := fun z => (z.ext.cell (lt_of_cell (((Ext.drew W0).cell (lt_of_cell HCX.out)).trans HCX.out))).trans (((Ext.drew W0).cell (lt_of_cell HCX.out)).trans HCX.out)
          refine wpSegs_some fun K hK => ?_
          repeat go_big_quiet_step (fail)
          refine wpQuiet_nil ?_
          clear a0 a1 a2 a3 a4 a5
          clear hy
          go_wp2_with fail
          refine (HV2.out _ (Ext.trans HX.out (Ext.drew _))).mono ?_
          rintro e W1 ⟨rfl, hx⟩
          have HH1 := Lib.hid hx
          clear hx
          go_wp2_with fail
          refine ⟨HH1.out, hK _ _ ?_⟩
          clear hK K
          refine wpSegs_none ?_
          repeat go_big_quiet_step (fail)
          refine wpQuiet_nil (wpSegs_nil ?_)
          go_wp2_with fail
          go_ret
          exact ⟨rfl, Ext.trans HX.out (Ext.trans (Ext.drew _) HH1.out)⟩
        · have HQ2 := Lib.hid (show (decide ((0 : Int) = 0) && (decide (0 ≤ c ∧ c < K.length) && rightVal okP ((K[c.toNat]?).getD 0) ⟨o, c, 0, ⟨vk, vn, vs⟩⟩)) = false by rw [decide_eq_false (show ¬ (0 ≤ c ∧ c < (K.length : Int)) by have := HN.out; omega)]; simp)
          rw [HQ2.out]
          rw [decide_eq_false hin] at HI
          clear hin HV
          go_enter Try.func18, Try.ntmps18
          go_wp2_with fail
          rw [HW.out]
          refine wp_region_segs Ext Ext.keeps [([0, 1, 2, 3, 4, 5, 6, 7], some 8), ([9, 10, 11, 12, 13, 14, 15, 16], some 17), ([18, 19], none)] (by kernel_rfl) (by kernel_rfl) (fun c a a' w e h => (by exact ⟨e ▸ h.1, h.2⟩)) ?_
          simp only [pickSegs, pickOps, List.map_cons, List.map_nil, Option.map_some, Option.map_none, Option.getD_some, List.getElem?_toArray, List.getElem?_cons_zero, List.getElem?_cons_succ]
          have a0 := later_cell (w := W0) (b := w.heap.size) (fun j u hj => HB.out.cell j u hj) 0 (.int .u8 o) rfl
          have a1 := later_cell (w := W0) (b := w.heap.size) (fun j u hj => HB.out.cell j u hj) 1 (.int .i64 c) rfl
          have a2 := later_cell (w := W0) (b := w.heap.size) (fun j u hj => HB.out.cell j u hj) 2 (.int .i64 0) rfl
          have a3 := later_cell (w := W0) (b := w.heap.size) (fun j u hj => HB.out.cell j u hj) 3 (.int .u8 vk) rfl
          have a4 := later_cell (w := W0) (b := w.heap.size) (fun j u hj => HB.out.cell j u hj) 4 (.int .i64 vn) rfl
          have a5 := later_cell (w := W0) (b := w.heap.size) (fun j u hj => HB.out.cell j u hj) 5 (.string ⟨vs.toArray⟩) rfl
          refine wpSegs_some fun K hK => ?_
          repeat go_big_quiet_step (fail)
          refine wpQuiet_nil ?_
          clear a0 a1 a2 a3 a4 a5
          go_wp2_with fail
          refine (HI.out _).mono ?_
          rintro e W' ⟨rfl, rfl⟩
          go_wp2_with fail
          refine ⟨Ext.keeps.refl _, hK _ _ ?_⟩
          clear hK K
          refine wpSegs_some fun K hK => ?_
          repeat go_big_quiet_step (fail)
          refine wpQuiet_nil ?_
          go_wp2_with fail
          refine ⟨Ext.keeps.refl _, hK _ _ ?_⟩
          clear hK K
          refine wpSegs_none ?_
          repeat go_big_quiet_step (fail)
          refine wpQuiet_nil (wpSegs_nil ?_)
          go_wp2_with fail
          go_ret
          exact ⟨rfl, Ext.trans HX.out (Ext.drew _)⟩
      · have HQ2 := Lib.hid (show (decide (kd = 0) && (decide (0 ≤ c ∧ c < K.length) && rightVal okP ((K[c.toNat]?).getD 0) ⟨o, c, kd, ⟨vk, vn, vs⟩⟩)) = false by rw [decide_eq_false hkd]; rfl)
        have qk : (kd == (0 : Int)) = false := beq_eq_false_iff_ne.2 hkd
        rw [HQ2.out]
        clear hkd HV
        go_enter Try.func18, Try.ntmps18
        go_wp2_with fail
        rw [HW.out]
        refine wp_region_segs Ext Ext.keeps [([0, 1, 2, 3, 4, 5, 6, 7], some 8), ([9, 10, 11, 12, 13, 14, 15, 16], some 17), ([18, 19], none)] (by kernel_rfl) (by kernel_rfl) (fun c a a' w e h => (by exact ⟨e ▸ h.1, h.2⟩)) ?_
        simp only [pickSegs, pickOps, List.map_cons, List.map_nil, Option.map_some, Option.map_none, Option.getD_some, List.getElem?_toArray, List.getElem?_cons_zero, List.getElem?_cons_succ]
        have a0 := later_cell (w := W0) (b := w.heap.size) (fun j u hj => HB.out.cell j u hj) 0 (.int .u8 o) rfl
        have a1 := later_cell (w := W0) (b := w.heap.size) (fun j u hj => HB.out.cell j u hj) 1 (.int .i64 c) rfl
        have a2 := later_cell (w := W0) (b := w.heap.size) (fun j u hj => HB.out.cell j u hj) 2 (.int .i64 kd) rfl
        have a3 := later_cell (w := W0) (b := w.heap.size) (fun j u hj => HB.out.cell j u hj) 3 (.int .u8 vk) rfl
        have a4 := later_cell (w := W0) (b := w.heap.size) (fun j u hj => HB.out.cell j u hj) 4 (.int .i64 vn) rfl
        have a5 := later_cell (w := W0) (b := w.heap.size) (fun j u hj => HB.out.cell j u hj) 5 (.string ⟨vs.toArray⟩) rfl
        refine wpSegs_some fun K hK => ?_
        repeat go_big_quiet_step (fail)
        refine wpQuiet_nil ?_
        clear a0 a1 a2 a3 a4 a5
        go_wp2_with fail
        refine ⟨Ext.keeps.refl _, hK _ _ ?_⟩
        clear hK K
        refine wpSegs_some fun K hK => ?_
        repeat go_big_quiet_step (fail)
        refine wpQuiet_nil ?_
        go_wp2_with fail
        refine ⟨Ext.keeps.refl _, hK _ _ ?_⟩
        clear hK K
        refine wpSegs_none ?_
        repeat go_big_quiet_step (fail)
        refine wpQuiet_nil (wpSegs_nil ?_)
        go_wp2_with fail
        go_ret
        exact ⟨rfl, Ext.trans HX.out (Ext.drew _)⟩

theorem enters_wrong14 : ∀ args w, (callFunc 17 args).run Try.prog w = .ok (.enter 17 args) w := enters_of Try.func17 (by kernel_rfl) rfl
theorem pWrong14_any (u : Value) (K : List Int) (n : Nd) (kb : Nat) (w : World) (hkb : w.cell? ⟨kb, 0, none⟩ = some u) (hu : RdV w u (K.map (Value.int .u8))) (hK : K.length ≤ 1000000) (hT : Tabs w) (hv : n.v.fits) (hl : n.v.s.length ≤ 5000) :
    Calls Try.prog 17 #[n.val, .pointer (some ⟨kb, 0, none⟩)] w fun e w' => e = .returned (.bool (!rightF okP K n)) ∧ Ext w w' := by
  have HF := Lib.hid (fun W (h : Ext w W) => pRightFields_any u K n W (hu.mono h) hK (hT.mono h) hv hl)
  obtain ⟨ao, ca, rfl, h1, h2, hca⟩ := RdV.cellsAt hu
  rw [List.length_map] at *
  generalize K.length = N at *
  obtain ⟨o, c, kd, ⟨vk, vn, vs⟩⟩ := n
  have HX := Lib.hid (ext_new w (.cells #[.int .u8 o, .int .i64 c, .int .i64 kd, .int .u8 vk, .int .i64 vn, .string ⟨vs.toArray⟩] 39))
  have x0 := (HX.out.cell (lt_of_cell hkb)).trans hkb
  generalize rightF okP K ⟨o, c, kd, ⟨vk, vn, vs⟩⟩ = b at HF ⊢
  unfold Nd.val at HF ⊢
  simp only at HF ⊢
  clear hu hca hv hl hT hkb
  go_enter Try.func17, Try.ntmps17
  go_wp2_with fail
  refine (HF.out _ HX.out).mono ?_
  rintro e w1 ⟨rfl, hx⟩
  have HX1 := Lib.hid (Ext.trans HX.out hx)
  clear hx
  go_wp2_with fail
  go_ret
  exact ⟨rfl, HX1.out⟩

set_option maxRecDepth 100000 in
theorem indexFuncN_any (G : Nat) (p : Value) (B : Nd → Bool) (u : Value) (ws : List Nd) (w : World) (hu : RdNds w u ws) (he : ∀ args w, (callFunc G args).run Try.prog w = .ok (.enter G args) w)
    (hf : ∀ v ∈ ws, ∀ W, Ext w W → Calls Try.prog G #[v.val, p] W fun e w' => e = .returned (.bool (B v)) ∧ Ext W w') :
    Calls Try.prog 32 #[u, .func (.func G) #[] #[p]] w fun e w' => (∃ k : Int, e = .returned (.int .i64 k) ∧ -1 ≤ k ∧ k ≤ 9223372036854775807 ∧ decide (0 ≤ k) = ws.any B) ∧ Ext w w' := by
  obtain ⟨ao, cap, rfl, -, -⟩ := hu.shape
  obtain ⟨-, h1, h2, hc⟩ := hu.plain
  have HC := Lib.hid hc
  have HF := Lib.hid hf
  unfold maxLen at h2
  obtain ⟨N, hN⟩ : ∃ N, ws.length = N := ⟨_, rfl⟩
  have HN := Lib.hid hN
  rw [hN] at h1 ⊢
  clear hu hc hf hN
  go_enter Try.func32, Try.ntmps32
  go_wp2_with fail
  go_loopw [5, 8] (fun _ i wr => ∃ j : Nat, j ≤ N ∧ i = .int .i64 j ∧ (ws.take j).any B = false ∧ Ext w wr) (fun _ i _ => N - (intOf i).toNat)
  case atStart => exact ⟨0, Nat.zero_le _, rfl, rfl, Ext.keeps.refl _⟩
  case round =>
    obtain ⟨j, hj, rfl, hb, hx⟩ := hrel
    have HB := Lib.hid hb
    have HX := Lib.hid hx
    clear hb hx
    by_cases hlt : j < N
    · have hjl : j < ws.length := by have := HN.out; omega
      obtain ⟨g, off, rfl, c0, c1, c2, c3, c4, c5⟩ := HC.out j hjl
      have x0 := (HX.out.cell (lt_of_cell c0)).trans c0
      have x1 := (HX.out.cell (lt_of_cell c1)).trans c1
      have x2 := (HX.out.cell (lt_of_cell c2)).trans c2
      have x3 := (HX.out.cell (lt_of_cell c3)).trans c3
      have x4 := (HX.out.cell (lt_of_cell c4)).trans c4
      have x5 := (HX.out.cell (lt_of_cell c5)).trans c5
      have HS := Lib.hid (List.take_succ_eq_append_getElem hjl)
      have HM := Lib.hid (List.getElem_mem hjl)
      have HFC := Lib.hid (HF.out _ HM.out wr HX.out)
      generalize ws[j] = v at x0 x1 x2 x3 x4 x5 HS HFC HM
      have HEN := he
      obtain ⟨o, c, kd, ⟨vk, vn, vs⟩⟩ := v
      unfold Nd.val at HFC
      simp only at x0 x1 x2 x3 x4 x5 HFC
      clear c0 c1 c2 c3 c4 c5
      cases hb : B ⟨o, c, kd, ⟨vk, vn, vs⟩⟩ with
      | true =>
        rw [hb] at HFC
        have HB1 := Lib.hid hb
        clear hb
        go_wp2_with fail
        refine HFC.out.mono ?_
        rintro e w2 ⟨rfl, hx⟩
        have HX2 := Lib.hid (Ext.trans HX.out hx)
        clear hx
        go_wp2_with fail
        go_ret
        exact ⟨⟨_, rfl, by omega, by omega, by rw [List.any_eq_true.2 ⟨_, HM.out, HB1.out⟩]; exact decide_eq_true (by omega)⟩, HX2.out⟩
      | false =>
        rw [hb] at HFC
        have HB1 := Lib.hid hb
        clear hb
        go_wp2_with fail
        refine HFC.out.mono ?_
        rintro e w2 ⟨rfl, hx⟩
        have HX2 := Lib.hid (Ext.trans HX.out hx)
        clear hx
        go_wp2_with fail
        go_roundw
        case rel => exact ⟨j + 1, by omega, by go_num, by rw [HS.out, List.any_append, HB.out]; simp [HB1.out], HX2.out⟩
        case measure => simp [intOf]; omega
    · have HNO := Lib.hid (show ws.any B = false by have h := HB.out; rwa [List.take_of_length_le (by have := HN.out; omega)] at h)
      go_wp2_with fail
      go_ret
      exact ⟨⟨-1, rfl, by omega, by omega, by rw [HNO.out]; decide⟩, HX.out⟩

set_option maxRecDepth 100000 in
theorem containsFuncN_any (G : Nat) (p : Value) (B : Nd → Bool) (u : Value) (ws : List Nd) (w : World) (hu : RdNds w u ws) (he : ∀ args w, (callFunc G args).run Try.prog w = .ok (.enter G args) w)
    (hf : ∀ v ∈ ws, ∀ W, Ext w W → Calls Try.prog G #[v.val, p] W fun e w' => e = .returned (.bool (B v)) ∧ Ext W w') :
    Calls Try.prog 20 #[u, .func (.func G) #[] #[p]] w fun e w' => e = .returned (.bool (ws.any B)) ∧ Ext w w' := by
  have HI := Lib.hid (indexFuncN_any G p B u ws w hu he hf)
  clear hf
  go_enter Try.func20, Try.ntmps20
  go_wp2_with fail
  refine HI.out.mono ?_
  rintro e w2 ⟨⟨k, rfl, hk1, hk2, hk⟩, hx⟩
  go_wp2_with fail
  go_ret
  exact ⟨by rw [← hk]; rfl, hx⟩

set_option maxRecDepth 100000 in
set_option maxHeartbeats 1000000 in
theorem pRight14_any (u v : Value) (K : List Int) (l : List Nd) (w : World) (hu : RdV w u (K.map (Value.int .u8))) (hK : K.length ≤ 1000000) (hv : RdNds w v l) (hf : FitN 5000 l) (hT : Tabs w) :
    Calls Try.prog 9 #[u, v] w fun e w' => e = .returned (.int .i64 (errA okP K l)) ∧ Ext w w' := by
  rw [errA_is]
  have HW := Lib.hid (fun W (h : Ext w W) => pWhole_any v l W (hv.mono h))
  have HCF := Lib.hid (fun (kb : Nat) W (h : Ext w W) (hkb : W.cell? ⟨kb, 0, none⟩ = some u) => containsFuncN_any 17 (.pointer (some ⟨kb, 0, none⟩)) (fun n => !rightF okP K n) v l W (hv.mono h) enters_wrong14 fun n hn W' h' =>
    pWrong14_any u K n kb W' ((h'.cell (lt_of_cell hkb)).trans hkb) (hu.mono (Ext.trans h h')) hK (hT.mono (Ext.trans h h')) (hf n hn).1.v (hf n hn).2)
  have HA := Lib.hid (show l.all (rightF okP K) = !l.any (fun n => !rightF okP K n) by rw [List.all_eq_not_any_not])
  rw [HA.out]
  obtain ⟨ao, ca, rfl, h1, h2, -⟩ := RdV.cellsAt hu
  obtain ⟨bo, cb, rfl, h3, h4, -⟩ := hv
  rw [List.length_map] at *
  generalize K.length = N at *
  generalize l.length = M at *
  generalize l.any (fun n => !rightF okP K n) = b at HCF ⊢
  generalize wholeS l = c at HW ⊢
  have HX := Lib.hid (ext_new w (.cells #[.slice ao N ca] 22))
  have HB := Lib.hid (Blk.new w [.slice ao N ca] 22)
  have hmf : ∀ (fn : Fn) (first cap : Array Value) (w : World), (Instr.makeFunc fn first cap).run Try.prog w = .ok (.func fn first cap) w := fun _ _ _ _ => rfl
  clear hu hf hT
  go_enter Try.func9, Try.ntmps9
  go_wp2_with fail
  refine (HW.out _ HX.out).mono ?_
  rintro e w1 ⟨rfl, hx⟩
  have HX1 := Lib.hid (Ext.trans HX.out hx)
  have HB1 := Lib.hid (HB.out.ext hx)
  clear hx
  cases c with
  | false =>
    go_wp2_with fail
    go_ret
    exact ⟨rfl, HX1.out⟩
  | true =>
    go_wp2_with fail
    refine (HCF.out w.heap.size _ HX1.out (HB1.out.cell 0 _ rfl)).mono ?_
    rintro e w2 ⟨rfl, hx⟩
    have HX2 := Lib.hid (Ext.trans HX1.out hx)
    clear hx
    cases b with
    | false =>
      go_wp2_with fail
      go_ret
      exact ⟨rfl, HX2.out⟩
    | true =>
      go_wp2_with fail
      go_ret
      exact ⟨rfl, HX2.out⟩

end Go.Proofs.Ytfnmcdjfdhdlmaa

/-
  The program's Fixed.
-/
namespace Go.Proofs.Ytfnmcdjfdhdlmaa
open Go.RowKit

end Go.Proofs.Ytfnmcdjfdhdlmaa

/-
  To go through a pattern's elements and a text's letters, giving the last % one letter more each time that what is behind it fails: that it tells what is like the pattern. No program.
-/
namespace Go.Proofs.Ytfnmcdjfdhdlmaa

/-- An element of one letter takes this one. -/
def tkE : El → List UInt8 → Bool
  | .any, _ => false
  | .one, _ => true
  | .lit d, c => decide (d = c)

def noAny (l : List El) : Prop := ∀ e ∈ l, e ≠ .any

theorem mt_single (e : El) (he : e ≠ .any) (t : List El) (s : List (List UInt8)) : mt (e :: t) s = true ↔ ∃ c r, s = c :: r ∧ tkE e c = true ∧ mt t r = true := by
  cases e with
  | any => exact absurd rfl he
  | one =>
    rw [mt_one]
    exact ⟨fun ⟨c, r, h1, h2⟩ => ⟨c, r, h1, rfl, h2⟩, fun ⟨c, r, h1, _, h2⟩ => ⟨c, r, h1, h2⟩⟩
  | lit d =>
    rw [mt_lit]
    constructor
    · rintro ⟨r, rfl, h⟩
      exact ⟨d, r, rfl, by simp [tkE], h⟩
    · rintro ⟨c, r, rfl, h1, h2⟩
      have : d = c := by simpa [tkE] using h1
      exact ⟨r, by rw [this], h2⟩

theorem mt_cons (e : El) (he : e ≠ .any) (t : List El) (c : List UInt8) (r : List (List UInt8)) : mt (e :: t) (c :: r) = (tkE e c && mt t r) := by
  apply Bool.eq_iff_iff.2
  rw [mt_single e he, Bool.and_eq_true]
  constructor
  · rintro ⟨c', r', h, h1, h2⟩
    cases h
    exact ⟨h1, h2⟩
  · rintro ⟨h1, h2⟩
    exact ⟨c, r, rfl, h1, h2⟩

/-- What elements of one letter each are like. -/
theorem mt_mid (mid : List El) (hm : noAny mid) (rest : List El) : ∀ s, mt (mid ++ rest) s = true ↔ mid.length ≤ s.length ∧ mt mid (s.take mid.length) = true ∧ mt rest (s.drop mid.length) = true := by
  induction mid with
  | nil =>
    intro s
    simp only [List.nil_append, List.length_nil, Nat.zero_le, List.take_zero, List.drop_zero, true_and]
    exact ⟨fun h => ⟨rfl, h⟩, fun h => h.2⟩
  | cons e t ih =>
    have he : e ≠ .any := hm e (by simp)
    have ht : noAny t := fun x hx => hm x (List.mem_cons_of_mem _ hx)
    intro s
    cases s with
    | nil =>
      rw [List.cons_append, mt_single e he]
      constructor
      · rintro ⟨c, r, h, _⟩; cases h
      · rintro ⟨h, _⟩; simp at h
    | cons c r =>
      rw [List.cons_append, mt_cons e he, Bool.and_eq_true, ih ht]
      simp only [List.length_cons, List.take_succ_cons, List.drop_succ_cons, Nat.add_le_add_iff_right]
      rw [mt_cons e he, Bool.and_eq_true]
      exact ⟨fun ⟨a, b, c, d⟩ => ⟨b, ⟨a, c⟩, d⟩, fun ⟨b, ⟨a, c⟩, d⟩ => ⟨a, b, c, d⟩⟩

/-- How far one has come: the element nx, the letter la, the element behind the last %, and where its letters end. -/
def Gr (L : List El) (S : List (List UInt8)) (nx la af en : Nat) : Prop :=
  nx ≤ L.length ∧ la ≤ S.length ∧ en ≤ la ∧ af ≤ nx ∧
  ((af = 0 ∧ en = 0 ∧ mt L S = mt (L.drop nx) (S.drop la)) ∨
   (0 < af ∧ ∃ mid, L.drop af = mid ++ L.drop nx ∧ noAny mid ∧ en + mid.length = la ∧ mt mid ((S.drop en).take mid.length) = true ∧
      (mt L S = true ↔ ∃ k, en ≤ k ∧ k ≤ S.length ∧ mt (L.drop af) (S.drop k) = true)))

theorem Gr_start (L : List El) (S : List (List UInt8)) : Gr L S 0 0 0 0 := ⟨Nat.zero_le _, Nat.zero_le _, Nat.le_refl _, Nat.le_refl _, .inl ⟨rfl, rfl, rfl⟩⟩

theorem Gr_any {L : List El} {S : List (List UInt8)} {nx la af en : Nat} (h : Gr L S nx la af en) (hn : nx < L.length) (he : L[nx] = .any) : Gr L S (nx + 1) la (nx + 1) la := by
  obtain ⟨h1, h2, h3, h4, h5⟩ := h
  have hd : L.drop nx = .any :: L.drop (nx + 1) := by rw [List.drop_eq_getElem_cons hn, he]
  refine ⟨hn, h2, Nat.le_refl _, Nat.le_refl _, .inr ⟨by omega, [], rfl, (fun x hx => by cases hx), by simp, rfl, ?_⟩⟩
  rcases h5 with ⟨_, _, h5⟩ | ⟨_, mid, m1, m2, m3, m4, m5⟩
  · rw [h5, hd, mt_any]
    constructor
    · rintro ⟨k, hk, h⟩
      rw [List.length_drop] at hk
      exact ⟨la + k, by omega, by omega, by rw [List.drop_drop] at h; exact h⟩
    · rintro ⟨k, hk1, hk2, h⟩
      obtain ⟨j, rfl⟩ : ∃ j, k = la + j := ⟨k - la, by omega⟩
      exact ⟨j, by rw [List.length_drop]; omega, by rw [List.drop_drop]; exact h⟩
  · rw [m5, m1, hd]
    constructor
    · rintro ⟨k, hk1, hk2, h⟩
      obtain ⟨n1, _, n3⟩ := (mt_mid mid m2 _ _).1 h
      rw [List.length_drop] at n1
      obtain ⟨j, hj, h⟩ := (mt_any _ _).1 n3
      rw [List.length_drop, List.length_drop] at hj
      refine ⟨k + mid.length + j, by omega, by omega, ?_⟩
      rw [List.drop_drop, List.drop_drop, ← Nat.add_assoc] at h
      exact h
    · rintro ⟨k, hk1, hk2, h⟩
      obtain ⟨j, rfl⟩ : ∃ j, k = la + j := ⟨k - la, by omega⟩
      refine ⟨en, Nat.le_refl _, by omega, (mt_mid mid m2 _ _).2 ⟨by rw [List.length_drop]; omega, m4, (mt_any _ _).2 ⟨j, by rw [List.length_drop, List.length_drop]; omega, ?_⟩⟩⟩
      rw [List.drop_drop, List.drop_drop, ← Nat.add_assoc, m3]
      exact h

theorem Gr_take {L : List El} {S : List (List UInt8)} {nx la af en : Nat} (h : Gr L S nx la af en) (hn : nx < L.length) (ha : la < S.length) (he : L[nx] ≠ .any) (ht : tkE L[nx] S[la] = true) : Gr L S (nx + 1) (la + 1) af en := by
  obtain ⟨h1, h2, h3, h4, h5⟩ := h
  have hd : L.drop nx = L[nx] :: L.drop (nx + 1) := List.drop_eq_getElem_cons hn
  have hs : S.drop la = S[la] :: S.drop (la + 1) := List.drop_eq_getElem_cons ha
  generalize L[nx] = x at he ht hd
  generalize S[la] = c at ht hs
  refine ⟨hn, ha, by omega, by omega, ?_⟩
  rcases h5 with ⟨a1, a2, h5⟩ | ⟨a1, mid, m1, m2, m3, m4, m5⟩
  · refine .inl ⟨a1, a2, ?_⟩
    rw [h5, hd, hs, mt_cons _ he, ht, Bool.true_and]
  · refine .inr ⟨a1, mid ++ [x], by rw [m1, hd, List.append_assoc]; rfl, ?_, by rw [List.length_append, List.length_singleton]; omega, ?_, m5⟩
    · intro y hy
      rcases List.mem_append.1 hy with hy | hy
      · exact m2 y hy
      · rw [List.mem_singleton.1 hy]; exact he
    · have hl : (mid ++ [x]).length = mid.length + 1 := by simp
      rw [hl, mt_mid mid m2]
      refine ⟨by rw [List.length_take, List.length_drop]; omega, ?_, ?_⟩
      · rw [List.take_take, Nat.min_eq_left (by omega)]; exact m4
      · rw [List.drop_take, List.drop_drop, m3, show mid.length + 1 - mid.length = 1 by omega, hs, List.take_succ_cons, List.take_zero, mt_cons _ he, ht]
        rfl

/-- Where neither goes, the last % takes one letter more. -/
theorem Gr_back {L : List El} {S : List (List UInt8)} {nx la af en : Nat} (h : Gr L S nx la af en) (ha : la < S.length) (hf : 0 < af) (hno : ∀ (hn : nx < L.length), L[nx] ≠ .any ∧ tkE L[nx] S[la] = false) : Gr L S af (en + 1) af (en + 1) := by
  obtain ⟨h1, h2, h3, h4, h5⟩ := h
  have hs : S.drop la = S[la] :: S.drop (la + 1) := List.drop_eq_getElem_cons ha
  refine ⟨by omega, by omega, Nat.le_refl _, Nat.le_refl _, .inr ⟨hf, [], rfl, (fun x hx => by cases hx), by simp, rfl, ?_⟩⟩
  rcases h5 with ⟨a1, _⟩ | ⟨a1, mid, m1, m2, m3, m4, m5⟩
  · omega
  · rw [m5]
    constructor
    · rintro ⟨k, hk1, hk2, h⟩
      rcases Nat.lt_or_ge en k with hk | hk
      · exact ⟨k, hk, hk2, h⟩
      · exfalso
        have : k = en := by omega
        subst this
        rw [m1, mt_mid mid m2, List.drop_drop, show k + mid.length = la by omega, hs] at h
        have h := h.2.2
        rcases Nat.lt_or_ge nx L.length with hn | hn
        · rw [List.drop_eq_getElem_cons hn, mt_cons _ (hno hn).1, (hno hn).2] at h
          cases h
        · rw [List.drop_eq_nil_of_le hn, mt_nil] at h
          cases h
    · rintro ⟨k, hk1, hk2, h⟩
      exact ⟨k, by omega, hk2, h⟩

/-- Where neither goes and there is no %, it is not like the pattern. -/
theorem Gr_no {L : List El} {S : List (List UInt8)} {nx la af en : Nat} (h : Gr L S nx la af en) (ha : la < S.length) (hf : af = 0) (hno : ∀ (hn : nx < L.length), L[nx] ≠ .any ∧ tkE L[nx] S[la] = false) : mt L S = false := by
  obtain ⟨h1, h2, h3, h4, h5⟩ := h
  have hs : S.drop la = S[la] :: S.drop (la + 1) := List.drop_eq_getElem_cons ha
  rcases h5 with ⟨_, _, h5⟩ | ⟨a1, _⟩
  · rw [h5, hs]
    rcases Nat.lt_or_ge nx L.length with hn | hn
    · rw [List.drop_eq_getElem_cons hn, mt_cons _ (hno hn).1, (hno hn).2, Bool.false_and]
    · rw [List.drop_eq_nil_of_le hn]
      rfl
  · omega

def allAny (l : List El) : Bool := l.all fun e => decide (e = .any)
theorem mt_allAny (l : List El) : mt l [] = allAny l := by
  induction l with
  | nil => rfl
  | cons e t ih =>
    unfold allAny at ih ⊢
    rw [List.all_cons, ← ih]
    cases e with
    | any =>
      apply Bool.eq_iff_iff.2
      rw [mt_any, Bool.and_eq_true]
      constructor
      · rintro ⟨k, _, h⟩
        exact ⟨rfl, by simpa using h⟩
      · rintro ⟨_, h⟩
        exact ⟨0, Nat.le_refl _, h⟩
    | one => rfl
    | lit c => rfl

/-- Where the letters are at an end, what is left must be %. -/
theorem Gr_end {L : List El} {S : List (List UInt8)} {nx la af en : Nat} (h : Gr L S nx la af en) (ha : S.length ≤ la) : mt L S = allAny (L.drop nx) := by
  obtain ⟨h1, h2, h3, h4, h5⟩ := h
  have hs : S.drop la = [] := List.drop_eq_nil_of_le ha
  rcases h5 with ⟨_, _, h5⟩ | ⟨a1, mid, m1, m2, m3, m4, m5⟩
  · rw [h5, hs, mt_allAny]
  · apply Bool.eq_iff_iff.2
    rw [m5, ← mt_allAny, m1]
    constructor
    · rintro ⟨k, hk1, hk2, h⟩
      obtain ⟨n1, _, n3⟩ := (mt_mid mid m2 _ _).1 h
      rw [List.length_drop] at n1
      rw [List.drop_drop, @List.drop_eq_nil_of_le _ S _ (by omega)] at n3
      exact n3
    · intro h
      exact ⟨en, Nat.le_refl _, by omega, (mt_mid mid m2 _ _).2 ⟨by rw [List.length_drop]; omega, m4, by rw [List.drop_drop, @List.drop_eq_nil_of_le _ S _ (by omega)]; exact h⟩⟩

end Go.Proofs.Ytfnmcdjfdhdlmaa

/-
  The program's Match.
-/
namespace Go.Proofs.Ytfnmcdjfdhdlmaa
open Go.RowKit Go.BigFrame

/-- A slice reads as these elements. -/
def RdE (w : World) (v : Value) (qs : List El) : Prop :=
  ∃ ao cap, v = .slice ao qs.length cap ∧ qs.length ≤ cap ∧ cap ≤ maxLen ∧ ∀ j, (hj : j < qs.length) → ∃ g off, ao = some ⟨g, off, none⟩ ∧ ∀ f, f < 2 → w.cell? ⟨g, off + j * 2 + f, none⟩ = (pC qs[j])[f]?

theorem takes_any (el : El) (he : el ≠ .any) (c : List UInt8) (w : World) :
    Calls Try.prog 62 #[.agg (pC el).toArray, sv c] w fun e w' => e = .returned (.bool (tkE el c)) ∧ Ext w w' := by
  unfold sv
  cases el with
  | any => exact absurd rfl he
  | one =>
    clear he
    simp only [pC, tkE]
    go_enter Try.func62, Try.ntmps62
    go_wp2_with fail
    go_ret
    exact ⟨rfl, (Below.refl _ w).alloc (Nat.le_refl _) _⟩
  | lit d =>
    clear he
    simp only [pC, tkE, sv]
    by_cases hd : d = c
    · subst hd
      rw [decide_eq_true rfl]
      go_enter Try.func62, Try.ntmps62
      go_wp2_with fail
      go_ret
      exact ⟨rfl, (Below.refl _ w).alloc (Nat.le_refl _) _⟩
    · have q : (d == c) = false := beq_eq_false_iff_ne.2 hd
      rw [decide_eq_false hd]
      clear hd
      go_enter Try.func62, Try.ntmps62
      go_wp2_with fail
      go_ret
      exact ⟨rfl, (Below.refl _ w).alloc (Nat.le_refl _) _⟩

set_option maxRecDepth 100000 in
set_option maxHeartbeats 1000000 in
theorem onlyAnyMany_any (qs : List El) (v : Value) (w : World) (hv : RdE w v qs) (_hq : qs.length ≤ 5000) :
    Calls Try.prog 63 #[v] w fun e w' => e = .returned (.bool (allAny qs)) ∧ Ext w w' := by
  obtain ⟨ao, cap, rfl, hc1, hc2, hcells⟩ := hv
  have HC := Lib.hid hcells
  unfold maxLen at hc2
  clear hcells
  go_enter Try.func63, Try.ntmps63
  go_wp2_with fail
  go_loopw [4, 7] (fun _ i wr => ∃ j : Nat, j ≤ qs.length ∧ i = .int .i64 j ∧ allAny qs = allAny (qs.drop j) ∧ Ext w wr) (fun _ i _ => qs.length - (intOf i).toNat)
  case atStart => exact ⟨0, Nat.zero_le _, rfl, rfl, Ext.keeps.refl _⟩
  case round =>
    obtain ⟨j, hj, rfl, hall, hext⟩ := hrel
    have HALL := Lib.hid hall
    have HE := Lib.hid hext
    clear hall hext
    by_cases hlt : j < qs.length
    · obtain ⟨g, off, rfl, hf⟩ := HC.out j hlt
      have hf' : ∀ f, f < 2 → wr.cell? ⟨g, off + j * 2 + f, none⟩ = (pC qs[j])[f]? := fun f h => by
        have h0 := hf f h
        obtain ⟨u, hu⟩ : ∃ u, (pC qs[j])[f]? = some u := ⟨_, List.getElem?_eq_getElem (by rw [show (pC qs[j]).length = 2 by cases qs[j] <;> rfl]; exact h)⟩
        rw [hu] at h0 ⊢
        rw [← h0]
        exact HE.out.cell (lt_of_cell h0)
      have HDR := Lib.hid (List.drop_eq_getElem_cons hlt)
      clear hf
      generalize qs[j] = el at hf' HDR
      have hc0 := hf' 0 (by decide)
      have hc1 := hf' 1 (by decide)
      rw [Nat.add_zero] at hc0
      clear hf'
      cases el with
      | any =>
        simp only [pC, List.getElem?_cons_zero, List.getElem?_cons_succ] at hc0 hc1
        go_wp2_with fail
        go_roundw
        case rel => exact ⟨j + 1, by omega, by go_num, by rw [HALL.out, HDR.out]; rfl, HE.out.alloc HE.out.size _⟩
        case measure => simp [intOf]; omega
      | one =>
        simp only [pC, List.getElem?_cons_zero, List.getElem?_cons_succ] at hc0 hc1
        go_wp2_with fail
        go_ret
        exact ⟨by rw [HALL.out, HDR.out]; rfl, HE.out.alloc HE.out.size _⟩
      | lit c =>
        simp only [pC, List.getElem?_cons_zero, List.getElem?_cons_succ] at hc0 hc1
        unfold sv at hc1
        go_wp2_with fail
        go_ret
        exact ⟨by rw [HALL.out, HDR.out]; rfl, HE.out.alloc HE.out.size _⟩
    · have HDN := Lib.hid (show qs.drop j = [] from List.drop_eq_nil_of_le (by omega))
      have hjq : j = qs.length := by omega
      subst hjq
      go_wp2_with fail
      go_ret
      exact ⟨by rw [HALL.out, HDN.out]; rfl, HE.out⟩

/-- What is read there stays so. -/
theorem RdE.mono {w w' : World} {v : Value} {qs : List El} (h : RdE w v qs) (hb : Below w.heap.size w w') : RdE w' v qs := by
  obtain ⟨ao, cap, h1, h2, h3, h4⟩ := h
  refine ⟨ao, cap, h1, h2, h3, fun j hj => ?_⟩
  obtain ⟨g, off, h5, h6⟩ := h4 j hj
  refine ⟨g, off, h5, fun f hf => ?_⟩
  have h0 := h6 f hf
  obtain ⟨u, hu⟩ : ∃ u, (pC qs[j])[f]? = some u := ⟨_, List.getElem?_eq_getElem (by rw [show (pC qs[j]).length = 2 by cases qs[j] <;> rfl]; exact hf)⟩
  rw [hu] at h0 ⊢
  rw [← h0]
  exact hb.cell (lt_of_cell h0)

theorem RdE.of_owns {w : World} {base : Nat} {v : Value} {qs : List El} (h : w.ownsRow base 87 2 v qs.length (qs.flatMap pC)) : RdE w v qs := by
  rcases h.2 with ⟨h1, h2⟩ | ⟨g, cap, cur, h1, h3, h4, h5, h6, h7⟩
  · have : qs = [] := List.length_eq_zero_iff.1 h2
    subst this
    exact ⟨none, 0, h1, Nat.le_refl _, by simp [maxLen], fun j hj => by simp at hj⟩
  · refine ⟨_, cap, h1, h5, h6, fun j hj => ⟨g, 0, rfl, fun f hf => ?_⟩⟩
    subst h1
    rw [Nat.zero_add, h.cellAt _ (by omega), pC_at qs j f hj hf]

end Go.Proofs.Ytfnmcdjfdhdlmaa

/-
  The program's Match: the walk through elements and letters.
-/
namespace Go.Proofs.Ytfnmcdjfdhdlmaa
open Go.RowKit Go.BigFrame

theorem ms_any {N M nx la en : Nat} (h1 : en ≤ la) (h2 : nx < M) : (N + 1 - la) * (M + 1) + (M - (nx + 1)) < (N + 1 - en) * (M + 1) + (M - nx) := by
  have := Nat.mul_le_mul_right (M + 1) (show N + 1 - la ≤ N + 1 - en by omega)
  omega
theorem ms_back {N M nx af en : Nat} (h1 : en ≤ N) : (N + 1 - (en + 1)) * (M + 1) + (M - af) < (N + 1 - en) * (M + 1) + (M - nx) := by
  rw [show N + 1 - en = (N + 1 - (en + 1)) + 1 by omega, Nat.succ_mul]
  omega
theorem pC_two (el : El) (h : el ≠ .any) : ∃ (k : Int) (s : ByteArray), pC el = [.int .u8 k, .string s] ∧ (k == 2) = false := by
  cases el with
  | any => exact absurd rfl h
  | one => exact ⟨1, _, rfl, rfl⟩
  | lit c => exact ⟨0, _, rfl, rfl⟩

theorem RdE_drop {w : World} {ao : Option Addr} {ps : List El} {M cap nx : Nat} (hM : ps.length = M)
    (hC : ∀ j, (hj : j < ps.length) → ∃ g off, ao = some ⟨g, off, none⟩ ∧ ∀ f, f < 2 → w.cell? ⟨g, off + j * 2 + f, none⟩ = (pC ps[j])[f]?) (hn : nx ≤ M) (h1 : M ≤ cap) (h2 : cap ≤ maxLen) :
    RdE w (.slice (Option.map (fun x => x.add (nx * 2)) ao) (M - nx) (cap - nx)) (ps.drop nx) := by
  refine ⟨_, cap - nx, by rw [List.length_drop, hM], by rw [List.length_drop, hM]; omega, by omega, fun j hj => ?_⟩
  rw [List.length_drop, hM] at hj
  obtain ⟨g, off, rfl, h⟩ := hC (nx + j) (by omega)
  refine ⟨g, off + nx * 2, by simp [add_at], fun f hf => ?_⟩
  rw [List.getElem_drop, ← h f hf]
  congr 2
  omega
theorem RdE_none {w : World} {ao : Option Addr} {ps : List El} {M nx : Nat} (hM : ps.length = M) (hn : M ≤ nx) : RdE w (.slice ao (M - nx) 0) (ps.drop nx) := by
  refine ⟨ao, 0, by rw [List.length_drop, hM], by rw [List.length_drop, hM]; omega, by simp [maxLen], fun j hj => ?_⟩
  rw [List.length_drop, hM] at hj
  omega

set_option maxRecDepth 100000 in
set_option maxHeartbeats 2000000 in
theorem matches_any (ps : List El) (ls : List (List UInt8)) (v u : Value) (w : World) (hv : RdE w v ps) (hu : RdV w u (ls.map sv)) (hp : ps.length ≤ 5000) (hl : ls.length ≤ 5000) :
    Calls Try.prog 56 #[v, u] w fun e w' => e = .returned (.bool (mt ps ls)) ∧ Ext w w' := by
  obtain ⟨ao, cap, rfl, hc1, hc2, hcells⟩ := hv
  have HC := Lib.hid hcells
  obtain ⟨lo, lcap, rfl, hd1, hd2, hlcells⟩ := RdV.cellsAt hu
  have HD := Lib.hid hlcells
  unfold maxLen at hc2 hd2
  simp only [List.length_map] at *
  obtain ⟨M, hM⟩ : ∃ M, ps.length = M := ⟨_, rfl⟩
  have HM := Lib.hid hM
  rw [hM] at hp hc1 ⊢
  clear hcells hlcells hu hM
  generalize hN : ls.length = N at *
  have HN := Lib.hid hN
  clear hN
  go_enter Try.func56, Try.ntmps56
  go_wp2_with fail
  go_loopw [5, 6, 7, 8] (fun n a f e wr => ∃ nx la af en : Nat, n = .int .i64 nx ∧ a = .int .i64 la ∧ f = .int .i64 af ∧ e = .int .i64 en ∧ Gr ps ls nx la af en ∧ Ext w wr) (fun n _ _ e _ => (N + 1 - (intOf e).toNat) * (M + 1) + (M - (intOf n).toNat))
  case atStart => exact ⟨0, 0, 0, 0, rfl, rfl, rfl, rfl, Gr_start _ _, Ext.keeps.refl _⟩
  case round =>
    obtain ⟨nx, la, af, en, rfl, rfl, rfl, rfl, hgr, hext⟩ := hrel
    have HGR := Lib.hid hgr
    have HE := Lib.hid hext
    have hnx : nx ≤ M := by have := hgr.1; have := HM.out; omega
    have hla : la ≤ N := by have := hgr.2.1; have := HN.out; omega
    have hen : en ≤ la := hgr.2.2.1
    have haf : af ≤ nx := hgr.2.2.2.1
    clear hgr hext
    by_cases hlt : la < N
    · have hll : la < ls.length := by have := HN.out; omega
      obtain ⟨x, rfl, hl0⟩ := HD.out 0 (sv (ls[0]'(by omega))) (by rw [List.getElem?_map, List.getElem?_eq_getElem (by omega)]; rfl)
      rw [add_zero] at hl0
      obtain ⟨lg, loff, rfl, _⟩ := plain_of hl0
      obtain ⟨x, hx, hlc⟩ := HD.out la (sv ls[la]) (by rw [List.getElem?_map, List.getElem?_eq_getElem hll]; rfl)
      cases hx
      rw [add_at] at hlc
      clear hl0
      have HLC := Lib.hid (show ∀ z : World, Ext w z → z.cell? ⟨lg, loff + la, none⟩ = some (sv ls[la]) from fun z hz => by rw [hz.cell (lt_of_cell hlc)]; exact hlc)
      clear hlc
      by_cases hnlt : nx < M
      · have hnl : nx < ps.length := by have := HM.out; omega
        obtain ⟨g, off, rfl, hf⟩ := HC.out nx hnl
        have HF := Lib.hid (show ∀ z : World, Ext w z → ∀ f, f < 2 → z.cell? ⟨g, off + nx * 2 + f, none⟩ = (pC ps[nx])[f]? from fun z hz f h => by
          have h0 := hf f h
          obtain ⟨u, hu⟩ : ∃ u, (pC ps[nx])[f]? = some u := ⟨_, List.getElem?_eq_getElem (by rw [show (pC ps[nx]).length = 2 by cases ps[nx] <;> rfl]; exact h)⟩
          rw [hu] at h0 ⊢
          rw [← h0]
          exact hz.cell (lt_of_cell h0))
        have HANY := Lib.hid (fun h => Gr_any HGR.out hnl h)
        have HTAKE := Lib.hid (fun h1 h2 => Gr_take HGR.out hnl hll h1 h2)
        have HBACK := Lib.hid (fun h1 (h2 : ps[nx] ≠ .any ∧ tkE ps[nx] ls[la] = false) => Gr_back HGR.out hll h1 (fun _ => h2))
        have HNO := Lib.hid (fun h1 (h2 : ps[nx] ≠ .any ∧ tkE ps[nx] ls[la] = false) => Gr_no HGR.out hll h1 (fun _ => h2))
        clear hf
        generalize ls[la] = c at HLC HTAKE HBACK HNO
        generalize ps[nx] = el at HF HANY HTAKE HBACK HNO
        have hc0 := HF.out wr HE.out 0 (by decide)
        rw [Nat.add_zero] at hc0
        have hb0 : nx ≤ 5000 := by omega
        have hb1 : la ≤ 5000 := by omega
        by_cases hel : el = .any
        · subst hel
          simp only [pC, List.getElem?_cons_zero] at hc0
          go_wp2_with fail
          go_roundw
          case rel => exact ⟨nx + 1, la, nx + 1, la, by go_num, rfl, by go_num, rfl, HANY.out rfl, HE.out⟩
          case measure =>
            have h := ms_any (N := N) (M := M) hen hnlt
            simp only [intOf]
            simpa using h
        · obtain ⟨k, s, hz, hk⟩ := pC_two el hel
          have HZ := Lib.hid hz
          have HEL := Lib.hid hel
          rw [hz] at hc0
          simp only [List.getElem?_cons_zero] at hc0
          clear hz hel
          go_wp2_with fail
          have hz0 : ∀ z : Later Ext wr.drew, z.val.cell? ⟨g, off + nx * 2, none⟩ = some (.int .u8 k) := fun z => by
            have h := HF.out z.val (Ext.trans (Ext.trans HE.out (Ext.drew _)) z.ext) 0 (by decide)
            rw [HZ.out] at h
            exact h
          have hz1 : ∀ z : Later Ext wr.drew, z.val.cell? ⟨g, off + nx * 2 + 1, none⟩ = some (.string s) := fun z => by
            have h := HF.out z.val (Ext.trans (Ext.trans HE.out (Ext.drew _)) z.ext) 1 (by decide)
            rw [HZ.out] at h
            exact h
          have hz2 : ∀ z : Later Ext wr.drew, z.val.cell? ⟨lg, loff + la, none⟩ = some (sv c) := fun z => HLC.out z.val (Ext.trans (Ext.trans HE.out (Ext.drew _)) z.ext)
          unfold sv at hz2
          refine wp_region_segs Ext Ext.keeps [([0, 1, 2, 3, 4, 5, 6, 7, 8, 9, 10, 11, 12], some 13), ([14, 15], none)] (by kernel_rfl) (by kernel_rfl) (fun c a a' w e h => (by exact ⟨e ▸ h.1, h.2⟩)) ?_
          simp only [pickSegs, pickOps, List.map_cons, List.map_nil, Option.map_some, Option.map_none, Option.getD_some, List.getElem?_toArray, List.getElem?_cons_zero, List.getElem?_cons_succ]
          refine wpSegs_some fun K hK => ?_
          repeat go_big_quiet_step (fail)
          refine wpQuiet_nil ?_
          clear hz0 hz1 hz2
          have HW := Lib.hid (show Ext w wr.drew from Ext.trans HE.out (Ext.drew _))
          have HTK := Lib.hid (takes_any el HEL.out c wr.drew)
          rw [HZ.out] at HTK
          unfold sv at HTK
          go_wp2_with fail
          refine HTK.out.mono ?_
          rintro e w2 ⟨rfl, hb2⟩
          have HB2 := Lib.hid hb2
          have HE2 := Lib.hid (Ext.trans HW.out hb2)
          clear hb2
          go_wp2_with fail
          refine ⟨HB2.out, hK _ _ ?_⟩
          clear hK K
          refine wpSegs_none ?_
          cases htk : tkE el c with
          | true =>
            have HG := Lib.hid (HTAKE.out HEL.out htk)
            clear htk
            repeat go_big_quiet_step (fail)
            refine wpQuiet_nil (wpSegs_nil ?_)
            go_wp2_with fail
            go_roundw
            case rel => exact ⟨nx + 1, la + 1, af, en, by go_num, by go_num, rfl, rfl, HG.out, HE2.out⟩
            case measure =>
              simp only [intOf]
              simp
              omega
          | false =>
            by_cases hf : 0 < af
            · have HG := Lib.hid (HBACK.out hf ⟨HEL.out, htk⟩)
              clear htk
              have hen2 : en ≤ 5000 := by omega
              repeat go_big_quiet_step (fail)
              refine wpQuiet_nil (wpSegs_nil ?_)
              go_wp2_with fail
              go_roundw
              case rel => exact ⟨af, en + 1, af, en + 1, rfl, by go_num, rfl, by go_num, HG.out, HE2.out⟩
              case measure =>
                have h := ms_back (N := N) (M := M) (nx := nx) (af := af) (en := en) (by omega)
                simp only [intOf]
                simpa using h
            · have HG := Lib.hid (HNO.out (by omega) ⟨HEL.out, htk⟩)
              have haf0 : af = 0 := by omega
              subst haf0
              clear htk hf
              repeat go_big_quiet_step (fail)
              refine wpQuiet_nil (wpSegs_nil ?_)
              go_wp2_with fail
              go_ret
              exact ⟨by rw [HG.out]; rfl, HE2.out⟩
      · have hnM : nx = M := by omega
        have HBACK := Lib.hid (fun h1 => Gr_back HGR.out hll h1 (fun hn => absurd hn (by have := HM.out; omega)))
        have HNO := Lib.hid (fun h1 => Gr_no HGR.out hll h1 (fun hn => absurd hn (by have := HM.out; omega)))
        subst hnM
        go_wp2_with fail
        refine wp_region_segs Ext Ext.keeps [([0, 1, 2, 3, 4, 5, 6, 7, 8, 9, 10, 11, 12], some 13), ([14, 15], none)] (by kernel_rfl) (by kernel_rfl) (fun c a a' w e h => (by exact ⟨e ▸ h.1, h.2⟩)) ?_
        simp only [pickSegs, pickOps, List.map_cons, List.map_nil, Option.map_some, Option.map_none, Option.getD_some, List.getElem?_toArray, List.getElem?_cons_zero, List.getElem?_cons_succ]
        refine wpSegs_some fun K hK => ?_
        repeat go_big_quiet_step (fail)
        refine wpQuiet_nil ?_
        have HW := Lib.hid (show Ext w wr.drew from Ext.trans HE.out (Ext.drew _))
        go_wp2_with fail
        refine ⟨Ext.keeps.refl _, hK _ _ ?_⟩
        clear hK K
        refine wpSegs_none ?_
        by_cases hf : 0 < af
        · have HG := Lib.hid (HBACK.out hf)
          have hen2 : en ≤ 5000 := by omega
          repeat go_big_quiet_step (fail)
          refine wpQuiet_nil (wpSegs_nil ?_)
          go_wp2_with fail
          go_roundw
          case rel => exact ⟨af, en + 1, af, en + 1, rfl, by go_num, rfl, by go_num, HG.out, HW.out⟩
          case measure =>
            have h := ms_back (N := N) (M := nx) (nx := nx) (af := af) (en := en) (by omega)
            simp only [intOf]
            simpa using h
        · have HG := Lib.hid (HNO.out (by omega))
          have haf0 : af = 0 := by omega
          subst haf0
          clear hf
          repeat go_big_quiet_step (fail)
          refine wpQuiet_nil (wpSegs_nil ?_)
          go_wp2_with fail
          go_ret
          exact ⟨by rw [HG.out]; rfl, HW.out⟩
    · have hlN : la = N := by omega
      have HEND := Lib.hid (Gr_end HGR.out (by have := HN.out; omega))
      subst hlN
      have HR1 := Lib.hid (RdE_drop (nx := nx) HM.out HC.out hnx hc1 (by unfold maxLen; omega))
      have HR2 := Lib.hid (fun hn : M ≤ nx => RdE_none (w := wr) (ao := ao) (nx := nx) HM.out hn)
      have HPL := Lib.hid (show (ps.drop nx).length ≤ 5000 by rw [List.length_drop, HM.out]; omega)
      go_wp2_with fail
      · refine (onlyAnyMany_any (ps.drop nx) _ wr (HR2.out (by omega)) HPL.out).mono ?_
        rintro e w2 ⟨rfl, hb2⟩
        have HE2 := Lib.hid (Ext.trans HE.out hb2)
        clear hb2
        rw [← HEND.out]
        go_wp2_with fail
        go_ret
        exact ⟨rfl, HE2.out⟩
      · refine (onlyAnyMany_any (ps.drop nx) _ wr (HR1.out.mono HE.out) HPL.out).mono ?_
        rintro e w2 ⟨rfl, hb2⟩
        have HE2 := Lib.hid (Ext.trans HE.out hb2)
        clear hb2
        rw [← HEND.out]
        go_wp2_with fail
        go_ret
        exact ⟨rfl, HE2.out⟩

set_option maxRecDepth 100000 in
set_option maxHeartbeats 1000000 in
theorem Match_any (p s : List UInt8) (w : World) (hT : Tabs w) (hp : p.length ≤ 5000) (hs : s.length ≤ 5000) :
    Calls Try.prog 49 #[sv p, sv s] w fun e w' => e = .returned (.tuple #[.bool (isB p s), .int .i64 (errN p)]) ∧ Ext w w' := by
  have HT := Lib.hid hT
  have HP := Lib.hid (elements_any p w hT hp)
  have HL := Lib.hid (fun w hT => Letters_any s w hT hs)
  have hp2 := lets_length p
  have hs2 := lets_length s
  generalize hB : isB p s = B
  generalize hE : errN p = E
  have HB := Lib.hid hB
  have HE := Lib.hid hE
  have HPL := Lib.hid (show (lets p).length ≤ 5000 by omega)
  have HSL := Lib.hid (show (lets s).length ≤ 5000 by omega)
  clear hT hp hs hE hB hp2 hs2
  unfold sv at HP HL ⊢
  go_enter Try.func49, Try.ntmps49
  go_wp2_with fail
  refine HP.out.mono ?_
  rintro e w1 ⟨⟨ps, v, h, rfl, hown⟩ | ⟨h, rfl⟩, hb⟩
  · have H := Lib.hid h
    have HBE := Lib.hid hb
    have HR := Lib.hid (RdE.of_owns hown)
    have HPS := Lib.hid (Nat.le_trans (els_len _ _ _ (Nat.le_refl _) h).1 HPL.out)
    clear h hb hown
    go_wp2_with fail
    refine (HL.out w1 (HT.out.mono HBE.out)).mono ?_
    rintro e w2 ⟨u, rfl, ho2, hb2⟩
    have HU := Lib.hid (RdV.of_owns ho2)
    have HB2 := Lib.hid hb2
    have HR2 := Lib.hid (HR.out.mono hb2)
    clear ho2 hb2
    go_wp2_with fail
    refine (matches_any ps (lets s) v u w2 HR2.out HU.out HPS.out HSL.out).mono ?_
    rintro e w3 ⟨rfl, hb3⟩
    have HB3 := Lib.hid (Ext.trans HBE.out (Ext.trans HB2.out hb3))
    have HM := Lib.hid (show mt ps (lets s) = B by rw [← HB.out, isB_some H.out])
    rw [HM.out]
    clear hb3
    go_wp2_with fail
    go_ret2
    exact ⟨by rw [← HE.out, errN_some H.out]; rfl, HB3.out⟩
  · have H := Lib.hid h
    have HBE := Lib.hid hb
    clear h hb
    go_wp2_with fail
    go_ret2
    have hz : isB p s = false := by unfold isB; rw [H.out]
    exact ⟨by rw [← HB.out, ← HE.out, errN_none H.out, hz]; rfl, HBE.out⟩

end Go.Proofs.Ytfnmcdjfdhdlmaa
