/-
  Texts of this proof, merged: AskRef1, AskRef2, Apart, Beside.
-/
import Derived.Lib.AppendZeros
import Derived.Test.YtfnmcdjfdhdlmaaGreatDoorZ3
import Derived.Test.YtfnmcdjfdhdlmaaGreatDoorZ4
import Derived.Test.YtfnmcdjfdhdlmaaGreatDoorZ14
import Derived.Test.YtfnmcdjfdhdlmaaGreatDoorZ7
import Derived.Test.YtfnmcdjfdhdlmaaGreatDoorZ1
/-
  The contracts of the document's own conditions: which may be.
-/
namespace Go.Proofs.YtfnmcdjfdhdlmaaGreatDoor
open Go.RowKit Go.BigFrame

theorem one_23 {ok : List UInt8 → Bool} {K : List Int} {o c kd : Int} {v : V} (h : o = 2 ∨ o = 3) : oneN ok K ⟨o, c, kd, v⟩ ↔ (1 ≤ kd ∧ kd ≤ 40) ∧ c = 0 ∧ v = V.zero := by
  unfold oneN colN
  simp only
  rw [if_pos h, if_neg (by simp; omega), if_neg (by omega), if_neg (by omega)]
  exact ⟨fun h => h.2, fun h' => ⟨by omega, h'⟩⟩
theorem one_14 {ok : List UInt8 → Bool} {K : List Int} {o c kd : Int} {v : V} (h : o = 1 ∨ o = 4) : oneN ok K ⟨o, c, kd, v⟩ ↔ kd = 0 ∧ c = 0 ∧ v = V.zero := by
  unfold oneN colN
  simp only
  rw [if_neg (by omega), if_neg (by simp; omega), if_neg (by omega), if_neg (by omega)]
  exact ⟨fun h => h.2, fun h' => ⟨by omega, h'⟩⟩
theorem one_56 {ok : List UInt8 → Bool} {K : List Int} {o c kd : Int} {v : V} (h : o = 5 ∨ o = 6) : oneN ok K ⟨o, c, kd, v⟩ ↔ kd = 0 ∧ (0 ≤ c ∧ c < K.length) ∧ rightV v = true ∧ v.k = (K[c.toNat]?).getD 0 := by
  unfold oneN colN
  simp only
  rw [if_neg (by omega), if_pos (by simp; omega), if_pos h]
  exact ⟨fun h => h.2, fun h' => ⟨by omega, h'⟩⟩
theorem one_7 {ok : List UInt8 → Bool} {K : List Int} {c kd : Int} {v : V} : oneN ok K ⟨7, c, kd, v⟩ ↔ kd = 0 ∧ (0 ≤ c ∧ c < K.length) ∧ rightV v = true ∧ v.k = 3 ∧ (K[c.toNat]?).getD 0 = 3 ∧ ok v.s = true := by
  unfold oneN colN
  simp only
  rw [if_neg (by omega), if_pos (by simp), if_neg (by omega), if_pos trivial]
  exact ⟨fun h => h.2, fun h' => ⟨by omega, h'⟩⟩
theorem one_8 {ok : List UInt8 → Bool} {K : List Int} {c kd : Int} {v : V} : oneN ok K ⟨8, c, kd, v⟩ ↔ kd = 0 ∧ (0 ≤ c ∧ c < K.length) ∧ v = V.zero := by
  unfold oneN colN
  simp only
  rw [if_neg (by omega), if_pos (by simp), if_neg (by omega), if_neg (by omega)]
  exact ⟨fun h => h.2, fun h' => ⟨by omega, h'⟩⟩
theorem one_no {ok : List UInt8 → Bool} {K : List Int} {o c kd : Int} {v : V} (h : o < 1 ∨ 8 < o) : ¬ oneN ok K ⟨o, c, kd, v⟩ := fun h' => by
  have := h'.1
  simp only at this
  omega

set_option maxRecDepth 100000 in
theorem refColumn_any (o : Int) (w : World) : Calls Tryz.prog 27 #[.int .u8 o] w fun e w' => e = .returned (.bool (decide (5 ≤ o ∧ o ≤ 8))) ∧ w = w' := by
  by_cases h : 5 ≤ o ∧ o ≤ 8
  · rw [decide_eq_true h]
    have h' : o = 5 ∨ o = 6 ∨ o = 7 ∨ o = 8 := by omega
    clear h
    rcases h' with rfl | rfl | rfl | rfl <;> (
      go_enter Tryz.func27, Tryz.ntmps27
      go_wp2_with fail
      go_ret
      exact ⟨rfl, rfl⟩)
  · rw [decide_eq_false h]
    have q5 : (o == (5 : Int)) = false := beq_eq_false_iff_ne.2 (by omega)
    have q6 : (o == (6 : Int)) = false := beq_eq_false_iff_ne.2 (by omega)
    have q7 : (o == (7 : Int)) = false := beq_eq_false_iff_ne.2 (by omega)
    have q8 : (o == (8 : Int)) = false := beq_eq_false_iff_ne.2 (by omega)
    clear h
    go_enter Tryz.func27, Tryz.ntmps27
    go_wp2_with fail
    go_ret
    exact ⟨rfl, rfl⟩

set_option maxRecDepth 100000 in
set_option maxHeartbeats 8000000 in
theorem refOne_any (u : Value) (K : List Int) (n : Nd) (w : World) (hu : RdV w u (K.map (Value.int .u8))) (_hK : K.length ≤ 1000000) (hT : Tabs w) (hv : n.v.fits) (hl : n.v.s.length ≤ 5000) :
    Calls Tryz.prog 13 #[u, n.val] w fun e w' => e = .returned (.bool (decide (oneN okP K n))) ∧ Ext w w' := by
  have HR := Lib.hid (fun W => refRight_any n.v hv (by omega) W)
  have HCK := Lib.hid (fun W (h : Ext w W) => refCheck_any n.v.s W (hT.mono h) hl)
  obtain ⟨ao, ca, rfl, h1, h2, hca⟩ := RdV.cellsAt hu
  rw [List.length_map] at *
  have HC := Lib.hid hca
  obtain ⟨N, hN⟩ : ∃ N, K.length = N := ⟨_, rfl⟩
  have HN := Lib.hid hN
  rw [hN] at h1 ⊢
  unfold maxLen at h2
  obtain ⟨o, c, kd, ⟨vk, vn, vs⟩⟩ := n
  simp only at HR HCK
  rw [errN_ok] at HCK
  have HB := Lib.hid (Blk.ext (Blk.new w [.int .u8 o, .int .i64 c, .int .i64 kd, .int .u8 vk, .int .i64 vn, .string ⟨vs.toArray⟩] 38) (ext_new _ (.cells #[.int .u8 0, .int .i64 0, .string ⟨#[]⟩] 36)))
  have HX := Lib.hid (ext_new w (.cells #[.int .u8 o, .int .i64 c, .int .i64 kd, .int .u8 vk, .int .i64 vn, .string ⟨vs.toArray⟩] 38))
  have HX2 := Lib.hid (Ext.trans HX.out (ext_new _ (.cells #[.int .u8 0, .int .i64 0, .string ⟨#[]⟩] 36)))
  have HCT := Lib.hid (fun W => refColumn_any 5 W)
  unfold Nd.val V.val at *
  simp only at HR HCK ⊢
  have hq : ∀ W, (binOp .eql 36 (.agg #[.int .u8 vk, .int .i64 vn, .string ⟨vs.toArray⟩]) (.agg #[.int .u8 0, .int .i64 0, .string ⟨#[]⟩])).run Tryz.prog W = .ok (.bool (decide ((⟨vk, vn, vs⟩ : V) = V.zero))) W := fun W => eq_val ⟨vk, vn, vs⟩ V.zero W
  generalize hz : decide ((⟨vk, vn, vs⟩ : V) = V.zero) = zb at hq
  have HZ := Lib.hid hz
  clear hu hca hN hv hl hT hz
  by_cases hlo : o < 1
  · have HQ := Lib.hid (show decide (oneN okP K ⟨o, c, kd, ⟨vk, vn, vs⟩⟩) = false from decide_eq_false (one_no (.inl hlo)))
    have d : decide (o < (1 : Int)) = true := decide_eq_true hlo
    clear hlo
    go_enter Tryz.func13, Tryz.ntmps13
    go_wp2_with fail
    go_ret
    exact ⟨by rw [HQ.out]; rfl, HX.out⟩
  by_cases hhi : 8 < o
  · have HQ := Lib.hid (show decide (oneN okP K ⟨o, c, kd, ⟨vk, vn, vs⟩⟩) = false from decide_eq_false (one_no (.inr hhi)))
    have d : decide (o < (1 : Int)) = false := decide_eq_false hlo
    have d' : decide ((8 : Int) < o) = true := decide_eq_true hhi
    clear hlo hhi
    go_enter Tryz.func13, Tryz.ntmps13
    go_wp2_with fail
    go_ret
    exact ⟨by rw [HQ.out]; rfl, HX.out⟩
  have ho : (o = 2 ∨ o = 3) ∨ (o = 1 ∨ o = 4) ∨ (o = 5 ∨ o = 6) ∨ o = 7 ∨ o = 8 := by omega
  clear hlo hhi
  rcases ho with ho | ho | ho | rfl | rfl
  · have HQ0 := Lib.hid (one_23 (ok := okP) (K := K) (c := c) (kd := kd) (v := ⟨vk, vn, vs⟩) ho)
    by_cases k1 : kd < 1
    · have HQ := Lib.hid (show decide (oneN okP K ⟨o, c, kd, ⟨vk, vn, vs⟩⟩) = false from decide_eq_false (fun h => by have := (HQ0.out.1 h).1; omega))
      have d : decide (kd < (1 : Int)) = true := decide_eq_true k1
      clear k1 HQ0
      rcases ho with rfl | rfl <;> (
        go_enter Tryz.func13, Tryz.ntmps13
        go_wp2_with fail
        go_ret
        exact ⟨by rw [HQ.out]; rfl, HX.out⟩)
    · have d : decide (kd < (1 : Int)) = false := decide_eq_false k1
      by_cases k2 : 40 < kd
      · have HQ := Lib.hid (show decide (oneN okP K ⟨o, c, kd, ⟨vk, vn, vs⟩⟩) = false from decide_eq_false (fun h => by have := (HQ0.out.1 h).1; omega))
        have d2 : decide ((40 : Int) < kd) = true := decide_eq_true k2
        clear k1 k2 HQ0
        rcases ho with rfl | rfl <;> (
          go_enter Tryz.func13, Tryz.ntmps13
          go_wp2_with fail
          go_ret
          exact ⟨by rw [HQ.out]; rfl, HX.out⟩)
      · have d2 : decide ((40 : Int) < kd) = false := decide_eq_false k2
        by_cases hc : c = 0
        · subst hc
          have HQ := Lib.hid (show decide (oneN okP K ⟨o, 0, kd, ⟨vk, vn, vs⟩⟩) = zb by rw [← HZ.out]; exact decide_eq_decide.2 ⟨fun h => (HQ0.out.1 h).2.2, fun h => HQ0.out.2 ⟨by omega, rfl, h⟩⟩)
          clear k1 k2 HQ0
          rcases ho with rfl | rfl <;> (
            go_enter Tryz.func13, Tryz.ntmps13
            go_wp2_with fail
            refine (refColumn_any _ _).mono ?_
            rintro e W' ⟨rfl, rfl⟩
            go_wp2_with fail
            refine (refColumn_any _ _).mono ?_
            rintro e W' ⟨rfl, rfl⟩
            go_wp2_with fail
            go_ret
            exact ⟨by rw [HQ.out]; rfl, HX2.out⟩)
        · have HQ := Lib.hid (show decide (oneN okP K ⟨o, c, kd, ⟨vk, vn, vs⟩⟩) = false from decide_eq_false (fun h => hc (HQ0.out.1 h).2.1))
          have qc : (c != (0 : Int)) = true := bne_iff_ne.2 hc
          clear k1 k2 hc HQ0
          rcases ho with rfl | rfl <;> (
            go_enter Tryz.func13, Tryz.ntmps13
            go_wp2_with fail
            refine (refColumn_any _ _).mono ?_
            rintro e W' ⟨rfl, rfl⟩
            go_wp2_with fail
            refine (refColumn_any _ _).mono ?_
            rintro e W' ⟨rfl, rfl⟩
            go_wp2_with fail
            go_ret
            exact ⟨by rw [HQ.out]; rfl, HX.out⟩)
  · have HQ0 := Lib.hid (one_14 (ok := okP) (K := K) (c := c) (kd := kd) (v := ⟨vk, vn, vs⟩) ho)
    by_cases hk : kd = 0
    · subst hk
      by_cases hc : c = 0
      · subst hc
        have HQ := Lib.hid (show decide (oneN okP K ⟨o, 0, 0, ⟨vk, vn, vs⟩⟩) = zb by rw [← HZ.out]; exact decide_eq_decide.2 ⟨fun h => (HQ0.out.1 h).2.2, fun h => HQ0.out.2 ⟨rfl, rfl, h⟩⟩)
        clear HQ0
        rcases ho with rfl | rfl <;> (
          go_enter Tryz.func13, Tryz.ntmps13
          go_wp2_with fail
          refine (refColumn_any _ _).mono ?_
          rintro e W' ⟨rfl, rfl⟩
          go_wp2_with fail
          refine (refColumn_any _ _).mono ?_
          rintro e W' ⟨rfl, rfl⟩
          go_wp2_with fail
          go_ret
          exact ⟨by rw [HQ.out]; rfl, HX2.out⟩)
      · have HQ := Lib.hid (show decide (oneN okP K ⟨o, c, 0, ⟨vk, vn, vs⟩⟩) = false from decide_eq_false (fun h => hc (HQ0.out.1 h).2.1))
        have qc : (c != (0 : Int)) = true := bne_iff_ne.2 hc
        clear hc HQ0
        rcases ho with rfl | rfl <;> (
          go_enter Tryz.func13, Tryz.ntmps13
          go_wp2_with fail
          refine (refColumn_any _ _).mono ?_
          rintro e W' ⟨rfl, rfl⟩
          go_wp2_with fail
          refine (refColumn_any _ _).mono ?_
          rintro e W' ⟨rfl, rfl⟩
          go_wp2_with fail
          go_ret
          exact ⟨by rw [HQ.out]; rfl, HX.out⟩)
    · have HQ := Lib.hid (show decide (oneN okP K ⟨o, c, kd, ⟨vk, vn, vs⟩⟩) = false from decide_eq_false (fun h => hk (HQ0.out.1 h).1))
      have qk : (kd != (0 : Int)) = true := bne_iff_ne.2 hk
      clear hk HQ0
      rcases ho with rfl | rfl <;> (
        go_enter Tryz.func13, Tryz.ntmps13
        go_wp2_with fail
        go_ret
        exact ⟨by rw [HQ.out]; rfl, HX.out⟩)
  · have HQ0 := Lib.hid (one_56 (ok := okP) (K := K) (c := c) (kd := kd) (v := ⟨vk, vn, vs⟩) ho)
    by_cases hk : kd = 0
    · subst hk
      by_cases hc0 : c < 0
      · have HQ := Lib.hid (show decide (oneN okP K ⟨o, c, 0, ⟨vk, vn, vs⟩⟩) = false from decide_eq_false (fun h => by have := (HQ0.out.1 h).2.1; omega))
        have d0 : decide (c < (0 : Int)) = true := decide_eq_true hc0
        clear hc0 HQ0
        rcases ho with rfl | rfl <;> (
          go_enter Tryz.func13, Tryz.ntmps13
          go_wp2_with fail
          refine (refColumn_any _ _).mono ?_
          rintro e W' ⟨rfl, rfl⟩
          go_wp2_with fail
          go_ret
          exact ⟨by rw [HQ.out]; rfl, HX.out⟩)
      · obtain ⟨j, rfl⟩ := Int.eq_ofNat_of_zero_le (show 0 ≤ c by omega)
        have d0 : decide ((j : Int) < (0 : Int)) = false := decide_eq_false hc0
        by_cases hc1 : j < N
        · have d1 : decide (N ≤ j) = false := decide_eq_false (by omega)
          have d1' : decide ((N : Int) ≤ (j : Int)) = false := decide_eq_false (by omega)
          have hjK : j < K.length := by have := HN.out; omega
          obtain ⟨x, rfl, hcx⟩ := HC.out j (.int .u8 K[j]) (by rw [List.getElem?_map, List.getElem?_eq_getElem hjK]; rfl)
          have HCX := Lib.hid ((HX2.out.cell (lt_of_cell hcx)).trans hcx)
          have HQ1 := Lib.hid (show (K[(j : Int).toNat]?).getD 0 = K[j] by rw [Int.toNat_natCast, List.getElem?_eq_getElem hjK]; rfl)
          have HJR := Lib.hid (show (0 : Int) ≤ (j : Int) ∧ (j : Int) < (K.length : Int) by omega)
          generalize K[j] = y at HCX HQ1
          clear hcx hc0 hjK
          have HQ := Lib.hid (show decide (oneN okP K ⟨o, j, 0, ⟨vk, vn, vs⟩⟩) = (rightV ⟨vk, vn, vs⟩ && decide (vk = y)) by
            have e : oneN okP K ⟨o, j, 0, ⟨vk, vn, vs⟩⟩ ↔ (rightV ⟨vk, vn, vs⟩ = true ∧ vk = y) := ⟨fun h => by have h' := (HQ0.out.1 h).2.2; rw [HQ1.out] at h'; exact h', fun h => HQ0.out.2 ⟨rfl, HJR.out, by rw [HQ1.out]; exact h⟩⟩
            rw [decide_eq_decide.2 e, Bool.decide_and, Bool.decide_eq_true])
          generalize rightV ⟨vk, vn, vs⟩ = rv at HR HQ
          have hqk : ∀ b, decide (vk = y) = b → (vk == y) = b := fun b h => by rw [← h]; rfl
          obtain ⟨b, hb⟩ : ∃ b, decide (vk = y) = b := ⟨_, rfl⟩
          have qb := hqk b hb
          rw [hb] at HQ
          clear hb hqk HQ0 HQ1
          rcases ho with rfl | rfl
          · go_enter Tryz.func13, Tryz.ntmps13
            go_wp2_with fail
            refine (refColumn_any _ _).mono ?_
            rintro e W' ⟨rfl, rfl⟩
            go_wp2_with fail
            refine (refColumn_any _ _).mono ?_
            rintro e W' ⟨rfl, rfl⟩
            go_wp2_with fail
            generalize hW2 : ((w.alloc (.cells #[.int .u8 5, .int .i64 (j : Int), .int .i64 0, .int .u8 vk, .int .i64 vn, .string ⟨vs.toArray⟩] 38)).alloc (.cells #[.int .u8 0, .int .i64 0, .string ⟨#[]⟩] 36)) = W2 at HB HX2 HCX ⊢
            clear hW2
            refine wp_region_segs Ext Ext.keeps [([0, 1], some 2), ([3, 4, 5, 6, 7, 8, 9, 10, 11, 12, 13, 14], none)] (by kernel_rfl) (by kernel_rfl) (fun c a a' w e h => (by exact ⟨e ▸ h.1, h.2⟩)) ?_
            simp only [pickSegs, pickOps, List.map_cons, List.map_nil, Option.map_some, Option.map_none, Option.getD_some, List.getElem?_toArray, List.getElem?_cons_zero, List.getElem?_cons_succ]
            have a0 := later_cell (w := W2) (b := w.heap.size) (fun j u hj => HB.out.cell j u hj) 0 (.int .u8 5) rfl
            have a1 := later_cell (w := W2) (b := w.heap.size) (fun j u hj => HB.out.cell j u hj) 1 (.int .i64 (j : Int)) rfl
            have a2 := later_cell (w := W2) (b := w.heap.size) (fun j u hj => HB.out.cell j u hj) 2 (.int .i64 0) rfl
            have a3 := later_cell (w := W2) (b := w.heap.size) (fun j u hj => HB.out.cell j u hj) 3 (.int .u8 vk) rfl
            have a4 := later_cell (w := W2) (b := w.heap.size) (fun j u hj => HB.out.cell j u hj) 4 (.int .i64 vn) rfl
            have a5 := later_cell (w := W2) (b := w.heap.size) (fun j u hj => HB.out.cell j u hj) 5 (.string ⟨vs.toArray⟩) rfl
            refine wpSegs_some fun K hK => ?_
            repeat go_big_quiet_step (fail)
            refine wpQuiet_nil ?_
            clear a0 a1 a2 a3 a4 a5
            go_wp2_with fail
            refine (HR.out _).mono ?_
            rintro e W1 ⟨rfl, hx⟩
            have HH1 := Lib.hid hx
            clear hx
            go_wp2_with fail
            refine ⟨HH1.out, hK _ _ ?_⟩
            clear hK K
            have HBB := Lib.hid ((HB.out.ext (Ext.drew _)).ext HH1.out)
            have HY := Lib.hid (HH1.out.cell (lt_of_cell (((Ext.drew W2).cell (lt_of_cell HCX.out)).trans HCX.out)) |>.trans (((Ext.drew W2).cell (lt_of_cell HCX.out)).trans HCX.out))
            have a0 := now_cell (w := W1) (b := w.heap.size) (fun j u hj => HBB.out.cell j u hj) 0 (.int .u8 5) rfl
            have a1 := now_cell (w := W1) (b := w.heap.size) (fun j u hj => HBB.out.cell j u hj) 1 (.int .i64 (j : Int)) rfl
            have a2 := now_cell (w := W1) (b := w.heap.size) (fun j u hj => HBB.out.cell j u hj) 2 (.int .i64 0) rfl
            have a3 := now_cell (w := W1) (b := w.heap.size) (fun j u hj => HBB.out.cell j u hj) 3 (.int .u8 vk) rfl
            have a4 := now_cell (w := W1) (b := w.heap.size) (fun j u hj => HBB.out.cell j u hj) 4 (.int .i64 vn) rfl
            have a5 := now_cell (w := W1) (b := w.heap.size) (fun j u hj => HBB.out.cell j u hj) 5 (.string ⟨vs.toArray⟩) rfl
            have hy : ∀ z : Later Ext W1, z.val.cell? (x.add j) = some (.int .u8 y) := fun z => (z.ext.cell (lt_of_cell HY.out)).trans HY.out
            cases rv with
            | true =>
              refine wpSegs_none ?_
              repeat go_big_quiet_step (fail)
              refine wpQuiet_nil (wpSegs_nil ?_)
              clear hy a0 a1 a2 a3 a4 a5
              go_wp2_with fail
              go_ret
              exact ⟨by rw [HQ.out]; rfl, Ext.trans HX2.out (Ext.trans (Ext.drew _) HH1.out)⟩
            | false =>
              refine wpSegs_none ?_
              repeat go_big_quiet_step (fail)
              refine wpQuiet_nil (wpSegs_nil ?_)
              clear hy a0 a1 a2 a3 a4 a5
              go_wp2_with fail
              go_ret
              exact ⟨by rw [HQ.out]; rfl, Ext.trans HX2.out (Ext.trans (Ext.drew _) HH1.out)⟩
          · go_enter Tryz.func13, Tryz.ntmps13
            go_wp2_with fail
            refine (refColumn_any _ _).mono ?_
            rintro e W' ⟨rfl, rfl⟩
            go_wp2_with fail
            refine (refColumn_any _ _).mono ?_
            rintro e W' ⟨rfl, rfl⟩
            go_wp2_with fail
            generalize hW2 : ((w.alloc (.cells #[.int .u8 6, .int .i64 (j : Int), .int .i64 0, .int .u8 vk, .int .i64 vn, .string ⟨vs.toArray⟩] 38)).alloc (.cells #[.int .u8 0, .int .i64 0, .string ⟨#[]⟩] 36)) = W2 at HB HX2 HCX ⊢
            clear hW2
            refine wp_region_segs Ext Ext.keeps [([0, 1], some 2), ([3, 4, 5, 6, 7, 8, 9, 10, 11, 12, 13, 14], none)] (by kernel_rfl) (by kernel_rfl) (fun c a a' w e h => (by exact ⟨e ▸ h.1, h.2⟩)) ?_
            simp only [pickSegs, pickOps, List.map_cons, List.map_nil, Option.map_some, Option.map_none, Option.getD_some, List.getElem?_toArray, List.getElem?_cons_zero, List.getElem?_cons_succ]
            have a0 := later_cell (w := W2) (b := w.heap.size) (fun j u hj => HB.out.cell j u hj) 0 (.int .u8 6) rfl
            have a1 := later_cell (w := W2) (b := w.heap.size) (fun j u hj => HB.out.cell j u hj) 1 (.int .i64 (j : Int)) rfl
            have a2 := later_cell (w := W2) (b := w.heap.size) (fun j u hj => HB.out.cell j u hj) 2 (.int .i64 0) rfl
            have a3 := later_cell (w := W2) (b := w.heap.size) (fun j u hj => HB.out.cell j u hj) 3 (.int .u8 vk) rfl
            have a4 := later_cell (w := W2) (b := w.heap.size) (fun j u hj => HB.out.cell j u hj) 4 (.int .i64 vn) rfl
            have a5 := later_cell (w := W2) (b := w.heap.size) (fun j u hj => HB.out.cell j u hj) 5 (.string ⟨vs.toArray⟩) rfl
            refine wpSegs_some fun K hK => ?_
            repeat go_big_quiet_step (fail)
            refine wpQuiet_nil ?_
            clear a0 a1 a2 a3 a4 a5
            go_wp2_with fail
            refine (HR.out _).mono ?_
            rintro e W1 ⟨rfl, hx⟩
            have HH1 := Lib.hid hx
            clear hx
            go_wp2_with fail
            refine ⟨HH1.out, hK _ _ ?_⟩
            clear hK K
            have HBB := Lib.hid ((HB.out.ext (Ext.drew _)).ext HH1.out)
            have HY := Lib.hid (HH1.out.cell (lt_of_cell (((Ext.drew W2).cell (lt_of_cell HCX.out)).trans HCX.out)) |>.trans (((Ext.drew W2).cell (lt_of_cell HCX.out)).trans HCX.out))
            have a0 := now_cell (w := W1) (b := w.heap.size) (fun j u hj => HBB.out.cell j u hj) 0 (.int .u8 6) rfl
            have a1 := now_cell (w := W1) (b := w.heap.size) (fun j u hj => HBB.out.cell j u hj) 1 (.int .i64 (j : Int)) rfl
            have a2 := now_cell (w := W1) (b := w.heap.size) (fun j u hj => HBB.out.cell j u hj) 2 (.int .i64 0) rfl
            have a3 := now_cell (w := W1) (b := w.heap.size) (fun j u hj => HBB.out.cell j u hj) 3 (.int .u8 vk) rfl
            have a4 := now_cell (w := W1) (b := w.heap.size) (fun j u hj => HBB.out.cell j u hj) 4 (.int .i64 vn) rfl
            have a5 := now_cell (w := W1) (b := w.heap.size) (fun j u hj => HBB.out.cell j u hj) 5 (.string ⟨vs.toArray⟩) rfl
            have hy : ∀ z : Later Ext W1, z.val.cell? (x.add j) = some (.int .u8 y) := fun z => (z.ext.cell (lt_of_cell HY.out)).trans HY.out
            cases rv with
            | true =>
              refine wpSegs_none ?_
              repeat go_big_quiet_step (fail)
              refine wpQuiet_nil (wpSegs_nil ?_)
              clear hy a0 a1 a2 a3 a4 a5
              go_wp2_with fail
              go_ret
              exact ⟨by rw [HQ.out]; rfl, Ext.trans HX2.out (Ext.trans (Ext.drew _) HH1.out)⟩
            | false =>
              refine wpSegs_none ?_
              repeat go_big_quiet_step (fail)
              refine wpQuiet_nil (wpSegs_nil ?_)
              clear hy a0 a1 a2 a3 a4 a5
              go_wp2_with fail
              go_ret
              exact ⟨by rw [HQ.out]; rfl, Ext.trans HX2.out (Ext.trans (Ext.drew _) HH1.out)⟩
        · have HQ := Lib.hid (show decide (oneN okP K ⟨o, j, 0, ⟨vk, vn, vs⟩⟩) = false from decide_eq_false (fun h => by have := (HQ0.out.1 h).2.1; have := HN.out; omega))
          have d1 : decide (N ≤ j) = true := decide_eq_true (by omega)
          have d1' : decide ((N : Int) ≤ (j : Int)) = true := decide_eq_true (by omega)
          clear hc0 hc1 HQ0
          rcases ho with rfl | rfl <;> (
            go_enter Tryz.func13, Tryz.ntmps13
            go_wp2_with fail
            refine (refColumn_any _ _).mono ?_
            rintro e W' ⟨rfl, rfl⟩
            go_wp2_with fail
            go_ret
            exact ⟨by rw [HQ.out]; rfl, HX.out⟩)
    · have HQ := Lib.hid (show decide (oneN okP K ⟨o, c, kd, ⟨vk, vn, vs⟩⟩) = false from decide_eq_false (fun h => hk (HQ0.out.1 h).1))
      have qk : (kd != (0 : Int)) = true := bne_iff_ne.2 hk
      clear hk HQ0
      rcases ho with rfl | rfl <;> (
        go_enter Tryz.func13, Tryz.ntmps13
        go_wp2_with fail
        go_ret
        exact ⟨by rw [HQ.out]; rfl, HX.out⟩)
  · have HQ0 := Lib.hid (one_7 (ok := okP) (K := K) (c := c) (kd := kd) (v := ⟨vk, vn, vs⟩))
    by_cases hk : kd = 0
    · subst hk
      by_cases hc0 : c < 0
      · have HQ := Lib.hid (show decide (oneN okP K ⟨7, c, 0, ⟨vk, vn, vs⟩⟩) = false from decide_eq_false (fun h => by have := (HQ0.out.1 h).2.1; omega))
        have d0 : decide (c < (0 : Int)) = true := decide_eq_true hc0
        clear hc0 HQ0
        go_enter Tryz.func13, Tryz.ntmps13
        go_wp2_with fail
        refine (refColumn_any _ _).mono ?_
        rintro e W' ⟨rfl, rfl⟩
        go_wp2_with fail
        go_ret
        exact ⟨by rw [HQ.out]; rfl, HX.out⟩
      · obtain ⟨j, rfl⟩ := Int.eq_ofNat_of_zero_le (show 0 ≤ c by omega)
        have d0 : decide ((j : Int) < (0 : Int)) = false := decide_eq_false hc0
        by_cases hc1 : j < N
        · have d1 : decide (N ≤ j) = false := decide_eq_false (by omega)
          have d1' : decide ((N : Int) ≤ (j : Int)) = false := decide_eq_false (by omega)
          have hjK : j < K.length := by have := HN.out; omega
          obtain ⟨x, rfl, hcx⟩ := HC.out j (.int .u8 K[j]) (by rw [List.getElem?_map, List.getElem?_eq_getElem hjK]; rfl)
          have HCX := Lib.hid ((HX2.out.cell (lt_of_cell hcx)).trans hcx)
          have HQ1 := Lib.hid (show (K[(j : Int).toNat]?).getD 0 = K[j] by rw [Int.toNat_natCast, List.getElem?_eq_getElem hjK]; rfl)
          have HJR := Lib.hid (show (0 : Int) ≤ (j : Int) ∧ (j : Int) < (K.length : Int) by omega)
          generalize K[j] = y at HCX HQ1
          clear hcx hc0 hjK
          have HQ := Lib.hid (show decide (oneN okP K ⟨7, j, 0, ⟨vk, vn, vs⟩⟩) = (rightV ⟨vk, vn, vs⟩ && (decide (vk = 3) && (decide (y = 3) && okP vs))) by
            have e : oneN okP K ⟨7, j, 0, ⟨vk, vn, vs⟩⟩ ↔ (rightV ⟨vk, vn, vs⟩ = true ∧ vk = 3 ∧ y = 3 ∧ okP vs = true) := ⟨fun h => by have h' := (HQ0.out.1 h).2.2; rw [HQ1.out] at h'; exact h', fun h => HQ0.out.2 ⟨rfl, HJR.out, by rw [HQ1.out]; exact h⟩⟩
            rw [show decide (oneN okP K ⟨7, j, 0, ⟨vk, vn, vs⟩⟩) = decide (rightV ⟨vk, vn, vs⟩ = true ∧ vk = 3 ∧ y = 3 ∧ okP vs = true) from decide_eq_decide.2 e]
            simp only [Bool.decide_and, Bool.decide_eq_true])
          generalize rightV ⟨vk, vn, vs⟩ = rv at HR HQ
          generalize okP vs = ob at HCK HQ
          clear HQ0 HQ1
          cases rv with
          | false =>
            go_enter Tryz.func13, Tryz.ntmps13
            go_wp2_with fail
            refine (refColumn_any _ _).mono ?_
            rintro e W' ⟨rfl, rfl⟩
            go_wp2_with fail
            refine (refColumn_any _ _).mono ?_
            rintro e W' ⟨rfl, rfl⟩
            go_wp2_with fail
            refine (HR.out _).mono ?_
            rintro e W1 ⟨rfl, hx⟩
            have HBB := Lib.hid (HB.out.ext hx)
            have HXX := Lib.hid (Ext.trans HX2.out hx)
            have xy := (hx.cell (lt_of_cell HCX.out)).trans HCX.out
            clear hx
            have a0 : W1.cell? ⟨w.heap.size, 0, none⟩ = some (.int .u8 7) := HBB.out.cell 0 _ rfl
            have a1 : W1.cell? ⟨w.heap.size, 1, none⟩ = some (.int .i64 (j : Int)) := HBB.out.cell 1 _ rfl
            have a2 : W1.cell? ⟨w.heap.size, 2, none⟩ = some (.int .i64 0) := HBB.out.cell 2 _ rfl
            have a3 : W1.cell? ⟨w.heap.size, 3, none⟩ = some (.int .u8 vk) := HBB.out.cell 3 _ rfl
            have a4 : W1.cell? ⟨w.heap.size, 4, none⟩ = some (.int .i64 vn) := HBB.out.cell 4 _ rfl
            have a5 : W1.cell? ⟨w.heap.size, 5, none⟩ = some (.string ⟨vs.toArray⟩) := HBB.out.cell 5 _ rfl
            go_wp2_with fail
            go_ret
            exact ⟨by rw [HQ.out]; rfl, HXX.out⟩
          | true =>
            by_cases g1 : vk = 3
            · subst g1
              by_cases g2 : y = 3
              · subst g2
                go_enter Tryz.func13, Tryz.ntmps13
                go_wp2_with fail
                refine (refColumn_any _ _).mono ?_
                rintro e W' ⟨rfl, rfl⟩
                go_wp2_with fail
                refine (refColumn_any _ _).mono ?_
                rintro e W' ⟨rfl, rfl⟩
                go_wp2_with fail
                refine (HR.out _).mono ?_
                rintro e W1 ⟨rfl, hx⟩
                have HBB := Lib.hid (HB.out.ext hx)
                have HXX := Lib.hid (Ext.trans HX2.out hx)
                have xy := (hx.cell (lt_of_cell HCX.out)).trans HCX.out
                clear hx
                have a0 : W1.cell? ⟨w.heap.size, 0, none⟩ = some (.int .u8 7) := HBB.out.cell 0 _ rfl
                have a1 : W1.cell? ⟨w.heap.size, 1, none⟩ = some (.int .i64 (j : Int)) := HBB.out.cell 1 _ rfl
                have a2 : W1.cell? ⟨w.heap.size, 2, none⟩ = some (.int .i64 0) := HBB.out.cell 2 _ rfl
                have a3 : W1.cell? ⟨w.heap.size, 3, none⟩ = some (.int .u8 3) := HBB.out.cell 3 _ rfl
                have a4 : W1.cell? ⟨w.heap.size, 4, none⟩ = some (.int .i64 vn) := HBB.out.cell 4 _ rfl
                have a5 : W1.cell? ⟨w.heap.size, 5, none⟩ = some (.string ⟨vs.toArray⟩) := HBB.out.cell 5 _ rfl
                go_wp2_with fail
                refine (HCK.out _ HXX.out).mono ?_
                rintro e W3 ⟨rfl, hx⟩
                have HX3 := Lib.hid (Ext.trans HXX.out hx)
                clear hx
                cases ob with
                | true =>
                  simp only [cond_true]
                  go_wp2_with fail
                  go_ret
                  exact ⟨by rw [HQ.out]; rfl, HX3.out⟩
                | false =>
                  simp only [cond_false]
                  go_wp2_with fail
                  go_ret
                  exact ⟨by rw [HQ.out]; rfl, HX3.out⟩
              · have q3 : (y == (3 : Int)) = false := beq_eq_false_iff_ne.2 g2
                have HG2 := Lib.hid (show decide (y = 3) = false from decide_eq_false g2)
                rw [HG2.out] at HQ
                clear g2
                go_enter Tryz.func13, Tryz.ntmps13
                go_wp2_with fail
                refine (refColumn_any _ _).mono ?_
                rintro e W' ⟨rfl, rfl⟩
                go_wp2_with fail
                refine (refColumn_any _ _).mono ?_
                rintro e W' ⟨rfl, rfl⟩
                go_wp2_with fail
                refine (HR.out _).mono ?_
                rintro e W1 ⟨rfl, hx⟩
                have HBB := Lib.hid (HB.out.ext hx)
                have HXX := Lib.hid (Ext.trans HX2.out hx)
                have xy := (hx.cell (lt_of_cell HCX.out)).trans HCX.out
                clear hx
                have a0 : W1.cell? ⟨w.heap.size, 0, none⟩ = some (.int .u8 7) := HBB.out.cell 0 _ rfl
                have a1 : W1.cell? ⟨w.heap.size, 1, none⟩ = some (.int .i64 (j : Int)) := HBB.out.cell 1 _ rfl
                have a2 : W1.cell? ⟨w.heap.size, 2, none⟩ = some (.int .i64 0) := HBB.out.cell 2 _ rfl
                have a3 : W1.cell? ⟨w.heap.size, 3, none⟩ = some (.int .u8 3) := HBB.out.cell 3 _ rfl
                have a4 : W1.cell? ⟨w.heap.size, 4, none⟩ = some (.int .i64 vn) := HBB.out.cell 4 _ rfl
                have a5 : W1.cell? ⟨w.heap.size, 5, none⟩ = some (.string ⟨vs.toArray⟩) := HBB.out.cell 5 _ rfl
                go_wp2_with fail
                go_ret
                exact ⟨by rw [HQ.out]; rfl, HXX.out⟩
            · have q3 : (vk == (3 : Int)) = false := beq_eq_false_iff_ne.2 g1
              have HG1 := Lib.hid (show decide (vk = 3) = false from decide_eq_false g1)
              rw [HG1.out] at HQ
              clear g1
              go_enter Tryz.func13, Tryz.ntmps13
              go_wp2_with fail
              refine (refColumn_any _ _).mono ?_
              rintro e W' ⟨rfl, rfl⟩
              go_wp2_with fail
              refine (refColumn_any _ _).mono ?_
              rintro e W' ⟨rfl, rfl⟩
              go_wp2_with fail
              refine (HR.out _).mono ?_
              rintro e W1 ⟨rfl, hx⟩
              have HBB := Lib.hid (HB.out.ext hx)
              have HXX := Lib.hid (Ext.trans HX2.out hx)
              have xy := (hx.cell (lt_of_cell HCX.out)).trans HCX.out
              clear hx
              have a0 : W1.cell? ⟨w.heap.size, 0, none⟩ = some (.int .u8 7) := HBB.out.cell 0 _ rfl
              have a1 : W1.cell? ⟨w.heap.size, 1, none⟩ = some (.int .i64 (j : Int)) := HBB.out.cell 1 _ rfl
              have a2 : W1.cell? ⟨w.heap.size, 2, none⟩ = some (.int .i64 0) := HBB.out.cell 2 _ rfl
              have a3 : W1.cell? ⟨w.heap.size, 3, none⟩ = some (.int .u8 vk) := HBB.out.cell 3 _ rfl
              have a4 : W1.cell? ⟨w.heap.size, 4, none⟩ = some (.int .i64 vn) := HBB.out.cell 4 _ rfl
              have a5 : W1.cell? ⟨w.heap.size, 5, none⟩ = some (.string ⟨vs.toArray⟩) := HBB.out.cell 5 _ rfl
              go_wp2_with fail
              go_ret
              exact ⟨by rw [HQ.out]; rfl, HXX.out⟩
        · have HQ := Lib.hid (show decide (oneN okP K ⟨7, j, 0, ⟨vk, vn, vs⟩⟩) = false from decide_eq_false (fun h => by have := (HQ0.out.1 h).2.1; have := HN.out; omega))
          have d1 : decide (N ≤ j) = true := decide_eq_true (by omega)
          have d1' : decide ((N : Int) ≤ (j : Int)) = true := decide_eq_true (by omega)
          clear hc0 hc1 HQ0
          go_enter Tryz.func13, Tryz.ntmps13
          go_wp2_with fail
          refine (refColumn_any _ _).mono ?_
          rintro e W' ⟨rfl, rfl⟩
          go_wp2_with fail
          go_ret
          exact ⟨by rw [HQ.out]; rfl, HX.out⟩
    · have HQ := Lib.hid (show decide (oneN okP K ⟨7, c, kd, ⟨vk, vn, vs⟩⟩) = false from decide_eq_false (fun h => hk (HQ0.out.1 h).1))
      have qk : (kd != (0 : Int)) = true := bne_iff_ne.2 hk
      clear hk HQ0
      go_enter Tryz.func13, Tryz.ntmps13
      go_wp2_with fail
      go_ret
      exact ⟨by rw [HQ.out]; rfl, HX.out⟩
  · have HQ0 := Lib.hid (one_8 (ok := okP) (K := K) (c := c) (kd := kd) (v := ⟨vk, vn, vs⟩))
    by_cases hk : kd = 0
    · subst hk
      by_cases hc0 : c < 0
      · have HQ := Lib.hid (show decide (oneN okP K ⟨8, c, 0, ⟨vk, vn, vs⟩⟩) = false from decide_eq_false (fun h => by have := (HQ0.out.1 h).2.1; omega))
        have d0 : decide (c < (0 : Int)) = true := decide_eq_true hc0
        clear hc0 HQ0
        go_enter Tryz.func13, Tryz.ntmps13
        go_wp2_with fail
        refine (refColumn_any _ _).mono ?_
        rintro e W' ⟨rfl, rfl⟩
        go_wp2_with fail
        go_ret
        exact ⟨by rw [HQ.out]; rfl, HX.out⟩
      · obtain ⟨j, rfl⟩ := Int.eq_ofNat_of_zero_le (show 0 ≤ c by omega)
        have d0 : decide ((j : Int) < (0 : Int)) = false := decide_eq_false hc0
        by_cases hc1 : j < N
        · have d1 : decide (N ≤ j) = false := decide_eq_false (by omega)
          have d1' : decide ((N : Int) ≤ (j : Int)) = false := decide_eq_false (by omega)
          have hjK : j < K.length := by have := HN.out; omega
          obtain ⟨x, rfl, hcx⟩ := HC.out j (.int .u8 K[j]) (by rw [List.getElem?_map, List.getElem?_eq_getElem hjK]; rfl)
          have HCX := Lib.hid ((HX2.out.cell (lt_of_cell hcx)).trans hcx)
          have HQ1 := Lib.hid (show (K[(j : Int).toNat]?).getD 0 = K[j] by rw [Int.toNat_natCast, List.getElem?_eq_getElem hjK]; rfl)
          have HJR := Lib.hid (show (0 : Int) ≤ (j : Int) ∧ (j : Int) < (K.length : Int) by omega)
          generalize K[j] = y at HCX HQ1
          clear hcx hc0 hjK
          have HQ := Lib.hid (show decide (oneN okP K ⟨8, j, 0, ⟨vk, vn, vs⟩⟩) = zb by rw [← HZ.out]; exact decide_eq_decide.2 ⟨fun h => (HQ0.out.1 h).2.2, fun h => HQ0.out.2 ⟨rfl, HJR.out, h⟩⟩)
          clear HQ0 HQ1
          go_enter Tryz.func13, Tryz.ntmps13
          go_wp2_with fail
          refine (refColumn_any _ _).mono ?_
          rintro e W' ⟨rfl, rfl⟩
          go_wp2_with fail
          refine (refColumn_any _ _).mono ?_
          rintro e W' ⟨rfl, rfl⟩
          go_wp2_with fail
          go_ret
          exact ⟨by rw [HQ.out]; rfl, HX2.out⟩
        · have HQ := Lib.hid (show decide (oneN okP K ⟨8, j, 0, ⟨vk, vn, vs⟩⟩) = false from decide_eq_false (fun h => by have := (HQ0.out.1 h).2.1; have := HN.out; omega))
          have d1 : decide (N ≤ j) = true := decide_eq_true (by omega)
          have d1' : decide ((N : Int) ≤ (j : Int)) = true := decide_eq_true (by omega)
          clear hc0 hc1 HQ0
          go_enter Tryz.func13, Tryz.ntmps13
          go_wp2_with fail
          refine (refColumn_any _ _).mono ?_
          rintro e W' ⟨rfl, rfl⟩
          go_wp2_with fail
          go_ret
          exact ⟨by rw [HQ.out]; rfl, HX.out⟩
    · have HQ := Lib.hid (show decide (oneN okP K ⟨8, c, kd, ⟨vk, vn, vs⟩⟩) = false from decide_eq_false (fun h => hk (HQ0.out.1 h).1))
      have qk : (kd != (0 : Int)) = true := bne_iff_ne.2 hk
      clear hk HQ0
      go_enter Tryz.func13, Tryz.ntmps13
      go_wp2_with fail
      go_ret
      exact ⟨by rw [HQ.out]; rfl, HX.out⟩

end Go.Proofs.YtfnmcdjfdhdlmaaGreatDoor

/-
  The contracts of the document's own conditions: Right as a whole.
-/
namespace Go.Proofs.YtfnmcdjfdhdlmaaGreatDoor
open Go.RowKit Go.BigFrame

/-- How many parts the document counts. -/
def kidsD (n : Nd) : Int := if n.op = 4 then 1 else n.kids
theorem refKids_any (n : Nd) (w : World) : Calls Tryz.prog 29 #[n.val] w fun e w' => e = .returned (.int .i64 (kidsD n)) ∧ Ext w w' := by
  obtain ⟨o, c, kd, ⟨vk, vn, vs⟩⟩ := n
  have HX := Lib.hid (ext_new w (.cells #[.int .u8 o, .int .i64 c, .int .i64 kd, .int .u8 vk, .int .i64 vn, .string ⟨vs.toArray⟩] 38))
  have HQ := Lib.hid (show kidsD ⟨o, c, kd, ⟨vk, vn, vs⟩⟩ = if o = 4 then 1 else kd from rfl)
  rw [HQ.out]
  unfold Nd.val
  simp only
  by_cases h : o = 4
  · subst h
    rw [if_pos rfl]
    go_enter Tryz.func29, Tryz.ntmps29
    go_wp2_with fail
    go_ret
    exact ⟨rfl, HX.out⟩
  · rw [if_neg h]
    have q : (o == (4 : Int)) = false := beq_eq_false_iff_ne.2 h
    clear h
    go_enter Tryz.func29, Tryz.ntmps29
    go_wp2_with fail
    go_ret
    exact ⟨rfl, HX.out⟩
theorem kidsD_is {ok : List UInt8 → Bool} {K : List Int} {n : Nd} (h : oneN ok K n) : kidsD n = (kidsN n : Int) := by
  obtain ⟨-, h2, -⟩ := h
  unfold kidsD kidsN
  split
  · rfl
  · split at h2 <;> omega

/-- Behind a node with its parts (-1: they do not end). -/
def endD (l : List Nd) : Int := match endK 1 l with | some r => ((l.length - r.length : Nat) : Int) | none => -1
set_option maxRecDepth 100000 in
set_option maxHeartbeats 2000000 in
theorem refEnd_any (u : Value) (l : List Nd) (w : World) (hu : RdNds w u l) (hl : l.length ≤ 40) (hk : ∀ n ∈ l, kidsD n = (kidsN n : Int) ∧ kidsN n ≤ 40) :
    Calls Tryz.prog 14 #[u, .int .i64 0] w fun e w' => e = .returned (.int .i64 (endD l)) ∧ Ext w w' := by
  obtain ⟨ao, cap, rfl, -, -⟩ := hu.shape
  obtain ⟨-, h1, h2, hc⟩ := hu.plain
  have HC := Lib.hid hc
  have HK := Lib.hid hk
  unfold maxLen at h2
  obtain ⟨N, hN⟩ : ∃ N, l.length = N := ⟨_, rfl⟩
  have HN := Lib.hid hN
  rw [hN] at h1 hl ⊢
  clear hu hc hN hk
  go_enter Tryz.func14, Tryz.ntmps14
  go_wp2_with fail
  go_loopw [1, 5] (fun at_ need wr => ∃ (j m : Nat), j ≤ N ∧ at_ = .int .i64 j ∧ need = .int .i64 m ∧ m ≤ 1 + 40 * j ∧ endK 1 l = endK m (l.drop j) ∧ Ext w wr) (fun at_ _ _ => N - (intOf at_).toNat)
  case atStart => exact ⟨0, 1, Nat.zero_le _, rfl, rfl, by decide, rfl, Ext.keeps.refl _⟩
  case round =>
    obtain ⟨j, m, hj, rfl, rfl, hm, he, hx⟩ := hrel
    have HE := Lib.hid he
    have HX := Lib.hid hx
    clear he hx
    by_cases hm0 : 0 < m
    · have d0 : decide (0 < m) = true := decide_eq_true hm0
      have d0' : decide ((0 : Int) < (m : Int)) = true := decide_eq_true (by omega)
      by_cases hlt : j < N
      · have d1 : decide (N ≤ j) = false := decide_eq_false (by omega)
        have d1' : decide ((N : Int) ≤ (j : Int)) = false := decide_eq_false (by omega)
        have hjl : j < l.length := by have := HN.out; omega
        obtain ⟨g, off, rfl, c0, c1, c2, c3, c4, c5⟩ := HC.out j hjl
        have x0 := (HX.out.cell (lt_of_cell c0)).trans c0
        have x1 := (HX.out.cell (lt_of_cell c1)).trans c1
        have x2 := (HX.out.cell (lt_of_cell c2)).trans c2
        have x3 := (HX.out.cell (lt_of_cell c3)).trans c3
        have x4 := (HX.out.cell (lt_of_cell c4)).trans c4
        have x5 := (HX.out.cell (lt_of_cell c5)).trans c5
        have HKN := Lib.hid (fun W => refKids_any l[j] W)
        have HKM := Lib.hid (HK.out _ (List.getElem_mem hjl))
        have HST := Lib.hid (show endK 1 l = endK (m - 1 + kidsN l[j]) (l.drop (j + 1)) by rw [HE.out, List.drop_eq_getElem_cons hjl, show m = (m - 1) + 1 by omega, endK_cons]; rfl)
        rw [HKM.out.1] at HKN
        generalize l[j] = nd at x0 x1 x2 x3 x4 x5 HKN HKM HST
        have hkm := HKM.out.2
        generalize kidsN nd = kn at HKN HST hkm
        obtain ⟨o, c, kd, ⟨vk, vn, vs⟩⟩ := nd
        unfold Nd.val at HKN
        simp only at x0 x1 x2 x3 x4 x5 HKN
        clear c0 c1 c2 c3 c4 c5 hjl
        go_wp2_with fail
        refine (HKN.out _).mono ?_
        rintro e w1 ⟨rfl, hx⟩
        have HX1 := Lib.hid (Ext.trans HX.out hx)
        clear hx
        go_wp2_with fail
        go_roundw
        case rel => exact ⟨j + 1, m - 1 + kn, by omega, by go_num, by congr 1; omega, by omega, HST.out, HX1.out⟩
        case measure => simp [intOf]; omega
      · have d1 : decide (N ≤ j) = true := decide_eq_true (by omega)
        have d1' : decide ((N : Int) ≤ (j : Int)) = true := decide_eq_true (by omega)
        have HQ := Lib.hid (show endD l = -1 by unfold endD; rw [HE.out, List.drop_eq_nil_of_le (by have := HN.out; omega), show m = (m - 1) + 1 by omega, endK_nil])
        go_wp2_with fail
        go_ret
        exact ⟨by rw [HQ.out]; rfl, HX.out⟩
    · have hm1 : m = 0 := by omega
      subst hm1
      have HQ := Lib.hid (show endD l = (j : Int) by unfold endD; rw [HE.out, endK_zero]; simp only; rw [List.length_drop]; have := HN.out; omega)
      clear hm0
      go_wp2_with fail
      go_ret
      exact ⟨by rw [HQ.out]; rfl, HX.out⟩

theorem end_right {l : List Nd} : endD l = (l.length : Int) ↔ endK 1 l = some [] := by
  unfold endD
  cases h : endK 1 l with
  | none => simp
  | some r =>
    have := endK_len l 1 r h
    simp only [Option.some.injEq]
    constructor
    · intro h'; exact List.length_eq_zero_iff.1 (by omega)
    · intro h'; subst h'; simp

set_option maxRecDepth 100000 in
set_option maxHeartbeats 2000000 in
theorem refRight14_any (u v : Value) (K : List Int) (l : List Nd) (w : World) (hu : RdV w u (K.map (Value.int .u8))) (hK : K.length ≤ 1000000) (hv : RdNds w v l) (hf : FitN 5000 l) (hT : Tabs w) :
    Calls Tryz.prog 6 #[u, v] w fun e w' => e = .returned (.int .i64 (errA okP K l)) ∧ Ext w w' := by
  have HO := Lib.hid (fun (n : Nd) (hn : n ∈ l) W (h : Ext w W) => refOne_any u K n W (hu.mono h) hK (hT.mono h) (hf n hn).1.v (hf n hn).2)
  have HEN := Lib.hid (fun (hl : l.length ≤ 40) (ha : ∀ n ∈ l, oneN okP K n) W (h : Ext w W) => refEnd_any v l W (hv.mono h) hl fun n hn => ⟨kidsD_is (ha n hn), (oneN_kids (ha n hn)).1⟩)
  obtain ⟨uo, uc, rfl, k1, k2, -⟩ := RdV.cellsAt hu
  rw [List.length_map] at *
  obtain ⟨ao, cap, rfl, -, -⟩ := hv.shape
  obtain ⟨-, h1, h2, hc⟩ := hv.plain
  have HC := Lib.hid hc
  unfold maxLen at h2
  obtain ⟨N, hN⟩ : ∃ N, l.length = N := ⟨_, rfl⟩
  have HN := Lib.hid hN
  rw [hN] at h1 HEN ⊢
  generalize K.length = KN at *
  have HQN := Lib.hid (show ¬ rightA okP K l → errA okP K l = 140 from fun h => if_neg h)
  have HQY := Lib.hid (show rightA okP K l → errA okP K l = 0 from fun h => if_pos h)
  have HRA := Lib.hid (show rightA okP K l ↔ (1 ≤ l.length ∧ l.length ≤ 40) ∧ (∀ n ∈ l, oneN okP K n) ∧ endK 1 l = some [] from Iff.rfl)
  clear hu hv hc hN hf hT
  by_cases hl1 : N < 1
  · have hN0 : N = 0 := by omega
    have HQ := Lib.hid (HQN.out (fun h => by have := (HRA.out.1 h).1; have := HN.out; omega))
    clear hl1
    subst hN0
    go_enter Tryz.func6, Tryz.ntmps6
    go_wp2_with fail
    go_ret
    exact ⟨by rw [HQ.out]; rfl, Ext.keeps.refl _⟩
  · have d1 : decide (N < 1) = false := decide_eq_false hl1
    have d1' : decide ((N : Int) < (1 : Int)) = false := decide_eq_false (by omega)
    by_cases hl2 : 40 < N
    · have d2 : decide (40 < N) = true := decide_eq_true hl2
      have d2' : decide ((40 : Int) < (N : Int)) = true := decide_eq_true (by omega)
      have HQ := Lib.hid (HQN.out (fun h => by have := (HRA.out.1 h).1; have := HN.out; omega))
      clear hl1 hl2
      go_enter Tryz.func6, Tryz.ntmps6
      go_wp2_with fail
      go_ret
      exact ⟨by rw [HQ.out]; rfl, Ext.keeps.refl _⟩
    · have d2 : decide (40 < N) = false := decide_eq_false hl2
      have d2' : decide ((40 : Int) < (N : Int)) = false := decide_eq_false (by omega)
      have hl : N ≤ 40 := by omega
      have hl0 : 1 ≤ N := by omega
      clear hl1 hl2
      go_enter Tryz.func6, Tryz.ntmps6
      go_wp2_with fail
      go_loopw [5] (fun i wr => ∃ j : Nat, j ≤ N ∧ i = .int .i64 j ∧ (∀ n ∈ l.take j, oneN okP K n) ∧ Ext w wr) (fun i _ => N - (intOf i).toNat)
      case atStart => exact ⟨0, Nat.zero_le _, rfl, fun n hn => by simp at hn, Ext.keeps.refl _⟩
      case round =>
        obtain ⟨j, hj, rfl, ha, hx⟩ := hrel
        have HA := Lib.hid ha
        have HX := Lib.hid hx
        clear ha hx
        by_cases hlt : j < N
        · have hjl : j < l.length := by have := HN.out; omega
          obtain ⟨g, off, rfl, c0, c1, c2, c3, c4, c5⟩ := HC.out j hjl
          have x0 := (HX.out.cell (lt_of_cell c0)).trans c0
          have x1 := (HX.out.cell (lt_of_cell c1)).trans c1
          have x2 := (HX.out.cell (lt_of_cell c2)).trans c2
          have x3 := (HX.out.cell (lt_of_cell c3)).trans c3
          have x4 := (HX.out.cell (lt_of_cell c4)).trans c4
          have x5 := (HX.out.cell (lt_of_cell c5)).trans c5
          have HS := Lib.hid (List.take_succ_eq_append_getElem hjl)
          have HM := Lib.hid (List.getElem_mem hjl)
          have HO1 := Lib.hid (HO.out _ HM.out wr HX.out)
          generalize l[j] = nd at x0 x1 x2 x3 x4 x5 HS HM HO1
          have HD := Lib.hid (show ∀ b, decide (oneN okP K nd) = b → (b = true ↔ oneN okP K nd) from fun b h => by rw [← h]; exact decide_eq_true_iff)
          obtain ⟨b, hb⟩ : ∃ b, decide (oneN okP K nd) = b := ⟨_, rfl⟩
          have HB := Lib.hid (HD.out b hb)
          rw [hb] at HO1
          clear hb HD
          obtain ⟨o, c, kd, ⟨vk, vn, vs⟩⟩ := nd
          unfold Nd.val at HO1
          simp only at x0 x1 x2 x3 x4 x5 HO1
          clear c0 c1 c2 c3 c4 c5 hjl
          go_wp2_with fail
          refine HO1.out.mono ?_
          rintro e w1 ⟨rfl, hx⟩
          have HX1 := Lib.hid (Ext.trans HX.out hx)
          clear hx
          cases b with
          | true =>
            go_wp2_with fail
            go_roundw
            case rel => exact ⟨j + 1, by omega, by go_num, fun n hn => by
              rw [HS.out] at hn
              rcases List.mem_append.1 hn with hn | hn
              · exact HA.out n hn
              · rw [List.mem_singleton.1 hn]; exact HB.out.1 (by first | rfl | trivial), HX1.out⟩
            case measure => simp [intOf]; omega
          | false =>
            have HQ := Lib.hid (HQN.out (fun h => by have := HB.out.2 ((HRA.out.1 h).2.1 _ HM.out); cases this))
            go_wp2_with fail
            go_ret
            exact ⟨by rw [HQ.out]; rfl, HX1.out⟩
        · have e : j = N := by omega
          subst e
          have HALL := Lib.hid (show ∀ n ∈ l, oneN okP K n from fun n hn => HA.out n (by rwa [List.take_of_length_le (by have := HN.out; omega)]))
          have HE2 := Lib.hid (HEN.out (by omega) HALL.out wr HX.out)
          have HER := Lib.hid (end_right (l := l))
          generalize endD l = ed at HE2 HER
          by_cases hed : ed = (j : Int)
          · have q : (ed != (j : Int)) = false := by simp [hed]
            have HQ := Lib.hid (HQY.out (HRA.out.2 ⟨by have := HN.out; omega, HALL.out, HER.out.1 (by rw [hed, HN.out])⟩))
            clear hed
            go_wp2_with fail
            refine HE2.out.mono ?_
            rintro e w1 ⟨rfl, hx⟩
            have HX1 := Lib.hid (Ext.trans HX.out hx)
            clear hx
            go_wp2_with fail
            go_ret
            exact ⟨by rw [HQ.out]; rfl, HX1.out⟩
          · have q : (ed != (j : Int)) = true := bne_iff_ne.2 hed
            have HQ := Lib.hid (HQN.out (fun h => hed (by rw [HER.out.2 (HRA.out.1 h).2.2, HN.out])))
            clear hed
            go_wp2_with fail
            refine HE2.out.mono ?_
            rintro e w1 ⟨rfl, hx⟩
            have HX1 := Lib.hid (Ext.trans HX.out hx)
            clear hx
            go_wp2_with fail
            go_ret
            exact ⟨by rw [HQ.out]; rfl, HX1.out⟩

end Go.Proofs.YtfnmcdjfdhdlmaaGreatDoor

/-
  append to a row of one's own: where the row lies behind it (in its own block, or in a new one). Over any program.
-/
namespace Go.Proofs.YtfnmcdjfdhdlmaaGreatDoor
open Go.RowKit

theorem run_append_block {P : Program} (w : World) (base : Nat) (t ty e : TypeId) (i : TypeInfo) (z : Value) (size bytes : Nat) (ht : P.underlying t = some (.slice e)) (hi : P.info? e = some i) (hz : i.zero = some z)
    (hsize : i.size = size) (hby : i.bytes = bytes) (hzs : z.cells.size = size) (hsz : 0 < size)
    (v : Value) (n : Nat) (xs : List Value) (hown : w.ownsRow base e size v n xs)
    (a : Addr) (m c : Nat) (news : List Value) (hl : news.length = m * size) (hnews : ∀ j u, news[j]? = some u → w.cell? (a.add j) = some u) (h1 : ∀ u ∈ news, u.oneCell' = true)
    (h63 : n + m ≤ maxLen) (hbytes : (n + m) * bytes ≤ 140737488355328) (hbase : base ≤ w.heap.size) :
    ∃ v' w', (Builtin.append_ #[t, t] ty #[v, .slice (some a) m c]).run P w = .ok v' w' ∧ w'.ownsRow base e size v' (n + m) (xs ++ news) ∧ w.grownBy w' v.ownBlock ∧
      (v'.ownBlock = v.ownBlock ∨ ∃ k, v'.ownBlock = some k ∧ w.heap.size ≤ k) := by
  obtain ⟨v', w', hrun, ho, hg, hn⟩ := run_append_own w base t ty e i z size bytes ht hi hz hsize hby hzs hsz v n xs hown a m c news hl hnews h1 h63 hbytes hbase
  refine ⟨v', w', hrun, ho, hg, ?_⟩
  subst hsize
  subst hby
  have hsmall : n + m ≤ 9223372036854775807 := by simp only [maxLen] at h63; omega
  rcases hown.2 with ⟨rfl, rfl⟩ | ⟨g, cap, cur, rfl, hbg, hg', hnc, hcm, hcs, htake⟩
  · by_cases hm : m = 0
    · left
      rw [hn.2 ⟨rfl, hm⟩]
    · have hr := run_append_nil (P := P) w t ty e i z ht hi hz a m c news hl hnews (by omega) (by omega) (by have hb := hbytes; simp only [Nat.zero_add] at hb; omega)
      rw [hr] at hrun
      simp only [Result.ok.injEq] at hrun
      right
      exact ⟨_, by rw [← hrun.1]; rfl, Nat.le_refl _⟩
  · by_cases hroom : n + m ≤ cap
    · have hfit : n * i.size + news.length ≤ cur.size := by rw [hl, hcs, ← Nat.add_mul]; exact Nat.mul_le_mul_right _ hroom
      have hr := run_append_room (P := P) w t ty e i ht hi g n cap cur hg' a m c news hl hnews h1 hroom hfit
      rw [hr] at hrun
      simp only [Result.ok.injEq] at hrun
      left
      rw [← hrun.1]
      rfl
    · have holds : ∀ j u, xs[j]? = some u → w.cell? ((⟨g, 0, none⟩ : Addr).add j) = some u := hown.cells (g := g) rfl
      have hr := run_append_grow (P := P) w t ty e i z ht hi hz ⟨g, 0, none⟩ n cap xs hown.1 holds a m c news hl hnews (by omega) (by omega) (growslice_fits (by omega) hbytes)
      rw [hr] at hrun
      simp only [Result.ok.injEq] at hrun
      right
      exact ⟨_, by rw [← hrun.1]; rfl, Nat.le_refl _⟩

/-- wpList_append_own, and where the row lies then. -/
theorem wpList_append_apart {P : Program} (w : World) {ops : Array Oper} {rest : List Oper} {o : Oper} {a : Act} {Q : Exit → Act → World → Prop} (hgd : o.guard = none) (s x : Operand) (t : TypeId)
    (ho : o.op = .call { callee := .builtin .append, args := #[s, x], argTypes := #[t, t] })
    (base : Nat) (e : TypeId) (i : TypeInfo) (z : Value) (size bytes : Nat) (ht : P.underlying t = some (.slice e)) (hi : P.info? e = some i) (hz : i.zero = some z)
    (hsize : i.size = size) (hby : i.bytes = bytes) (hzs : z.cells.size = size) (hsz : 0 < size)
    (v : Value) (n : Nat) (xs : List Value) (hs : a.eval s = v) (hown : w.ownsRow base e size v n xs)
    (ad : Addr) (m c : Nat) (news : List Value) (hx : a.eval x = .slice (some ad) m c) (hl : news.length = m * size) (hnews : ∀ j u, news[j]? = some u → w.cell? (ad.add j) = some u) (h1 : ∀ u ∈ news, u.oneCell' = true)
    (h63 : n + m ≤ maxLen) (hbytes : (n + m) * bytes ≤ 140737488355328) (hbase : base ≤ w.heap.size)
    (h : ∀ v' w', w'.ownsRow base e size v' (n + m) (xs ++ news) → w.grownBy w' v.ownBlock → (v'.ownBlock = v.ownBlock ∨ ∃ k, v'.ownBlock = some k ∧ w.heap.size ≤ k) → wpList P ops Q rest (a.put o.dst v') w') : wpList P ops Q (o :: rest) a w := by
  obtain ⟨v', w', hrun, k1, k2, k3⟩ := run_append_block (P := P) w base t o.type e i z size bytes ht hi hz hsize hby hzs hsz v n xs hown ad m c news hl hnews h1 h63 hbytes hbase
  refine wpList_plain hgd fun K hK => ?_
  have hkk := hK _ _ (h v' w' k1 k2 k3)
  unfold Oper.wp
  simp [execOp, ho, resolve, invoke, builtin, hs, hx, hrun, Result.andThen]
  exact hkk

end Go.Proofs.YtfnmcdjfdhdlmaaGreatDoor

/-
  Rows of the call's own that grow side by side: one element at a time. Over any program.
-/
namespace Go.Proofs.YtfnmcdjfdhdlmaaGreatDoor
open Go.RowKit

/-- u lies elsewhere than v. -/
def ApartV (u v : Value) : Prop := ∀ k, u.ownBlock = some k → v.ownBlock ≠ some k
theorem ApartV.symm {u v : Value} (h : ApartV u v) : ApartV v u := fun k h1 h2 => h k h2 h1
theorem ApartV.nil (u : Value) : ApartV u (.slice none 0 0) := fun _ _ h => by cases h
theorem ApartV.nil' (u : Value) : ApartV (.slice none 0 0) u := fun _ h => by cases h
/-- Where a row lies behind an append. -/
def Grew (w : World) (v v' : Value) : Prop := v'.ownBlock = v.ownBlock ∨ ∃ k, v'.ownBlock = some k ∧ w.heap.size ≤ k
theorem ApartV.grew {w : World} {u v v' : Value} (h : ApartV u v) (hu : ∀ k, u.ownBlock = some k → k < w.heap.size) (hg : Grew w v v') : ApartV u v' := by
  intro k hk hv
  rcases hg with e | ⟨k', e, hle⟩
  · exact h k hk (e ▸ hv)
  · rw [e] at hv
    have := hu k hk
    cases hv
    omega
/-- A row beside the one that grew. -/
theorem owns_beside {base n size : Nat} {e : TypeId} {w w' : World} {u v : Value} {xs : List Value} (h : w.ownsRow base e size u n xs) (ho : OnlyS (fun k => v.ownBlock = some k) w w') (ha : ApartV u v) : w'.ownsRow base e size u n xs := by
  refine ⟨h.1, ?_⟩
  rcases h.2 with hn | ⟨g, cap, cur, rfl, hb, hgg, rest⟩
  · exact .inl hn
  · refine .inr ⟨g, cap, cur, rfl, hb, ?_, rest⟩
    rw [ho.block g (Array.getElem?_eq_some_iff.1 hgg).1 (ha g rfl)]
    exact hgg
theorem owns_extS {base n size : Nat} {e : TypeId} {w w' : World} {u : Value} {xs : List Value} (h : w.ownsRow base e size u n xs) (hx : Ext w w') : w'.ownsRow base e size u n xs :=
  h.kept (row := none) ⟨hx.os, hx.tape, hx.output, hx.size, fun k hk _ => hx.block k hk⟩ (by cases u.ownBlock <;> simp)
/-- append(l, x) of one element that the call has just put into a row of its own. -/
theorem wpList_append_one {P : Program} {w : World} {ops : Array Oper} {rest : List Oper} {o : Oper} {a : Act} {Q : Exit → Act → World → Prop} (hgd : o.guard = none) (s x : Operand) (t : TypeId)
    (ho : o.op = .call { callee := .builtin .append, args := #[s, x], argTypes := #[t, t] })
    (base : Nat) (e : TypeId) (i : TypeInfo) (z : Value) (size bytes : Nat) (ht : P.underlying t = some (.slice e)) (hi : P.info? e = some i) (hz : i.zero = some z)
    (hsize : i.size = size) (hby : i.bytes = bytes) (hzs : z.cells.size = size) (hsz : 0 < size) (hb100 : bytes ≤ 1000)
    (v : Value) (n : Nat) (xs ys : List Value) (hs : a.eval s = v) (hown : w.ownsRow base e size v n xs) (hx : a.eval x = .slice (some ⟨w.heap.size, 0, none⟩) 1 1) (hl : ys.length = size) (h1 : ∀ u ∈ ys, u.oneCell' = true)
    (hn : n ≤ 10000000) (hbase : base ≤ w.heap.size)
    (h : ∀ v' w', w'.ownsRow base e size v' (n + 1) (xs ++ ys) → Below base w w' → OnlyS (fun k => v.ownBlock = some k) w w' → Grew w v v' → wpList P ops Q rest (a.put o.dst v') w') :
    wpList P ops Q (o :: rest) a (w.alloc (.cells ys.toArray e)) := by
  have hm : (n + 1) * bytes ≤ 140737488355328 := Nat.le_trans (Nat.mul_le_mul (show n + 1 ≤ 10000001 by omega) hb100) (by decide)
  refine wpList_append_apart _ hgd s x t ho base e i z size bytes ht hi hz hsize hby hzs hsz v n xs hs ?_ ⟨w.heap.size, 0, none⟩ 1 1 ys hx (by omega) (row_new w ys e) h1 (by unfold maxLen; omega) hm (by simp; omega) fun v' w' k1 k2 k3 => h v' w' k1 ?_ ?_ ?_
  · exact owns_extS hown (ext_new w _)
  · exact (((Below.refl base w).alloc hbase _).grown k2 (by simp; omega) (fun b hb => (hown.lt b hb).1))
  · exact (OnlyS.of_ext (ext_new w _)).trans (OnlyS.of_grown k2) (fun _ _ h => h)
  · rcases k3 with e | ⟨k, e, hle⟩
    · exact .inl e
    · refine .inr ⟨k, e, ?_⟩
      simp only [World.alloc, Array.size_push] at hle
      omega

end Go.Proofs.YtfnmcdjfdhdlmaaGreatDoor
