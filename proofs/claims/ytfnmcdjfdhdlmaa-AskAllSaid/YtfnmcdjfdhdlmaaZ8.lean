/-
  Texts of this proof, merged: AskP4, AskP5, AskEx.
-/
import Derived.Laws.EntriesVeiled
import Derived.Test.YtfnmcdjfdhdlmaaZ5
import Derived.Test.YtfnmcdjfdhdlmaaZ7
/-
  The program's contracts of conditions: what comes of a row.
-/
namespace Go.Proofs.Ytfnmcdjfdhdlmaa
section
open Go.RowKit Go.BigFrame

theorem pTruth14_any (b : Bool) (w : World) : Calls Try.prog 39 #[.bool b] w fun e w' => e = .returned (.int .u8 (if b = true then 2 else 0)) ∧ w' = w := by
  cases b with
  | true =>
    go_enter Try.func39, Try.ntmps39
    go_wp2_with fail
    go_ret
    exact ⟨rfl, rfl⟩
  | false =>
    go_enter Try.func39, Try.ntmps39
    go_wp2_with fail
    go_ret
    exact ⟨rfl, rfl⟩
theorem enters_not14 : ∀ args w, (callFunc 25 args).run Try.prog w = .ok (.enter 25 args) w := enters_of Try.func25 (by kernel_rfl) rfl
theorem enters_joined : ∀ args w, (callFunc 26 args).run Try.prog w = .ok (.enter 26 args) w := enters_of Try.func26 (by kernel_rfl) rfl
theorem enters_eval1 : ∀ args w, (callFunc 22 args).run Try.prog w = .ok (.enter 22 args) w := enters_of Try.func22 (by kernel_rfl) rfl
theorem joined_any (n : Nd) (a b : Int) (ha : tri a) (hb : tri b) (w : World) : Calls Try.prog 26 #[.int .u8 n.op, .int .u8 a, .int .u8 b] w fun e w' => e = .returned (.int .u8 (joinT n a b)) ∧ Ext w w' := by
  have HA := Lib.hid (fun W => And_any a b (tri_bounds ha) (tri_bounds hb) W)
  have HO := Lib.hid (fun W => Or_any a b (tri_bounds ha) (tri_bounds hb) W)
  have HJ := Lib.hid (show joinT n a b = if n.op = 2 then andT a b else orT a b from rfl)
  rw [HJ.out]
  generalize n.op = o at HJ ⊢
  clear ha hb HJ
  by_cases h : o = 2
  · subst h
    rw [if_pos rfl]
    go_enter Try.func26, Try.ntmps26
    go_wp2_with fail
    refine (HA.out _).mono ?_
    rintro e w1 ⟨rfl, hx⟩
    go_wp2_with fail
    go_ret
    exact ⟨rfl, hx⟩
  · rw [if_neg h]
    have q : (o == (2 : Int)) = false := beq_eq_false_iff_ne.2 h
    clear h
    go_enter Try.func26, Try.ntmps26
    go_wp2_with fail
    refine (HO.out _).mono ?_
    rintro e w1 ⟨rfl, hx⟩
    go_wp2_with fail
    go_ret
    exact ⟨rfl, hx⟩

/-- The value of a column. -/
def valC (r : List V) (c : Int) : V := if 0 ≤ c ∧ c < r.length then (r[c.toNat]?).getD V.zero else V.zero
set_option maxRecDepth 100000 in
theorem pValue_any (u : Value) (r : List V) (c : Int) (w : World) (hu : RdVals w u r) :
    Calls Try.prog 35 #[u, .int .i64 c] w fun e w' => e = .returned (valC r c).val ∧ Ext w w' := by
  obtain ⟨ao, cap, rfl, -, -⟩ := hu.shape
  obtain ⟨-, h1, h2, hc⟩ := hu.plain
  unfold maxLen at h2
  have HI := Lib.hid (fun W => in_any r.length c W)
  have HX := Lib.hid (ext_new w (.cells #[.int .u8 0, .int .i64 0, .string ⟨#[]⟩] 37))
  have HB := Lib.hid (Blk.new w [.int .u8 0, .int .i64 0, .string ⟨#[]⟩] 37)
  obtain ⟨N, hN⟩ : ∃ N, r.length = N := ⟨_, rfl⟩
  rw [hN] at HI h1 ⊢
  by_cases hin : 0 ≤ c ∧ c < (N : Int)
  · rw [decide_eq_true hin] at HI
    obtain ⟨j, rfl⟩ := Int.eq_ofNat_of_zero_le hin.1
    have hj : j < N := by omega
    have hjr : j < r.length := by omega
    obtain ⟨g, off, rfl, c0, c1, c2⟩ := hc j hjr
    have x0 := (HX.out.cell (lt_of_cell c0)).trans c0
    have x1 := (HX.out.cell (lt_of_cell c1)).trans c1
    have x2 := (HX.out.cell (lt_of_cell c2)).trans c2
    have HQ := Lib.hid (show valC r (j : Int) = r[j] by unfold valC; rw [if_pos (by omega), Int.toNat_natCast, List.getElem?_eq_getElem hjr]; rfl)
    rw [HQ.out]
    have HN := Lib.hid hN
    clear c0 c1 c2 hu hc hin hN
    generalize r[j] = v at x0 x1 x2 ⊢
    obtain ⟨vk, vn, vs⟩ := v
    unfold V.val
    simp only at x0 x1 x2 ⊢
    clear hjr HQ
    go_enter Try.func35, Try.ntmps35
    go_wp2_with fail
    refine (HI.out _).mono ?_
    rintro e w1 ⟨rfl, rfl⟩
    go_wp2_with fail
    have HB2 := Lib.hid (heap_alloc_new w (.cells #[.int .u8 vk, .int .i64 vn, .string ⟨vs.toArray⟩] 37))
    refine bodyPost_ret (results_cell_row (P := Try.prog) (fn := Try.f35) rfl _ _ w.heap.size 37 _ (0, 0) _ rfl HB2.out Try.underlying37 rfl (by kernel_rfl)) rfl ?_
    exact ⟨rfl, ext_new w _⟩
  · rw [decide_eq_false hin] at HI
    have HQ := Lib.hid (show valC r c = V.zero by unfold valC; rw [if_neg (by rw [hN]; exact hin)])
    rw [HQ.out]
    unfold V.val V.zero
    simp only
    clear hu hc hin hN HQ
    go_enter Try.func35, Try.ntmps35
    go_wp2_with fail
    refine (HI.out _).mono ?_
    rintro e w1 ⟨rfl, rfl⟩
    go_wp2_with fail
    refine bodyPost_ret (results_cell_row (P := Try.prog) (fn := Try.f35) rfl _ _ w.heap.size 37 _ (0, 0) _ rfl (heap_alloc_new _ _) Try.underlying37 rfl (by kernel_rfl)) rfl ?_
    exact ⟨rfl, ext_new w _⟩

def likeT (v : V) (p : List UInt8) : Int := if v.k = 0 then 1 else if isB p v.s = true then 2 else 0
theorem pIsLike_any (v : V) (p : List UInt8) (w : World) (hT : Tabs w) (hl : v.s.length ≤ 5000) (hp : p.length ≤ 5000) :
    Calls Try.prog 38 #[v.val, .string ⟨p.toArray⟩] w fun e w' => e = .returned (.int .u8 (likeT v p)) ∧ Ext w w' := by
  have HM := Lib.hid (fun W (h : Ext w W) => Match_any p v.s W (hT.mono h) hp hl)
  obtain ⟨vk, vn, vs⟩ := v
  have HX := Lib.hid (ext_new w (.cells #[.int .u8 vk, .int .i64 vn, .string ⟨vs.toArray⟩] 37))
  have HQ := Lib.hid (show likeT ⟨vk, vn, vs⟩ p = if vk = 0 then 1 else if isB p vs = true then 2 else 0 from rfl)
  rw [HQ.out]
  unfold V.val
  simp only at HM ⊢
  generalize isB p vs = b at HM ⊢
  generalize errN p = E at HM
  clear hT hl hp HQ
  by_cases h : vk = 0
  · subst h
    rw [if_pos rfl]
    go_enter Try.func38, Try.ntmps38
    go_wp2_with fail
    go_ret
    exact ⟨rfl, HX.out⟩
  · rw [if_neg h]
    have q : (vk == (0 : Int)) = false := beq_eq_false_iff_ne.2 h
    clear h
    have HTR := Lib.hid (fun W => pTruth14_any b W)
    generalize (if b = true then (2 : Int) else 0) = z at HTR ⊢
    go_enter Try.func38, Try.ntmps38
    go_wp2_with fail
    refine (HM.out _ HX.out).mono ?_
    rintro e w1 ⟨rfl, hx⟩
    have HX1 := Lib.hid (Ext.trans HX.out hx)
    clear hx
    go_wp2_with fail
    refine (HTR.out _).mono ?_
    rintro e w2 ⟨rfl, rfl⟩
    go_wp2_with fail
    go_ret
    exact ⟨rfl, HX1.out⟩

theorem valC_fit {r : List V} {n : Nat} (h : FitV n r) (c : Int) : (valC r c).fits ∧ (valC r c).s.length ≤ n := by
  unfold valC
  have h0 : V.zero.fits ∧ V.zero.s.length ≤ n := ⟨⟨by decide, by decide, by decide, by decide⟩, Nat.zero_le _⟩
  split
  · rename_i hc
    rw [List.getElem?_eq_getElem (by omega), Option.getD_some]
    exact h _ (List.getElem_mem _)
  · exact h0

set_option maxRecDepth 100000 in
set_option maxHeartbeats 2000000 in
theorem pOfRow_any (n : Nd) (u : Value) (r : List V) (w : World) (hT : Tabs w) (hn : n.v.fits ∧ n.v.s.length ≤ 5000) (hu : RdVals w u r) (hr : FitV 5000 r) :
    Calls Try.prog 23 #[n.val, u] w fun e w' => e = .returned (.int .u8 (leafR isB r n)) ∧ Ext w w' := by
  have hvf := valC_fit hr n.col
  have HV := Lib.hid (fun W (h : Ext w W) => pValue_any u r n.col W (hu.mono h))
  have HE := Lib.hid (fun W => Equal_any (valC r n.col) n.v hvf.1 hn.1 hvf.2 hn.2 W)
  have HL := Lib.hid (fun W => Less_any (valC r n.col) n.v hvf.1 hn.1 hvf.2 hn.2 W)
  have HK := Lib.hid (fun W (h : Ext w W) => pIsLike_any (valC r n.col) n.v.s W (hT.mono h) hvf.2 hn.2)
  have HQ := Lib.hid (show leafR isB r n = if n.op = 1 then 2 else if n.op = 5 then equalT (valC r n.col) n.v else if n.op = 6 then lessT (valC r n.col) n.v else if n.op = 7 then likeT (valC r n.col) n.v.s else if (valC r n.col).k = 0 then 2 else 0 from rfl)
  rw [HQ.out]
  obtain ⟨o, c, kd, ⟨vk, vn, vs⟩⟩ := n
  simp only at HV HE HL HK hvf ⊢
  generalize valC r c = x at HV HE HL HK ⊢
  obtain ⟨xk, xn, xs⟩ := x
  unfold V.val at HV HE HL HK
  unfold Nd.val
  simp only at HV HE HL HK ⊢
  have HB := Lib.hid (Blk.new w [.int .u8 o, .int .i64 c, .int .i64 kd, .int .u8 vk, .int .i64 vn, .string ⟨vs.toArray⟩] 39)
  have HX := Lib.hid (ext_new w (.cells #[.int .u8 o, .int .i64 c, .int .i64 kd, .int .u8 vk, .int .i64 vn, .string ⟨vs.toArray⟩] 39))
  obtain ⟨ao, cap, rfl, h1, h2⟩ := hu.shape
  generalize r.length = N at *
  clear hu hr hT hn hvf HQ
  by_cases ho1 : o = 1
  · subst ho1
    rw [if_pos rfl]
    go_enter Try.func23, Try.ntmps23
    go_wp2_with fail
    go_ret
    exact ⟨rfl, HX.out⟩
  · rw [if_neg ho1]
    have q1 : (o == (1 : Int)) = false := beq_eq_false_iff_ne.2 ho1
    clear ho1
    by_cases ho5 : o = 5
    · subst ho5
      rw [if_pos rfl]
      go_enter Try.func23, Try.ntmps23
      go_wp2_with fail
      refine (HV.out _ HX.out).mono ?_
      rintro e w1 ⟨rfl, hx⟩
      have HX1 := Lib.hid (Ext.trans HX.out hx)
      have HX2 := Lib.hid (Ext.trans HX1.out (ext_new w1 (.cells #[.int .u8 xk, .int .i64 xn, .string ⟨xs.toArray⟩] 37)))
      have HB1 := Lib.hid (HB.out.ext hx)
      clear hx
      have e0 : ∀ ob, (w1.alloc ob).cell? ⟨w.heap.size, 0, none⟩ = some (.int .u8 5) := fun ob => (HB1.out.ext (ext_new w1 ob)).cell 0 _ rfl
      have e3 : ∀ ob, (w1.alloc ob).cell? ⟨w.heap.size, 3, none⟩ = some (.int .u8 vk) := fun ob => (HB1.out.ext (ext_new w1 ob)).cell 3 _ rfl
      have e4 : ∀ ob, (w1.alloc ob).cell? ⟨w.heap.size, 4, none⟩ = some (.int .i64 vn) := fun ob => (HB1.out.ext (ext_new w1 ob)).cell 4 _ rfl
      have e5 : ∀ ob, (w1.alloc ob).cell? ⟨w.heap.size, 5, none⟩ = some (.string ⟨vs.toArray⟩) := fun ob => (HB1.out.ext (ext_new w1 ob)).cell 5 _ rfl
      go_wp2_with fail
      refine (HE.out _).mono ?_
      rintro e w2 ⟨rfl, hx⟩
      have HX3 := Lib.hid (Ext.trans HX2.out hx)
      clear hx
      go_wp2_with fail
      go_ret
      exact ⟨rfl, HX3.out⟩
    · rw [if_neg ho5]
      have q5 : (o == (5 : Int)) = false := beq_eq_false_iff_ne.2 ho5
      clear ho5
      by_cases ho6 : o = 6
      · subst ho6
        rw [if_pos rfl]
        go_enter Try.func23, Try.ntmps23
        go_wp2_with fail
        refine (HV.out _ HX.out).mono ?_
        rintro e w1 ⟨rfl, hx⟩
        have HX1 := Lib.hid (Ext.trans HX.out hx)
        have HX2 := Lib.hid (Ext.trans HX1.out (ext_new w1 (.cells #[.int .u8 xk, .int .i64 xn, .string ⟨xs.toArray⟩] 37)))
        have HB1 := Lib.hid (HB.out.ext hx)
        clear hx
        have e0 : ∀ ob, (w1.alloc ob).cell? ⟨w.heap.size, 0, none⟩ = some (.int .u8 6) := fun ob => (HB1.out.ext (ext_new w1 ob)).cell 0 _ rfl
        have e3 : ∀ ob, (w1.alloc ob).cell? ⟨w.heap.size, 3, none⟩ = some (.int .u8 vk) := fun ob => (HB1.out.ext (ext_new w1 ob)).cell 3 _ rfl
        have e4 : ∀ ob, (w1.alloc ob).cell? ⟨w.heap.size, 4, none⟩ = some (.int .i64 vn) := fun ob => (HB1.out.ext (ext_new w1 ob)).cell 4 _ rfl
        have e5 : ∀ ob, (w1.alloc ob).cell? ⟨w.heap.size, 5, none⟩ = some (.string ⟨vs.toArray⟩) := fun ob => (HB1.out.ext (ext_new w1 ob)).cell 5 _ rfl
        go_wp2_with fail
        refine (HL.out _).mono ?_
        rintro e w2 ⟨rfl, hx⟩
        have HX3 := Lib.hid (Ext.trans HX2.out hx)
        clear hx
        go_wp2_with fail
        go_ret
        exact ⟨rfl, HX3.out⟩
      · rw [if_neg ho6]
        have q6 : (o == (6 : Int)) = false := beq_eq_false_iff_ne.2 ho6
        clear ho6
        by_cases ho7 : o = 7
        · subst ho7
          rw [if_pos rfl]
          go_enter Try.func23, Try.ntmps23
          go_wp2_with fail
          refine (HV.out _ HX.out).mono ?_
          rintro e w1 ⟨rfl, hx⟩
          have HX1 := Lib.hid (Ext.trans HX.out hx)
          have HX2 := Lib.hid (Ext.trans HX1.out (ext_new w1 (.cells #[.int .u8 xk, .int .i64 xn, .string ⟨xs.toArray⟩] 37)))
          have HB1 := Lib.hid (HB.out.ext hx)
          clear hx
          have e0 : ∀ ob, (w1.alloc ob).cell? ⟨w.heap.size, 0, none⟩ = some (.int .u8 7) := fun ob => (HB1.out.ext (ext_new w1 ob)).cell 0 _ rfl
          have e3 : ∀ ob, (w1.alloc ob).cell? ⟨w.heap.size, 3, none⟩ = some (.int .u8 vk) := fun ob => (HB1.out.ext (ext_new w1 ob)).cell 3 _ rfl
          have e4 : ∀ ob, (w1.alloc ob).cell? ⟨w.heap.size, 4, none⟩ = some (.int .i64 vn) := fun ob => (HB1.out.ext (ext_new w1 ob)).cell 4 _ rfl
          have e5 : ∀ ob, (w1.alloc ob).cell? ⟨w.heap.size, 5, none⟩ = some (.string ⟨vs.toArray⟩) := fun ob => (HB1.out.ext (ext_new w1 ob)).cell 5 _ rfl
          go_wp2_with fail
          refine (HK.out _ HX2.out).mono ?_
          rintro e w2 ⟨rfl, hx⟩
          have HX3 := Lib.hid (Ext.trans HX2.out hx)
          clear hx
          go_wp2_with fail
          go_ret
          exact ⟨rfl, HX3.out⟩
        · rw [if_neg ho7]
          have q7 : (o == (7 : Int)) = false := beq_eq_false_iff_ne.2 ho7
          clear ho7
          by_cases hx0 : xk = 0
          · rw [if_pos hx0]
            subst hx0
            go_enter Try.func23, Try.ntmps23
            go_wp2_with fail
            refine (HV.out _ HX.out).mono ?_
            rintro e w1 ⟨rfl, hx⟩
            have HX1 := Lib.hid (Ext.trans HX.out hx)
            have HX2 := Lib.hid (Ext.trans HX1.out (ext_new w1 (.cells #[.int .u8 0, .int .i64 xn, .string ⟨xs.toArray⟩] 37)))
            have HB1 := Lib.hid (HB.out.ext hx)
            clear hx
            have e0 : ∀ ob, (w1.alloc ob).cell? ⟨w.heap.size, 0, none⟩ = some (.int .u8 o) := fun ob => (HB1.out.ext (ext_new w1 ob)).cell 0 _ rfl
            have e3 : ∀ ob, (w1.alloc ob).cell? ⟨w.heap.size, 3, none⟩ = some (.int .u8 vk) := fun ob => (HB1.out.ext (ext_new w1 ob)).cell 3 _ rfl
            have e4 : ∀ ob, (w1.alloc ob).cell? ⟨w.heap.size, 4, none⟩ = some (.int .i64 vn) := fun ob => (HB1.out.ext (ext_new w1 ob)).cell 4 _ rfl
            have e5 : ∀ ob, (w1.alloc ob).cell? ⟨w.heap.size, 5, none⟩ = some (.string ⟨vs.toArray⟩) := fun ob => (HB1.out.ext (ext_new w1 ob)).cell 5 _ rfl
            go_wp2_with fail
            refine (pTruth14_any _ _).mono ?_
            rintro e w2 ⟨rfl, rfl⟩
            go_wp2_with fail
            go_ret
            exact ⟨rfl, HX2.out⟩
          · rw [if_neg hx0]
            have q0 : (xk == (0 : Int)) = false := beq_eq_false_iff_ne.2 hx0
            clear hx0
            go_enter Try.func23, Try.ntmps23
            go_wp2_with fail
            refine (HV.out _ HX.out).mono ?_
            rintro e w1 ⟨rfl, hx⟩
            have HX1 := Lib.hid (Ext.trans HX.out hx)
            have HX2 := Lib.hid (Ext.trans HX1.out (ext_new w1 (.cells #[.int .u8 xk, .int .i64 xn, .string ⟨xs.toArray⟩] 37)))
            have HB1 := Lib.hid (HB.out.ext hx)
            clear hx
            have e0 : ∀ ob, (w1.alloc ob).cell? ⟨w.heap.size, 0, none⟩ = some (.int .u8 o) := fun ob => (HB1.out.ext (ext_new w1 ob)).cell 0 _ rfl
            have e3 : ∀ ob, (w1.alloc ob).cell? ⟨w.heap.size, 3, none⟩ = some (.int .u8 vk) := fun ob => (HB1.out.ext (ext_new w1 ob)).cell 3 _ rfl
            have e4 : ∀ ob, (w1.alloc ob).cell? ⟨w.heap.size, 4, none⟩ = some (.int .i64 vn) := fun ob => (HB1.out.ext (ext_new w1 ob)).cell 4 _ rfl
            have e5 : ∀ ob, (w1.alloc ob).cell? ⟨w.heap.size, 5, none⟩ = some (.string ⟨vs.toArray⟩) := fun ob => (HB1.out.ext (ext_new w1 ob)).cell 5 _ rfl
            go_wp2_with fail
            refine (pTruth14_any _ _).mono ?_
            rintro e w2 ⟨rfl, rfl⟩
            go_wp2_with fail
            go_ret
            exact ⟨rfl, HX2.out⟩

theorem evalLeaf_any (n : Nd) (u : Value) (r : List V) (kb : Nat) (w : World) (hkb : w.cell? ⟨kb, 0, none⟩ = some u) (hT : Tabs w) (hn : n.v.fits ∧ n.v.s.length ≤ 5000) (hu : RdVals w u r) (hr : FitV 5000 r) :
    Calls Try.prog 22 #[n.val, .pointer (some ⟨kb, 0, none⟩)] w fun e w' => e = .returned (.int .u8 (leafR isB r n)) ∧ Ext w w' := by
  have HF := Lib.hid (fun W (h : Ext w W) => pOfRow_any n u r W (hT.mono h) hn (hu.mono h) hr)
  obtain ⟨o, c, kd, ⟨vk, vn, vs⟩⟩ := n
  have HX := Lib.hid (ext_new w (.cells #[.int .u8 o, .int .i64 c, .int .i64 kd, .int .u8 vk, .int .i64 vn, .string ⟨vs.toArray⟩] 39))
  have x0 := (HX.out.cell (lt_of_cell hkb)).trans hkb
  obtain ⟨ao, cap, rfl, -, -⟩ := hu.shape
  generalize r.length = N at *
  generalize leafR isB r ⟨o, c, kd, ⟨vk, vn, vs⟩⟩ = z at HF ⊢
  unfold Nd.val at HF ⊢
  simp only at HF ⊢
  clear hu hr hT hn hkb
  go_enter Try.func22, Try.ntmps22
  go_wp2_with fail
  refine (HF.out _ HX.out).mono ?_
  rintro e w1 ⟨rfl, hx⟩
  have HX1 := Lib.hid (Ext.trans HX.out hx)
  clear hx
  go_wp2_with fail
  go_ret
  exact ⟨rfl, HX1.out⟩

/-- Five cells that were made one behind the other, and the last of them stored. -/
theorem five_made (w : World) (a b c d e f : Value) (t1 t2 t3 t4 t5 : TypeId) : ((((((w.alloc (.cells #[a] t1)).alloc (.cells #[b] t2)).alloc (.cells #[c] t3)).alloc (.cells #[d] t4)).alloc (.cells #[e] t5)).cell? ⟨w.heap.size + 1 + 1 + 1 + 1, 0, none⟩ = some e) ∧
    ((((((w.alloc (.cells #[a] t1)).alloc (.cells #[b] t2)).alloc (.cells #[c] t3)).alloc (.cells #[d] t4)).alloc (.cells #[e] t5)).frozen? ⟨w.heap.size + 1 + 1 + 1 + 1, 0, none⟩ = false) ∧
    ∃ W, W = (((((w.alloc (.cells #[a] t1)).alloc (.cells #[b] t2)).alloc (.cells #[c] t3)).alloc (.cells #[d] t4)).alloc (.cells #[e] t5)).setCell ⟨w.heap.size + 1 + 1 + 1 + 1, 0, none⟩ f ∧ Ext w W ∧
      W.cell? ⟨w.heap.size, 0, none⟩ = some a ∧ W.cell? ⟨w.heap.size + 1, 0, none⟩ = some b ∧ W.cell? ⟨w.heap.size + 1 + 1, 0, none⟩ = some c ∧ W.cell? ⟨w.heap.size + 1 + 1 + 1, 0, none⟩ = some d ∧ W.cell? ⟨w.heap.size + 1 + 1 + 1 + 1, 0, none⟩ = some f := by
  have s1 : (w.alloc (.cells #[a] t1)).heap.size = w.heap.size + 1 := by simp only [World.alloc, Array.size_push]
  generalize hW1 : w.alloc (.cells #[a] t1) = W1 at s1 ⊢
  have s2 : (W1.alloc (.cells #[b] t2)).heap.size = w.heap.size + 1 + 1 := by rw [← s1]; simp only [World.alloc, Array.size_push]
  generalize hW2 : W1.alloc (.cells #[b] t2) = W2 at s2 ⊢
  have s3 : (W2.alloc (.cells #[c] t3)).heap.size = w.heap.size + 1 + 1 + 1 := by rw [← s2]; simp only [World.alloc, Array.size_push]
  generalize hW3 : W2.alloc (.cells #[c] t3) = W3 at s3 ⊢
  have s4 : (W3.alloc (.cells #[d] t4)).heap.size = w.heap.size + 1 + 1 + 1 + 1 := by rw [← s3]; simp only [World.alloc, Array.size_push]
  generalize hW4 : W3.alloc (.cells #[d] t4) = W4 at s4 ⊢
  have b1 : Blk W1 w.heap.size [a] t1 := by rw [← hW1]; exact Blk.new w [a] t1
  have b2 : Blk W2 (w.heap.size + 1) [b] t2 := by rw [← hW2, ← s1]; exact Blk.new W1 [b] t2
  have b3 : Blk W3 (w.heap.size + 1 + 1) [c] t3 := by rw [← hW3, ← s2]; exact Blk.new W2 [c] t3
  have b4 : Blk W4 (w.heap.size + 1 + 1 + 1) [d] t4 := by rw [← hW4, ← s3]; exact Blk.new W3 [d] t4
  have b5 : Blk (W4.alloc (.cells #[e] t5)) (w.heap.size + 1 + 1 + 1 + 1) [e] t5 := by rw [← s4]; exact Blk.new W4 [e] t5
  have x1 : Ext w W1 := by rw [← hW1]; exact ext_new _ _
  have x2 : Ext W1 W2 := by rw [← hW2]; exact ext_new _ _
  have x3 : Ext W2 W3 := by rw [← hW3]; exact ext_new _ _
  have x4 : Ext W3 W4 := by rw [← hW4]; exact ext_new _ _
  have x5 : Ext W4 (W4.alloc (.cells #[e] t5)) := ext_new _ _
  refine ⟨b5.cell 0 _ rfl, b5.free 0, _, rfl, Below.setCell (Ext.trans (Ext.trans (Ext.trans (Ext.trans x1 x2) x3) x4) x5) (by show w.heap.size ≤ w.heap.size + 1 + 1 + 1 + 1; omega) _, ?_, ?_, ?_, ?_, (b5.set 0 f).cell 0 _ rfl⟩
  · exact (Blk.beside ((((b1.ext x2).ext x3).ext x4).ext x5) (by omega) 0 f).cell 0 _ rfl
  · exact (Blk.beside (((b2.ext x3).ext x4).ext x5) (by omega) 0 f).cell 0 _ rfl
  · exact (Blk.beside ((b3.ext x4).ext x5) (by omega) 0 f).cell 0 _ rfl
  · exact (Blk.beside (b4.ext x5) (by omega) 0 f).cell 0 _ rfl

set_option maxRecDepth 100000 in
set_option maxHeartbeats 2000000 in
theorem pJudge8_any (GL GN GJ : Nat) (pr u : Value) (l : List Nd) (leaf : Nd → Int) (nt : Int → Int) (jn : Nd → Int → Int → Int) (P : Int → Prop) (w : World)
    (heL : ∀ args w, (callFunc GL args).run Try.prog w = .ok (.enter GL args) w) (heN : ∀ args w, (callFunc GN args).run Try.prog w = .ok (.enter GN args) w) (heJ : ∀ args w, (callFunc GJ args).run Try.prog w = .ok (.enter GJ args) w)
    (hL : ∀ n ∈ l, ∀ W, Ext w W → Calls Try.prog GL #[n.val, pr] W fun e w' => e = .returned (.int .u8 (leaf n)) ∧ Ext W w') (hPL : ∀ n, P (leaf n))
    (hN : ∀ a, P a → ∀ W, Calls Try.prog GN #[.int .u8 a] W fun e w' => e = .returned (.int .u8 (nt a)) ∧ Ext W w') (hPN : ∀ a, P a → P (nt a))
    (hJ : ∀ n a b, P a → P b → ∀ W, Calls Try.prog GJ #[.int .u8 (Nd.op n), .int .u8 a, .int .u8 b] W fun e w' => e = .returned (.int .u8 (jn n a b)) ∧ Ext W w') (hPJ : ∀ n a b, P a → P b → P (jn n a b))
    (hu : RdNds w u l) (hlen : l.length ≤ 40) (hm : ∀ n ∈ l, manyI n = (kidsN n : Int) ∧ kidsN n ≤ 40 ∧ (n.op = 4 → kidsN n = 1)) (he : endK 1 l = some []) :
    Calls Try.prog 24 #[u, .func (.func GL) #[] #[pr], .func (.func GN) #[] #[], .func (.func GJ) #[] #[]] w fun e w' => (∃ v : Int, stk (combG leaf nt jn) l = [v] ∧ e = .returned (.int .u8 v)) ∧ Ext w w' := by
  have HI := Lib.hid (fun W0 p0 p1 p2 p3 p4 (h : Ext w W0) hc => judgeIn8_any GL GN GJ pr u l leaf nt jn P W0 p0 p1 p2 p3 p4 heL heN heJ (fun n hn W hW => hL n hn W (Ext.trans h hW)) hPL hN hPN hJ hPJ (hu.mono h) hlen hm hc l.length 0 [] W0 (by omega) (Nat.zero_le _) (Ext.keeps.refl _) he)
  obtain ⟨ao, cap, rfl, -, -⟩ := hu.shape
  generalize hNl : l.length = N at *
  have hmf : ∀ (fn : Fn) (first cap : Array Value) (w : World), (Instr.makeFunc fn first cap).run Try.prog w = .ok (.func fn first cap) w := fun _ _ _ _ => rfl
  obtain ⟨hcl, hfr, W0, hW0, hx0, k0, k1, k3, k4, k2⟩ := five_made w (.slice ao N cap) (.func (.func GL) #[] #[pr]) (.func (.func GN) #[] #[]) (.func (.func GJ) #[] #[]) .nilFunc (.func (.func 40) #[] #[.pointer (some ⟨w.heap.size, 0, none⟩), .pointer (some ⟨w.heap.size + 1, 0, none⟩), .pointer (some ⟨w.heap.size + 1 + 1 + 1 + 1, 0, none⟩), .pointer (some ⟨w.heap.size + 1 + 1, 0, none⟩), .pointer (some ⟨w.heap.size + 1 + 1 + 1, 0, none⟩)]) 23 48 50 51 66
  have HC := Lib.hid (HI.out W0 w.heap.size (w.heap.size + 1) (w.heap.size + 1 + 1 + 1 + 1) (w.heap.size + 1 + 1) (w.heap.size + 1 + 1 + 1) hx0 ⟨k0, k1, k2, k3, k4⟩)
  have HEN := enters_judge8
  have HX0 := Lib.hid hx0
  have HZ2 := Lib.hid k2
  clear heL heN heJ hL hPL hN hPN hJ hPJ hu hlen hm he k0 k1 k2 k3 k4 hx0 HI
  go_enter Try.func24, Try.ntmps24
  go_upto_region 2 with fail
  generalize (((((w.alloc (.cells #[.slice ao N cap] 23)).alloc (.cells #[.func (.func GL) #[] #[pr]] 48)).alloc (.cells #[.func (.func GN) #[] #[]] 50)).alloc (.cells #[.func (.func GJ) #[] #[]] 51)).alloc (.cells #[.nilFunc] 66)) = W5 at hcl hfr hW0 ⊢
  have HW0 := Lib.hid hW0
  clear hW0
  go_upto_region 3 with fail
  rw [← HW0.out]
  have z2 := HZ2.out
  go_wp2_with fail
  refine HC.out.mono ?_
  rintro e w1 ⟨v, hst, hP, rfl, hx⟩
  have HST := Lib.hid hst
  have HX1 := Lib.hid (Ext.trans HX0.out hx)
  clear hst hP hx
  go_wp2_with fail
  go_ret
  exact ⟨⟨v, HST.out, rfl⟩, HX1.out⟩

end
end Go.Proofs.Ytfnmcdjfdhdlmaa

/-
  The program's contracts of conditions: Eval as a whole.
-/
namespace Go.Proofs.Ytfnmcdjfdhdlmaa
open Go.RowKit Go.BigFrame

theorem right_many {ok : List UInt8 → Bool} {K : List Int} {l : List Nd} (h : rightA ok K l) : ∀ n ∈ l, manyI n = (kidsN n : Int) ∧ kidsN n ≤ 40 ∧ (n.op = 4 → kidsN n = 1) := fun n hn =>
  ⟨one_kids (h.2.1 n hn), (oneN_kids (h.2.1 n hn)).1, (oneN_kids (h.2.1 n hn)).2.2.1⟩

set_option maxRecDepth 100000 in
set_option maxHeartbeats 1000000 in
theorem pEval14_any (u v : Value) (K : List Int) (l : List Nd) (r : List V) (w : World) (hu : RdNds w u l) (hf : FitN 5000 l) (hv : RdVals w v r) (hr : FitV 5000 r) (hT : Tabs w) (hR : rightA okP K l) (hk : r.length = K.length) :
    Calls Try.prog 11 #[u, v] w fun e w' => e = .returned (.int .u8 (evalS isB l r)) ∧ Ext w w' := by
  have hJE := judge_eval isB okP K l r hR hk
  have HW := Lib.hid (fun W (h : Ext w W) => pWhole_any u l W (hu.mono h))
  rw [((right_iff okP K l).1 hR).1] at HW
  have HJ := Lib.hid (fun (kb : Nat) W (h : Ext w W) (hkb : W.cell? ⟨kb, 0, none⟩ = some v) => pJudge8_any 22 25 26 (.pointer (some ⟨kb, 0, none⟩)) u l (leafR isB r) notT joinT tri W
    enters_eval1 enters_not14 enters_joined
    (fun n hn W' h' => evalLeaf_any n v r kb W' ((h'.cell (lt_of_cell hkb)).trans hkb) (hT.mono (Ext.trans h h')) ⟨(hf n hn).1.v, (hf n hn).2⟩ (hv.mono (Ext.trans h h')) hr) (tri_leaf isB r)
    (fun a ha W' => Not_any a (tri_bounds ha) W') (fun a ha => tri_not ha) (fun n a b ha hb W' => joined_any n a b ha hb W') (fun n a b ha hb => tri_join ha hb) (hu.mono h) hR.1.2 (right_many hR) hR.2.2)
  rw [hJE.1] at HJ
  generalize evalS isB l r = z at HJ ⊢
  obtain ⟨ao, cap, rfl, -, -⟩ := hv.shape
  obtain ⟨bo, cb, rfl, -, -⟩ := hu.shape
  generalize r.length = N at *
  generalize l.length = M at *
  have HX := Lib.hid (ext_new w (.cells #[.slice ao N cap] 25))
  have HB := Lib.hid (Blk.new w [.slice ao N cap] 25)
  have hmf : ∀ (fn : Fn) (first cap : Array Value) (w : World), (Instr.makeFunc fn first cap).run Try.prog w = .ok (.func fn first cap) w := fun _ _ _ _ => rfl
  clear hu hf hv hr hT hR hk hJE
  go_enter Try.func11, Try.ntmps11
  go_wp2_with fail
  refine (HW.out _ HX.out).mono ?_
  rintro e w1 ⟨rfl, hx⟩
  have HX1 := Lib.hid (Ext.trans HX.out hx)
  have HB1 := Lib.hid (HB.out.ext hx)
  clear hx
  go_wp2_with fail
  refine (HJ.out w.heap.size _ HX1.out (HB1.out.cell 0 _ rfl)).mono ?_
  rintro e w2 ⟨⟨y, hy, rfl⟩, hx⟩
  have hzy : z = y := by simpa using hy
  subst hzy
  have HX2 := Lib.hid (Ext.trans HX1.out hx)
  clear hx hy
  go_wp2_with fail
  go_ret
  exact ⟨rfl, HX2.out⟩

end Go.Proofs.Ytfnmcdjfdhdlmaa

/-
  The law's own helpers of conditions: num, small, fits; the document's examples.
-/
namespace Go.Proofs.Ytfnmcdjfdhdlmaa
section
open Go.ChangeAt Go.RowKit Go.BigFrame

theorem num14_any (n : Int) (w : World) : Calls Try.prog 13 #[.int .i64 n] w fun e w' => e = .returned (.agg #[.int .u8 2, .int .i64 n, .string ⟨#[]⟩]) ∧ Ext w w' := by
  go_enter Try.func13, Try.ntmps13
  go_wp2_with fail
  refine bodyPost_ret (results_cell_row (P := Try.prog) (fn := Try.f13) rfl _ _ w.heap.size 37 _ (0, 0) _ rfl (heap_alloc_new _ _) Try.underlying37 rfl (by kernel_rfl)) rfl ?_
  exact ⟨rfl, ext_new w _⟩

set_option maxRecDepth 100000 in
theorem small14_any (u : Value) (l : List Nd) (w : World) (hu : RdNds w u l) (hf : FitN 9223372036854775807 l) :
    Calls Try.prog 5 #[u] w fun e w' => (∃ b : Bool, e = .returned (.bool b) ∧ (b = true → l.length ≤ 60 ∧ ∀ n ∈ l, n.v.s.length ≤ 200)) ∧ Ext w w' := by
  obtain ⟨ao, cap, rfl, -, -⟩ := hu.shape
  obtain ⟨-, h1, h2, hc⟩ := hu.plain
  have HC := Lib.hid hc
  have HF := Lib.hid hf
  unfold maxLen at h2
  obtain ⟨N, hN⟩ : ∃ N, l.length = N := ⟨_, rfl⟩
  have HN := Lib.hid hN
  rw [hN] at h1 ⊢
  clear hu hc hN hf
  go_enter Try.func5, Try.ntmps5
  go_wp2_with fail
  go_loopw [7] (fun i wr => ∃ j : Nat, j ≤ N ∧ i = .int .i64 j ∧ (∀ n ∈ l.take j, n.v.s.length ≤ 200) ∧ Ext w wr) (fun i _ => N - (intOf i).toNat)
  case atStart => exact ⟨0, Nat.zero_le _, rfl, fun n hn => by simp at hn, Ext.keeps.refl _⟩
  case round =>
    obtain ⟨j, hj, rfl, hb, hx⟩ := hrel
    have HB := Lib.hid hb
    have HX := Lib.hid hx
    clear hb hx
    by_cases hlt : j < N
    · have hjl : j < l.length := by have := HN.out; omega
      obtain ⟨g, off, rfl, c0, c1, c2, c3, c4, c5⟩ := HC.out j hjl
      have x0 := (HX.out.cell (lt_of_cell c0)).trans c0
      have x1 := (HX.out.cell (lt_of_cell c1)).trans c1
      have x2 := (HX.out.cell (lt_of_cell c2)).trans c2
      have x3 := (HX.out.cell (lt_of_cell c3)).trans c3
      have x4 := (HX.out.cell (lt_of_cell c4)).trans c4
      have x5 := (HX.out.cell (lt_of_cell c5)).trans c5
      have HS := Lib.hid (List.take_succ_eq_append_getElem hjl)
      have hfl := (HF.out _ (List.getElem_mem hjl)).2
      generalize l[j] = nd at x0 x1 x2 x3 x4 x5 HS hfl
      obtain ⟨o, c, kd, ⟨vk, vn, vs⟩⟩ := nd
      simp only at x0 x1 x2 x3 x4 x5 hfl
      clear c0 c1 c2 c3 c4 c5 hjl
      have HX1 := Lib.hid (Ext.trans HX.out (ext_new wr (.cells #[.int .u8 o, .int .i64 c, .int .i64 kd, .int .u8 vk, .int .i64 vn, .string ⟨vs.toArray⟩] 39)))
      by_cases h200 : 200 < vs.length
      · have d : decide (200 < vs.length) = true := decide_eq_true h200
        have d' : decide ((200 : Int) < (vs.length : Int)) = true := decide_eq_true (by omega)
        clear h200
        go_wp2_with fail
        go_ret
        exact ⟨⟨false, rfl, fun h => by cases h⟩, HX1.out⟩
      · have d : decide (200 < vs.length) = false := decide_eq_false h200
        have d' : decide ((200 : Int) < (vs.length : Int)) = false := decide_eq_false (by omega)
        have H2 := Lib.hid h200
        clear h200
        go_wp2_with fail
        go_roundw
        case rel => exact ⟨j + 1, by omega, by go_num, fun n hn => by
          rw [HS.out] at hn
          rcases List.mem_append.1 hn with hn | hn
          · exact HB.out n hn
          · rw [List.mem_singleton.1 hn]; exact Nat.le_of_not_lt H2.out, HX1.out⟩
        case measure => simp [intOf]; omega
    · have e : j = N := by omega
      subst e
      have HALL := Lib.hid (show ∀ n ∈ l, n.v.s.length ≤ 200 from fun n hn => HB.out n (by rwa [List.take_of_length_le (by have := HN.out; omega)]))
      by_cases h60 : j ≤ 60
      · have d : decide (j ≤ 60) = true := decide_eq_true h60
        have d' : decide ((j : Int) ≤ (60 : Int)) = true := decide_eq_true (by omega)
        go_wp2_with fail
        go_ret
        exact ⟨⟨true, rfl, fun _ => ⟨h60, HALL.out⟩⟩, HX.out⟩
      · have d : decide (j ≤ 60) = false := decide_eq_false h60
        have d' : decide ((j : Int) ≤ (60 : Int)) = false := decide_eq_false (by omega)
        go_wp2_with fail
        go_ret
        exact ⟨⟨false, rfl, fun h => by cases h⟩, HX.out⟩

/-- Is a row one of columns of these kinds? -/
def fitsP (K : List Int) (r : List V) : Prop := K.length ≤ 20 ∧ r.length = K.length ∧ ∀ v ∈ r, v.s.length ≤ 200 ∧ rightV v = true
set_option maxRecDepth 100000 in
set_option maxHeartbeats 4000000 in
theorem fits14_any (u v : Value) (K : List Int) (r : List V) (w : World) (hu : RdV w u (K.map (Value.int .u8))) (hK : K.length ≤ 9223372036854775807) (hv : RdVals w v r) (hf : FitV 9223372036854775807 r) :
    Calls Try.prog 10 #[u, v] w fun e w' => (∃ b : Bool, e = .returned (.bool b) ∧ (b = true → fitsP K r)) ∧ Ext w w' := by
  obtain ⟨bo, cb, rfl, h3, h4, hcb⟩ := RdV.cellsAt hu
  rw [List.length_map] at *
  have HCB := Lib.hid hcb
  obtain ⟨ao, cap, rfl, -, -⟩ := hv.shape
  obtain ⟨-, h1, h2, hc⟩ := hv.plain
  have HC := Lib.hid hc
  have HF := Lib.hid hf
  unfold maxLen at h2 h4
  obtain ⟨N, hN⟩ : ∃ N, r.length = N := ⟨_, rfl⟩
  have HN := Lib.hid hN
  rw [hN] at h1 ⊢
  obtain ⟨M, hM⟩ : ∃ M, K.length = M := ⟨_, rfl⟩
  have HM := Lib.hid hM
  rw [hM] at h3 hK ⊢
  clear hu hc hN hf hM hv hcb
  by_cases h20 : 20 < M
  · have d : decide (20 < M) = true := decide_eq_true h20
    have d' : decide ((20 : Int) < (M : Int)) = true := decide_eq_true (by omega)
    clear h20
    go_enter Try.func10, Try.ntmps10
    go_wp2_with fail
    go_ret
    exact ⟨⟨false, rfl, fun h => by cases h⟩, Ext.keeps.refl _⟩
  · have d : decide (20 < M) = false := decide_eq_false h20
    have d' : decide ((20 : Int) < (M : Int)) = false := decide_eq_false (by omega)
    have H20 := Lib.hid h20
    clear h20
    by_cases hNM : N = M
    · have q : ((N : Int) != (M : Int)) = false := by simp [hNM]
      have q' : (N != M) = false := by simp [hNM]
      have HNM := Lib.hid hNM
      clear hNM
      go_enter Try.func10, Try.ntmps10
      go_wp2_with fail
      go_loopw [5, 19] (fun _ i wr => ∃ j : Nat, j ≤ N ∧ i = .int .i64 j ∧ (∀ v ∈ r.take j, v.s.length ≤ 200 ∧ rightV v = true) ∧ Ext w wr) (fun _ i _ => N - (intOf i).toNat)
      case atStart => exact ⟨0, Nat.zero_le _, rfl, fun n hn => by simp at hn, Ext.keeps.refl _⟩
      case round =>
        obtain ⟨j, hj, rfl, hb, hx⟩ := hrel
        have HB := Lib.hid hb
        have HX := Lib.hid hx
        clear hb hx
        by_cases hlt : j < N
        · have hjl : j < r.length := by have := HN.out; omega
          have hjM : j < M := by have := HNM.out; omega
          have hjK : j < K.length := by have := HM.out; omega
          obtain ⟨g, off, rfl, c0, c1, c2⟩ := HC.out j hjl
          obtain ⟨x, rfl, hcx⟩ := HCB.out j (.int .u8 K[j]) (by rw [List.getElem?_map, List.getElem?_eq_getElem hjK]; rfl)
          have x0 := (HX.out.cell (lt_of_cell c0)).trans c0
          have x1 := (HX.out.cell (lt_of_cell c1)).trans c1
          have x2 := (HX.out.cell (lt_of_cell c2)).trans c2
          have HCX := Lib.hid ((HX.out.cell (lt_of_cell hcx)).trans hcx)
          have HS := Lib.hid (List.take_succ_eq_append_getElem hjl)
          have hfl := HF.out _ (List.getElem_mem hjl)
          generalize K[j] = y at HCX
          generalize r[j] = vv at x0 x1 x2 HS hfl
          have HR := Lib.hid (fun (h : vv.s.length ≤ 5000) W => Right_any vv hfl.1 h W)
          obtain ⟨vk, vn, vs⟩ := vv
          unfold V.val at HR
          simp only at x0 x1 x2 hfl HR
          have hfl2 := hfl.2
          have HB1 := Lib.hid (Blk.new wr [.int .u8 vk, .int .i64 vn, .string ⟨vs.toArray⟩] 37)
          have HX1 := Lib.hid (Ext.trans HX.out (ext_new wr (.cells #[.int .u8 vk, .int .i64 vn, .string ⟨vs.toArray⟩] 37)))
          have HX2 := Lib.hid (ext_new wr (.cells #[.int .u8 vk, .int .i64 vn, .string ⟨vs.toArray⟩] 37))
          obtain ⟨nb, hnb⟩ : ∃ nb, wr.heap.size = nb := ⟨_, rfl⟩
          rw [hnb] at HB1
          clear c0 c1 c2 hjl hjK hcx hfl
          go_upto_region 6 with fail
          try rw [hnb]
          generalize hWA : wr.alloc (.cells #[.int .u8 vk, .int .i64 vn, .string ⟨vs.toArray⟩] 37) = WA at HB1 HX1 HX2 ⊢
          have HCA := Lib.hid ((HX2.out.cell (lt_of_cell HCX.out)).trans HCX.out)
          clear hWA x0 x1 x2
          by_cases h200 : 200 < vs.length
          · have e1 : decide (200 < vs.length) = true := decide_eq_true h200
            have e1' : decide ((200 : Int) < (vs.length : Int)) = true := decide_eq_true (by omega)
            clear h200
            refine wp_region_segs Ext Ext.keeps [([0, 1, 2, 3, 4, 5], some 6), ([7, 8, 9, 10, 11, 12, 13, 14, 15, 16, 17, 18, 19, 20, 21, 22], none)] (by kernel_rfl) (by kernel_rfl) (fun c a a' w e h => (by exact ⟨e ▸ h.1, h.2⟩)) ?_
            simp only [pickSegs, pickOps, List.map_cons, List.map_nil, Option.map_some, Option.map_none, Option.getD_some, List.getElem?_toArray, List.getElem?_cons_zero, List.getElem?_cons_succ]
            have a0 := later_cell (w := WA) (b := nb) (fun j u hj => HB1.out.cell j u hj) 0 (.int .u8 vk) rfl
            have a1 := later_cell (w := WA) (b := nb) (fun j u hj => HB1.out.cell j u hj) 1 (.int .i64 vn) rfl
            have a2 := later_cell (w := WA) (b := nb) (fun j u hj => HB1.out.cell j u hj) 2 (.string ⟨vs.toArray⟩) rfl
            refine wpSegs_some fun K hK => ?_
            repeat go_big_quiet_step (fail)
            refine wpQuiet_nil ?_
            clear a0 a1 a2
            go_wp2_with fail
            refine ⟨Ext.keeps.refl _, hK _ _ ?_⟩
            clear hK
            refine wpSegs_none ?_
            repeat go_big_quiet_step (fail)
            refine wpQuiet_nil (wpSegs_nil ?_)
            go_wp2_with fail
            go_ret
            exact ⟨⟨false, rfl, fun h => by cases h⟩, Ext.trans HX1.out (Ext.drew _)⟩
          · have e1 : decide (200 < vs.length) = false := decide_eq_false h200
            have e1' : decide ((200 : Int) < (vs.length : Int)) = false := decide_eq_false (by omega)
            have HRR := Lib.hid (HR.out (by omega))
            have H200 := Lib.hid h200
            generalize hrv : rightV ⟨vk, vn, vs⟩ = rv at HRR
            have HRV := Lib.hid hrv
            clear hrv h200
            refine wp_region_segs Ext Ext.keeps [([0, 1, 2, 3, 4, 5], some 6), ([7, 8, 9, 10, 11, 12, 13, 14, 15, 16, 17, 18, 19, 20, 21, 22], none)] (by kernel_rfl) (by kernel_rfl) (fun c a a' w e h => (by exact ⟨e ▸ h.1, h.2⟩)) ?_
            simp only [pickSegs, pickOps, List.map_cons, List.map_nil, Option.map_some, Option.map_none, Option.getD_some, List.getElem?_toArray, List.getElem?_cons_zero, List.getElem?_cons_succ]
            have a0 := later_cell (w := WA) (b := nb) (fun j u hj => HB1.out.cell j u hj) 0 (.int .u8 vk) rfl
            have a1 := later_cell (w := WA) (b := nb) (fun j u hj => HB1.out.cell j u hj) 1 (.int .i64 vn) rfl
            have a2 := later_cell (w := WA) (b := nb) (fun j u hj => HB1.out.cell j u hj) 2 (.string ⟨vs.toArray⟩) rfl
            refine wpSegs_some fun K hK => ?_
            repeat go_big_quiet_step (fail)
            refine wpQuiet_nil ?_
            clear a0 a1 a2
            go_wp2_with fail
            refine (HRR.out _).mono ?_
            rintro e W1 ⟨rfl, hx⟩
            have HH1 := Lib.hid hx
            clear hx
            go_wp2_with fail
            refine ⟨HH1.out, hK _ _ ?_⟩
            clear hK K
            have HBB := Lib.hid ((HB1.out.ext (Ext.drew _)).ext HH1.out)
            have HY := Lib.hid (((Ext.trans (Ext.drew WA) HH1.out).cell (lt_of_cell HCA.out)).trans HCA.out)
            have a0 := now_cell (w := W1) (b := nb) (fun j u hj => HBB.out.cell j u hj) 0 (.int .u8 vk) rfl
            have a1 := now_cell (w := W1) (b := nb) (fun j u hj => HBB.out.cell j u hj) 1 (.int .i64 vn) rfl
            have a2 := now_cell (w := W1) (b := nb) (fun j u hj => HBB.out.cell j u hj) 2 (.string ⟨vs.toArray⟩) rfl
            have hy : ∀ z : Later Ext W1, z.val.cell? (x.add j) = some (.int .u8 y) := fun z => (z.ext.cell (lt_of_cell HY.out)).trans HY.out
            cases rv with
            | false =>
              refine wpSegs_none ?_
              repeat go_big_quiet_step (fail)
              refine wpQuiet_nil (wpSegs_nil ?_)
              clear a0 a1 a2 hy
              go_wp2_with fail
              go_ret
              exact ⟨⟨false, rfl, fun h => by cases h⟩, Ext.trans HX1.out (Ext.trans (Ext.drew _) HH1.out)⟩
            | true =>
              by_cases hk0 : vk = 0
              · have q0 : (vk != (0 : Int)) = false := by simp [hk0]
                have q0' : (vk == (0 : Int)) = true := by simp [hk0]
                clear hk0
                refine wpSegs_none ?_
                repeat go_big_quiet_step (fail)
                refine wpQuiet_nil (wpSegs_nil ?_)
                clear a0 a1 a2 hy
                go_wp2_with fail
                go_roundw
                case rel => exact ⟨j + 1, by omega, by go_num, fun n hn => by
                  rw [HS.out] at hn
                  rcases List.mem_append.1 hn with hn | hn
                  · exact HB.out n hn
                  · rw [List.mem_singleton.1 hn]; exact ⟨Nat.le_of_not_lt H200.out, HRV.out⟩, Ext.trans HX1.out (Ext.trans (Ext.drew _) HH1.out)⟩
                case measure => simp [intOf]; omega
              · have q0 : (vk != (0 : Int)) = true := bne_iff_ne.2 hk0
                have q0' : (vk == (0 : Int)) = false := beq_eq_false_iff_ne.2 hk0
                clear hk0
                by_cases hky : vk = y
                · have q1 : (vk != y) = false := by simp [hky]
                  clear hky
                  refine wpSegs_none ?_
                  repeat go_big_quiet_step (fail)
                  refine wpQuiet_nil (wpSegs_nil ?_)
                  clear a0 a1 a2 hy
                  go_wp2_with fail
                  go_roundw
                  case rel => exact ⟨j + 1, by omega, by go_num, fun n hn => by
                    rw [HS.out] at hn
                    rcases List.mem_append.1 hn with hn | hn
                    · exact HB.out n hn
                    · rw [List.mem_singleton.1 hn]; exact ⟨Nat.le_of_not_lt H200.out, HRV.out⟩, Ext.trans HX1.out (Ext.trans (Ext.drew _) HH1.out)⟩
                  case measure => simp [intOf]; omega
                · have q1 : (vk != y) = true := bne_iff_ne.2 hky
                  clear hky
                  refine wpSegs_none ?_
                  repeat go_big_quiet_step (fail)
                  refine wpQuiet_nil (wpSegs_nil ?_)
                  clear a0 a1 a2 hy
                  go_wp2_with fail
                  go_ret
                  exact ⟨⟨false, rfl, fun h => by cases h⟩, Ext.trans HX1.out (Ext.trans (Ext.drew _) HH1.out)⟩
        · have e : j = N := by omega
          subst e
          have HALL := Lib.hid (show fitsP K r from ⟨by have := HM.out; have := H20.out; omega, by rw [HN.out, HM.out, HNM.out], fun n hn => HB.out n (by rwa [List.take_of_length_le (by have := HN.out; omega)])⟩)
          go_wp2_with fail
          go_ret
          exact ⟨⟨true, rfl, fun _ => HALL.out⟩, HX.out⟩
    · have q : ((N : Int) != (M : Int)) = true := bne_iff_ne.2 (by omega)
      have q' : (N != M) = true := bne_iff_ne.2 hNM
      clear hNM
      go_enter Try.func10, Try.ntmps10
      go_wp2_with fail
      go_ret
      exact ⟨⟨false, rfl, fun h => by cases h⟩, Ext.keeps.refl _⟩

/-! ### New rows -/

theorem rdv_new (w : World) (xs : List Value) (t : TypeId) (h : xs.length ≤ 1000) : RdV (w.alloc (.cells xs.toArray t)) (.slice (some ⟨w.heap.size, 0, none⟩) xs.length xs.length) xs :=
  .inr ⟨_, _, rfl, Nat.le_refl _, by unfold maxLen; omega, fun i u hu => row_new w xs t i u hu⟩
theorem nds_new (w : World) (l : List Nd) (t : TypeId) (h : l.length ≤ 1000) : RdNds (w.alloc (.cells (l.flatMap Nd.cells).toArray t)) (.slice (some ⟨w.heap.size, 0, none⟩) l.length l.length) l := by
  refine ⟨_, _, rfl, Nat.le_refl _, by unfold maxLen; omega, fun j hj => ⟨_, 0, rfl, fun i y hy => ?_⟩⟩
  have hi : i < 6 := (List.getElem?_eq_some_iff.1 hy).1
  have c := row_new w (l.flatMap Nd.cells) t _ _ ((ndCells l j hj i hi).trans hy)
  rw [add_at] at c
  rw [Nat.add_assoc]
  exact c
theorem vals_new (w : World) (l : List V) (t : TypeId) (h : l.length ≤ 1000) : RdVals (w.alloc (.cells (l.flatMap V.cells).toArray t)) (.slice (some ⟨w.heap.size, 0, none⟩) l.length l.length) l := by
  refine ⟨_, _, rfl, Nat.le_refl _, by unfold maxLen; omega, fun j hj => ⟨_, 0, rfl, fun i y hy => ?_⟩⟩
  have hi : i < 3 := (List.getElem?_eq_some_iff.1 hy).1
  have c := row_new w (l.flatMap V.cells) t _ _ ((valCells l j hj i hi).trans hy)
  rw [add_at] at c
  rw [Nat.add_assoc]
  exact c

/-! ### The examples -/

def exA : List Nd := [⟨2, 0, 2, V.zero⟩, ⟨6, 0, 0, ⟨2, 5, []⟩⟩, ⟨8, 1, 0, V.zero⟩]
theorem exA_right : rightA okP [2, 2] exA := by decide +kernel
theorem exA_err : errA okP [2, 2] exA = 0 := if_pos exA_right
theorem exA_1 : evalS isB exA [⟨2, 4, []⟩, V.zero] = 2 := by decide +kernel
theorem exA_2 : evalS isB exA [V.zero, V.zero] = 1 := by decide +kernel
theorem exA_3 : evalS isB exA [⟨2, 5, []⟩, V.zero] = 0 := by decide +kernel
theorem fit_small (k n : Int) (hk : 0 ≤ k ∧ k ≤ 255) (hn : -1000 ≤ n ∧ n ≤ 1000) : (⟨k, n, []⟩ : V).fits := ⟨hk.1, hk.2, by show -9223372036854775808 ≤ n; omega, by show n ≤ 9223372036854775807; omega⟩
theorem exA_fit : FitN 5000 exA := by
  intro x hx
  simp only [exA, List.mem_cons, List.not_mem_nil, or_false] at hx
  rcases hx with rfl | rfl | rfl
  · exact ⟨⟨by decide, by decide, by decide, by decide, by decide, by decide, fit_small 0 0 (by decide) (by decide)⟩, by decide⟩
  · exact ⟨⟨by decide, by decide, by decide, by decide, by decide, by decide, fit_small 2 5 (by decide) (by decide)⟩, by decide⟩
  · exact ⟨⟨by decide, by decide, by decide, by decide, by decide, by decide, fit_small 0 0 (by decide) (by decide)⟩, by decide⟩
theorem exA_row (a b : V) (ha : a = ⟨2, 4, []⟩ ∨ a = ⟨2, 5, []⟩ ∨ a = V.zero) (hb : b = V.zero) : FitV 5000 [a, b] := by
  intro x hx
  simp only [List.mem_cons, List.not_mem_nil, or_false] at hx
  rcases hx with rfl | rfl
  · rcases ha with rfl | rfl | rfl
    · exact ⟨fit_small 2 4 (by decide) (by decide), by decide⟩
    · exact ⟨fit_small 2 5 (by decide) (by decide), by decide⟩
    · exact ⟨fit_small 0 0 (by decide) (by decide), by decide⟩
  · subst hb
    exact ⟨fit_small 0 0 (by decide) (by decide), by decide⟩

set_option maxRecDepth 100000 in
set_option maxHeartbeats 4000000 in
theorem shown14_any (w : World) (hT : Tabs w) : Calls Try.prog 4 #[] w fun e w' => e = .returned (.bool true) ∧ Ext w w' := by
  have hT0 := Lib.hid hT
  clear hT
  go_enter Try.func4, Try.ntmps4
  go_wp2_with fail
  refine (num14_any 5 _).mono ?_
  rintro e w0 ⟨rfl, hx⟩
  have HX0 := Lib.hid hx
  have HLN := Lib.hid (nds_new w0 exA 39 (by decide))
  have HXN := Lib.hid (ext_new w0 (.cells (exA.flatMap Nd.cells).toArray 39))
  clear hx
  go_upto_region 2 with fail
  generalize hWL : w0.alloc (.cells #[.int .u8 2, .int .i64 0, .int .i64 2, .int .u8 0, .int .i64 0, .string ⟨#[]⟩, .int .u8 6, .int .i64 0, .int .i64 0, .int .u8 2, .int .i64 5, .string ⟨#[]⟩, .int .u8 8, .int .i64 1, .int .i64 0, .int .u8 0, .int .i64 0, .string ⟨#[]⟩] 39) = WL
  replace HLN := Lib.hid (show RdNds WL (.slice (some ⟨w0.heap.size, 0, none⟩) 3 3) exA by rw [← hWL]; exact HLN.out)
  replace HXN := Lib.hid (show Ext w WL by rw [← hWL]; exact Ext.trans HX0.out HXN.out)
  clear hWL
  have HKN := Lib.hid (rdv_new WL [.int .u8 2, .int .u8 2] 5 (by decide))
  have HNK := Lib.hid (ext_new WL (.cells #[.int .u8 2, .int .u8 2] 5))
  go_wp2_with fail
  refine (pRight14_any _ _ [2, 2] exA _ HKN.out (by decide) (HLN.out.mono HNK.out) exA_fit (hT0.out.mono (Ext.trans HXN.out HNK.out))).mono ?_
  rintro e w1 ⟨rfl, hx⟩
  have HX1 := Lib.hid (Ext.trans HXN.out (Ext.trans HNK.out hx))
  have HL1 := Lib.hid (HLN.out.mono (Ext.trans HNK.out hx))
  clear hx
  rw [exA_err]
  go_wp2_with fail
  refine (num14_any 4 _).mono ?_
  rintro e w2a ⟨rfl, hx⟩
  have HX2a := Lib.hid (Ext.trans HX1.out hx)
  have HL2a := Lib.hid (HL1.out.mono hx)
  clear hx
  go_wp2_with fail
  have HR2 := Lib.hid (vals_new w2a [⟨2, 4, []⟩, V.zero] 37 (by decide))
  have HN2 := Lib.hid (ext_new w2a (.cells ([⟨2, 4, []⟩, V.zero].flatMap V.cells).toArray 37))
  refine (pEval14_any _ _ [2, 2] exA [⟨2, 4, []⟩, V.zero] _ (HL2a.out.mono HN2.out) exA_fit HR2.out (exA_row _ _ (.inl rfl) rfl) (hT0.out.mono (Ext.trans HX2a.out HN2.out)) exA_right rfl).mono ?_
  rintro e w2 ⟨rfl, hx⟩
  have HX2 := Lib.hid (Ext.trans HX2a.out (Ext.trans HN2.out hx))
  have HL2 := Lib.hid (HL2a.out.mono (Ext.trans HN2.out hx))
  clear hx
  rw [exA_1]
  go_wp2_with fail
  have HR3 := Lib.hid (vals_new w2 [V.zero, V.zero] 37 (by decide))
  have HN3 := Lib.hid (ext_new w2 (.cells ([V.zero, V.zero].flatMap V.cells).toArray 37))
  refine (pEval14_any _ _ [2, 2] exA [V.zero, V.zero] _ (HL2.out.mono HN3.out) exA_fit HR3.out (exA_row _ _ (.inr (.inr rfl)) rfl) (hT0.out.mono (Ext.trans HX2.out HN3.out)) exA_right rfl).mono ?_
  rintro e w3 ⟨rfl, hx⟩
  have HX3 := Lib.hid (Ext.trans HX2.out (Ext.trans HN3.out hx))
  have HL3 := Lib.hid (HL2.out.mono (Ext.trans HN3.out hx))
  clear hx
  rw [exA_2]
  go_wp2_with fail
  refine (num14_any 5 _).mono ?_
  rintro e w4a ⟨rfl, hx⟩
  have HX4a := Lib.hid (Ext.trans HX3.out hx)
  have HL4a := Lib.hid (HL3.out.mono hx)
  clear hx
  go_wp2_with fail
  have HR4 := Lib.hid (vals_new w4a [⟨2, 5, []⟩, V.zero] 37 (by decide))
  have HN4 := Lib.hid (ext_new w4a (.cells ([⟨2, 5, []⟩, V.zero].flatMap V.cells).toArray 37))
  refine (pEval14_any _ _ [2, 2] exA [⟨2, 5, []⟩, V.zero] _ (HL4a.out.mono HN4.out) exA_fit HR4.out (exA_row _ _ (.inr (.inl rfl)) rfl) (hT0.out.mono (Ext.trans HX4a.out HN4.out)) exA_right rfl).mono ?_
  rintro e w4 ⟨rfl, hx⟩
  have HX4 := Lib.hid (Ext.trans HX4a.out (Ext.trans HN4.out hx))
  have HL4 := Lib.hid (HL4a.out.mono (Ext.trans HN4.out hx))
  clear hx
  rw [exA_3]
  go_wp2_with fail
  go_ret
  exact ⟨rfl, HX4.out⟩

end
end Go.Proofs.Ytfnmcdjfdhdlmaa
