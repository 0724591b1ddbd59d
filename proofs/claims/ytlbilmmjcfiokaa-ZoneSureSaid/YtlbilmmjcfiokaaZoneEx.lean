/-
  The laws' own 'shown' of layer 13: the document's examples.
-/
import Derived.Test.YtlbilmmjcfiokaaZoneP2
import Derived.Test.YtlbilmmjcfiokaaZoneP5
import Derived.Test.YtlbilmmjcfiokaaZoneP4
import Derived.Test.YtlbilmmjcfiokaaCellRefE
namespace Go.Proofs.Ytlbilmmjcfiokaa
section
open Go.ChangeAt Go.RowKit Go.BigFrame

/-- How many are few. -/
def fewNZ : Nat → List V → Nat
  | _, [] => 0
  | j, v :: t => if 300 ≤ j ∨ 1100 < v.s.length then 0 else fewNZ (j + 1) t + 1
def fewZ (l : List V) : List V := l.take (fewNZ 0 l)
theorem fewNZ_le (l : List V) : ∀ j, j ≤ 300 → fewNZ j l ≤ 300 - j := by
  induction l with
  | nil => intro j _; exact Nat.zero_le _
  | cons v t ih =>
    intro j hj
    unfold fewNZ
    split
    · exact Nat.zero_le _
    · have := ih (j + 1) (by omega)
      omega
theorem fewNZ_small (l : List V) : ∀ j, ∀ v ∈ l.take (fewNZ j l), v.s.length ≤ 1100 := by
  induction l with
  | nil => intro j v hv; cases hv
  | cons a t ih =>
    intro j v hv
    unfold fewNZ at hv
    split at hv
    · cases hv
    · rw [List.take_succ_cons] at hv
      rcases List.mem_cons.1 hv with rfl | hv
      · omega
      · exact ih _ v hv
theorem fewZ_len (l : List V) : (fewZ l).length ≤ 300 := by
  have := fewNZ_le l 0 (by omega)
  unfold fewZ
  rw [List.length_take]
  omega
theorem fewZ_mem {l : List V} {v : V} (h : v ∈ fewZ l) : v ∈ l ∧ v.s.length ≤ 1100 := ⟨List.mem_of_mem_take h, fewNZ_small l 0 v h⟩

theorem num13_any (n : Int) (w : World) : Calls Try.prog 31 #[.int .i64 n] w fun e w' => e = .returned (.agg #[.int .u8 2, .int .i64 n, .string ⟨#[]⟩]) ∧ Ext w w' := by
  go_enter Try.func31, Try.ntmps31
  go_wp2_with fail
  refine bodyPost_ret (results_cell_row (P := Try.prog) (fn := Try.f31) rfl _ _ w.heap.size 24 _ (0, 0) _ rfl (heap_alloc_new _ _) Try.underlying24 rfl (by kernel_rfl)) rfl ?_
  exact ⟨rfl, ext_new w _⟩

instance (z : Zo) (n : Nat) : Decidable (z.small n) := by unfold Zo.small; exact inferInstance
set_option maxRecDepth 100000 in
theorem short13_any (z : Zo) (w : World) (hz : z.small 9223372036854775807) : Calls Try.prog 10 #[z.val] w fun e w' => e = .returned (.bool (decide (z.small 1100))) ∧ Ext w w' := by
  obtain ⟨⟨ak, an, as'⟩, ⟨bk, bn, bs⟩, pn, pm⟩ := z
  have ha : as'.length ≤ 9223372036854775807 := hz.1
  have hb : bs.length ≤ 9223372036854775807 := hz.2
  have HX := Lib.hid (ext_new w (.cells #[.int .u8 ak, .int .i64 an, .string ⟨as'.toArray⟩, .int .u8 bk, .int .i64 bn, .string ⟨bs.toArray⟩, .int .i64 pn, .int .i64 pm] 26))
  have HD := Lib.hid (show (Zo.small ⟨⟨ak, an, as'⟩, ⟨bk, bn, bs⟩, pn, pm⟩ 1100) ↔ (as'.length ≤ 1100 ∧ bs.length ≤ 1100) from Iff.rfl)
  unfold Zo.val
  simp only
  by_cases h1 : as'.length ≤ 1100
  · have d1 : decide ((as'.length : Int) ≤ 1100) = true := decide_eq_true (by omega)
    by_cases h2 : bs.length ≤ 1100
    · have d2 : decide ((bs.length : Int) ≤ 1100) = true := decide_eq_true (by omega)
      have HQ := Lib.hid (show decide (Zo.small ⟨⟨ak, an, as'⟩, ⟨bk, bn, bs⟩, pn, pm⟩ 1100) = true from decide_eq_true (HD.out.2 ⟨h1, h2⟩))
      clear h1 h2 hz
      go_enter Try.func10, Try.ntmps10
      go_wp2_with fail
      go_ret
      exact ⟨by rw [HQ.out]; rfl, HX.out⟩
    · have d2 : decide ((bs.length : Int) ≤ 1100) = false := decide_eq_false (by omega)
      have HQ := Lib.hid (show decide (Zo.small ⟨⟨ak, an, as'⟩, ⟨bk, bn, bs⟩, pn, pm⟩ 1100) = false from decide_eq_false (fun h => h2 (HD.out.1 h).2))
      clear h1 h2 hz
      go_enter Try.func10, Try.ntmps10
      go_wp2_with fail
      go_ret
      exact ⟨by rw [HQ.out]; rfl, HX.out⟩
  · have d1 : decide ((as'.length : Int) ≤ 1100) = false := decide_eq_false (by omega)
    have HQ := Lib.hid (show decide (Zo.small ⟨⟨ak, an, as'⟩, ⟨bk, bn, bs⟩, pn, pm⟩ 1100) = false from decide_eq_false (fun h => h1 (HD.out.1 h).1))
    clear h1 hz
    go_enter Try.func10, Try.ntmps10
    go_wp2_with fail
    go_ret
    exact ⟨by rw [HQ.out]; rfl, HX.out⟩

/-- Without an address there is nothing, and no room. -/
def NilOk (u : Value) : Prop := ∀ n c, u = .slice none n c → n = 0 ∧ c = 0
set_option maxRecDepth 100000 in
set_option maxHeartbeats 1000000 in
theorem few13_any (u : Value) (l : List V) (w : World) (hu : RdVals w u l) :
    Calls Try.prog 12 #[u] w fun e w' => (∃ v, e = .returned v ∧ RdVals w v (fewZ l) ∧ (NilOk u → NilOk v)) ∧ w = w' := by
  have HU := Lib.hid hu
  obtain ⟨ao, cap, rfl, -, -⟩ := hu.shape
  obtain ⟨-, h1, h2, hat⟩ := hu.plain
  have HAT := Lib.hid hat
  have HCUT := Lib.hid (fun K (hK : K ≤ l.length) (e : fewNZ 0 l = K) => (show RdVals w (.slice ao K cap) (fewZ l) ∧ (NilOk (.slice ao l.length cap) → NilOk (.slice ao K cap)) by
    refine ⟨?_, fun h n c hc => ?_⟩
    · unfold fewZ
      rw [e]
      exact HU.out.take K hK
    · simp only [Value.slice.injEq] at hc
      obtain ⟨rfl, rfl, rfl⟩ := hc
      obtain ⟨h1, h2⟩ := h _ _ rfl
      exact ⟨by omega, h2⟩))
  obtain ⟨N, hN⟩ : ∃ N, l.length = N := ⟨_, rfl⟩
  have HN := Lib.hid hN
  unfold maxLen at h2
  rw [hN] at h1 HCUT ⊢
  clear hat hN hu HU
  go_enter Try.func12, Try.ntmps12
  go_wp2_with fail
  go_loopw [3, 6] (fun _ i wr => ∃ j : Nat, j ≤ N ∧ i = .int .i64 j ∧ fewNZ 0 l = j + fewNZ j (l.drop j) ∧ w = wr) (fun _ i _ => N - (intOf i).toNat)
  case atStart => exact ⟨0, Nat.zero_le _, rfl, by rw [Nat.zero_add]; rfl, rfl⟩
  case round =>
    obtain ⟨j, hj, rfl, hf, rfl⟩ := hrel
    have HF := Lib.hid hf
    clear hf
    by_cases hlt : j < N
    · have hjl : j < l.length := by have := HN.out; omega
      obtain ⟨g, off, rfl, -, -, hcx⟩ := HAT.out j hjl
      have HD := Lib.hid (List.drop_eq_getElem_cons hjl)
      generalize l[j] = v at hcx HD
      have HSTEP := Lib.hid (show fewNZ j (l.drop j) = if 300 ≤ j ∨ 1100 < v.s.length then 0 else fewNZ (j + 1) (l.drop (j + 1)) + 1 by rw [HD.out]; rfl)
      have hjc : j ≤ cap := by omega
      generalize v.s = t at hcx HSTEP
      by_cases hstop : 300 ≤ j ∨ 1100 < t.length
      · have HR := Lib.hid (HCUT.out j hj (by rw [HF.out, HSTEP.out, if_pos hstop]; rfl))
        by_cases q1 : 300 ≤ j
        · have d1 : decide ((300 : Int) ≤ (j : Int)) = true := decide_eq_true (by omega)
          clear hstop
          go_wp2_with fail
          go_ret
          exact ⟨⟨_, rfl, HR.out.1, HR.out.2⟩, rfl⟩
        · have d1 : decide ((300 : Int) ≤ (j : Int)) = false := decide_eq_false (by omega)
          have d2 : decide ((1100 : Int) < (t.length : Int)) = true := decide_eq_true (by omega)
          clear hstop
          go_wp2_with fail
          go_ret
          exact ⟨⟨_, rfl, HR.out.1, HR.out.2⟩, rfl⟩
      · have HNX := Lib.hid (show fewNZ 0 l = (j + 1) + fewNZ (j + 1) (l.drop (j + 1)) by rw [HF.out, HSTEP.out, if_neg hstop]; omega)
        have d1 : decide ((300 : Int) ≤ (j : Int)) = false := decide_eq_false (by omega)
        have d2 : decide ((1100 : Int) < (t.length : Int)) = false := decide_eq_false (by omega)
        clear hstop
        go_wp2_with fail
        go_roundw
        case rel => exact ⟨j + 1, by omega, by go_num, HNX.out, trivial⟩
        case measure => simp [intOf]; omega
    · have hjN : j = N := by omega
      have HR := Lib.hid (HCUT.out N (Nat.le_refl _) (by rw [HF.out, List.drop_eq_nil_of_le (by have := HN.out; omega), hjN]; rfl))
      clear hjN
      go_wp2_with fail
      go_ret
      exact ⟨⟨_, rfl, HR.out.1, HR.out.2⟩, rfl⟩

theorem eq_zone_self (z : Zo) (w : World) : (binOp .eql 26 z.val z.val).run Try.prog w = .ok (.bool true) w := by
  obtain ⟨⟨ak, an, as'⟩, ⟨bk, bn, bs⟩, pn, pm⟩ := z
  unfold Zo.val
  simp [go_sem]
theorem eq_trip (a b c d e f : Bool) (w : World) :
    (Op.equalIn 10000 40 (.agg #[.bool a, .bool b, .bool c]) (.agg #[.bool d, .bool e, .bool f])).run Try.prog w = .ok (decide ((a, b, c) = (d, e, f))) w := by
  have e1 := fun (a b : Bool) (w : World) => run_equalIn_bool (P := Try.prog) w 9998 4 a b Try.underlying4
  have u3 := Try.isAgg4
  have z3 := Try.sizeOf4
  rw [show (10000 : Nat) = 9999 + 1 from rfl, Op.equalIn]
  rw [show (9999 : Nat) = 9998 + 1 from rfl]
  generalize (9998 : Nat) = d' at e1 ⊢
  simp [run_underlying Try.underlying40, z3, e1, Std.Legacy.Range.forIn_eq_forIn_range', List.range', part, u3]
  cases a <;> cases b <;> cases c <;> cases d <;> cases e <;> cases f <;> simp
end
section
open Go.ChangeAt Go.RowKit Go.BigFrame

theorem ex_of13 : ofZ [(⟨2, 5, []⟩ : V), ⟨0, 0, []⟩, ⟨2, 3, []⟩] = (⟨⟨2, 3, []⟩, ⟨2, 5, []⟩, 1, 3⟩ : Zo) := by decide +kernel
theorem ex_eq13 : equalZ (⟨⟨2, 3, []⟩, ⟨2, 5, []⟩, 1, 3⟩ : Zo) ⟨2, 4, []⟩ = (true, true, true) := by decide
theorem ex_eq13b : equalZ (⟨⟨2, 3, []⟩, ⟨2, 5, []⟩, 1, 3⟩ : Zo) ⟨2, 6, []⟩ = (true, true, false) := by decide
theorem ex_fits13 : ((⟨⟨2, 3, []⟩, ⟨2, 5, []⟩, 1, 3⟩ : Zo)).fits := ⟨⟨by decide, by decide, by decide, by decide⟩, ⟨by decide, by decide, by decide, by decide⟩, by decide, by decide, by decide, by decide⟩

set_option maxRecDepth 100000 in
set_option maxHeartbeats 2000000 in
theorem shown13_any (w : World) : Calls Try.prog 9 #[] w fun e w' => e = .returned (.bool true) ∧ Ext w w' := by
  have HF := Lib.hid (show ∀ v ∈ [(⟨2, 5, []⟩ : V), ⟨0, 0, []⟩, ⟨2, 3, []⟩], v.fits ∧ v.s.length ≤ 5000 from by
    intro v hv
    simp only [List.mem_cons, List.not_mem_nil, or_false] at hv
    rcases hv with rfl | rfl | rfl <;> exact ⟨⟨by decide, by decide, by decide, by decide⟩, by decide⟩)
  have HE4 := Lib.hid (show ∀ W, Calls Try.prog 22 #[(.agg #[.int .u8 2, .int .i64 3, .string ⟨#[]⟩, .int .u8 2, .int .i64 5, .string ⟨#[]⟩, .int .i64 1, .int .i64 3]), .agg #[.int .u8 2, .int .i64 4, .string ⟨#[]⟩]] W fun e w' => e = .returned (.agg #[.bool true, .bool true, .bool true]) ∧ Ext W w' from fun W => by
    have h := pEqualZ_any (⟨⟨2, 3, []⟩, ⟨2, 5, []⟩, 1, 3⟩ : Zo) ⟨2, 4, []⟩ W ex_fits13 ⟨by decide, by decide, by decide, by decide⟩ ⟨by decide, by decide⟩ (by decide)
    rw [ex_eq13] at h
    exact h)
  have HE6 := Lib.hid (show ∀ W, Calls Try.prog 22 #[(.agg #[.int .u8 2, .int .i64 3, .string ⟨#[]⟩, .int .u8 2, .int .i64 5, .string ⟨#[]⟩, .int .i64 1, .int .i64 3]), .agg #[.int .u8 2, .int .i64 6, .string ⟨#[]⟩]] W fun e w' => e = .returned (.agg #[.bool true, .bool true, .bool false]) ∧ Ext W w' from fun W => by
    have h := pEqualZ_any (⟨⟨2, 3, []⟩, ⟨2, 5, []⟩, 1, 3⟩ : Zo) ⟨2, 6, []⟩ W ex_fits13 ⟨by decide, by decide, by decide, by decide⟩ ⟨by decide, by decide⟩ (by decide)
    rw [ex_eq13b] at h
    exact h)
  have HQZ := Lib.hid (show ∀ W, (binOp .eql 26 (.agg #[.int .u8 2, .int .i64 3, .string ⟨#[]⟩, .int .u8 2, .int .i64 5, .string ⟨#[]⟩, .int .i64 1, .int .i64 3]) (.agg #[.int .u8 2, .int .i64 3, .string ⟨#[]⟩, .int .u8 2, .int .i64 5, .string ⟨#[]⟩, .int .i64 1, .int .i64 3])).run Try.prog W = .ok (.bool true) W from fun W => eq_zone_self (⟨⟨2, 3, []⟩, ⟨2, 5, []⟩, 1, 3⟩ : Zo) W)
  have HQ1 := Lib.hid (show ∀ W, (Op.equalIn 10000 40 (.agg #[.bool true, .bool true, .bool true]) (.agg #[.bool true, .bool true, .bool true])).run Try.prog W = .ok true W from fun W => eq_trip _ _ _ _ _ _ W)
  have HQ2 := Lib.hid (show ∀ W, (Op.equalIn 10000 40 (.agg #[.bool true, .bool true, .bool false]) (.agg #[.bool true, .bool true, .bool false])).run Try.prog W = .ok true W from fun W => eq_trip _ _ _ _ _ _ W)
  have HG := Lib.hid (show Try.prog.eqGuardType Try.prog.depth 40 = false by kernel_rfl)
  go_enter Try.func9, Try.ntmps9
  go_wp2_with fail
  refine (num13_any 5 w).mono ?_
  rintro e wa ⟨rfl, hxa⟩
  have HXA := Lib.hid hxa
  clear hxa
  go_wp2_with fail
  refine (num13_any 3 wa).mono ?_
  rintro e wb ⟨rfl, hxb⟩
  have HXB := Lib.hid (Ext.trans HXA.out hxb)
  clear hxb
  go_wp2_with fail
  have HN := Lib.hid (ext_new wb (.cells ([(⟨2, 5, []⟩ : V), ⟨0, 0, []⟩, ⟨2, 3, []⟩].flatMap V.cells).toArray 24))
  refine (pOfZ_any _ [(⟨2, 5, []⟩ : V), ⟨0, 0, []⟩, ⟨2, 3, []⟩] _ (rdVals_new (Blk.new wb ([(⟨2, 5, []⟩ : V), ⟨0, 0, []⟩, ⟨2, 3, []⟩].flatMap V.cells) 24) (by decide)) HF.out).mono ?_
  rintro e w1 ⟨rfl, hx1⟩
  rw [ex_of13]
  have HX1 := Lib.hid (Ext.trans HXB.out (Ext.trans HN.out hx1))
  clear hx1
  unfold Zo.val
  simp only
  have HB := Lib.hid (show Blk (w1.alloc (.cells #[.int .u8 2, .int .i64 3, .string ⟨#[]⟩, .int .u8 2, .int .i64 5, .string ⟨#[]⟩, .int .i64 1, .int .i64 3] 26)) w1.heap.size [.int .u8 2, .int .i64 3, .string ⟨#[]⟩, .int .u8 2, .int .i64 5, .string ⟨#[]⟩, .int .i64 1, .int .i64 3] 26 from Blk.new w1 [.int .u8 2, .int .i64 3, .string ⟨#[]⟩, .int .u8 2, .int .i64 5, .string ⟨#[]⟩, .int .i64 1, .int .i64 3] 26)
  have HX2 := Lib.hid (Ext.trans HX1.out (ext_new w1 (.cells #[.int .u8 2, .int .i64 3, .string ⟨#[]⟩, .int .u8 2, .int .i64 5, .string ⟨#[]⟩, .int .i64 1, .int .i64 3] 26)))
  go_upto_region 2 with fail
  generalize w1.alloc (.cells #[.int .u8 2, .int .i64 3, .string ⟨#[]⟩, .int .u8 2, .int .i64 5, .string ⟨#[]⟩, .int .i64 1, .int .i64 3] 26) = W at HB HX2 ⊢
  have p0 := later_cell (w := W) (b := w1.heap.size) (fun j u hj => HB.out.cell j u hj) 0 (.int .u8 2) rfl
  have p1 := later_cell (w := W) (b := w1.heap.size) (fun j u hj => HB.out.cell j u hj) 1 (.int .i64 3) rfl
  have p2 := later_cell (w := W) (b := w1.heap.size) (fun j u hj => HB.out.cell j u hj) 2 (.string ⟨#[]⟩) rfl
  have p3 := later_cell (w := W) (b := w1.heap.size) (fun j u hj => HB.out.cell j u hj) 3 (.int .u8 2) rfl
  have p4 := later_cell (w := W) (b := w1.heap.size) (fun j u hj => HB.out.cell j u hj) 4 (.int .i64 5) rfl
  have p5 := later_cell (w := W) (b := w1.heap.size) (fun j u hj => HB.out.cell j u hj) 5 (.string ⟨#[]⟩) rfl
  have p6 := later_cell (w := W) (b := w1.heap.size) (fun j u hj => HB.out.cell j u hj) 6 (.int .i64 1) rfl
  have p7 := later_cell (w := W) (b := w1.heap.size) (fun j u hj => HB.out.cell j u hj) 7 (.int .i64 3) rfl
  refine wp_region_segs Ext Ext.keeps [([0], some 1), ([], some 2), ([3, 4, 5, 6, 9], some 7), ([], some 8), ([10, 11, 12, 13, 16], some 14), ([], some 15), ([17, 18, 19], none)] (by kernel_rfl) (by kernel_rfl) (fun c a a' w e h => (by exact ⟨e ▸ h.1, h.2⟩)) ?_
  simp only [pickSegs, pickOps, List.map_cons, List.map_nil, Option.map_some, Option.map_none, Option.getD_some, List.getElem?_toArray, List.getElem?_cons_zero, List.getElem?_cons_succ]
  refine wpSegs_some fun K hK => ?_
  repeat go_big_quiet_step (fail)
  refine wpQuiet_nil ?_
  clear p0 p1 p2 p3 p4 p5 p6 p7
  go_wp2_with fail
  refine (num13_any 3 _).mono ?_
  rintro e W3 ⟨rfl, hx⟩
  have HH3 := Lib.hid hx
  have HB3 := Lib.hid ((HB.out.ext (Ext.drew W)).ext hx)
  have HX3 := Lib.hid (Ext.trans (Ext.trans HX2.out (Ext.drew W)) hx)
  clear hx
  go_wp2_with fail
  refine ⟨HH3.out, hK _ _ ?_⟩
  clear hK K
  refine wpSegs_some fun K hK => ?_
  refine wpQuiet_nil ?_
  go_wp2_with fail
  refine (num13_any 5 _).mono ?_
  rintro e W4 ⟨rfl, hx⟩
  have HH4 := Lib.hid hx
  have HB4 := Lib.hid (HB3.out.ext hx)
  have HX4 := Lib.hid (Ext.trans HX3.out hx)
  clear hx
  go_wp2_with fail
  refine ⟨HH4.out, hK _ _ ?_⟩
  clear hK K
  have hqz := HQZ.out
  have p0 := now_cell (w := W4) (b := w1.heap.size) (fun j u hj => HB4.out.cell j u hj) 0 (.int .u8 2) rfl
  have p1 := now_cell (w := W4) (b := w1.heap.size) (fun j u hj => HB4.out.cell j u hj) 1 (.int .i64 3) rfl
  have p2 := now_cell (w := W4) (b := w1.heap.size) (fun j u hj => HB4.out.cell j u hj) 2 (.string ⟨#[]⟩) rfl
  have p3 := now_cell (w := W4) (b := w1.heap.size) (fun j u hj => HB4.out.cell j u hj) 3 (.int .u8 2) rfl
  have p4 := now_cell (w := W4) (b := w1.heap.size) (fun j u hj => HB4.out.cell j u hj) 4 (.int .i64 5) rfl
  have p5 := now_cell (w := W4) (b := w1.heap.size) (fun j u hj => HB4.out.cell j u hj) 5 (.string ⟨#[]⟩) rfl
  have p6 := now_cell (w := W4) (b := w1.heap.size) (fun j u hj => HB4.out.cell j u hj) 6 (.int .i64 1) rfl
  have p7 := now_cell (w := W4) (b := w1.heap.size) (fun j u hj => HB4.out.cell j u hj) 7 (.int .i64 3) rfl
  refine wpSegs_some fun K hK => ?_
  repeat go_big_quiet_step (fail)
  refine wpQuiet_nil ?_
  clear p0 p1 p2 p3 p4 p5 p6 p7
  clear hqz
  go_wp2_with fail
  refine (num13_any 4 _).mono ?_
  rintro e W5 ⟨rfl, hx⟩
  have HH5 := Lib.hid hx
  have HB5 := Lib.hid (HB4.out.ext hx)
  have HX5 := Lib.hid (Ext.trans HX4.out hx)
  clear hx
  go_wp2_with fail
  refine ⟨HH5.out, hK _ _ ?_⟩
  clear hK K
  refine wpSegs_some fun K hK => ?_
  refine wpQuiet_nil ?_
  go_wp2_with fail
  refine (HE4.out _).mono ?_
  rintro e W6 ⟨rfl, hx⟩
  have HH6 := Lib.hid hx
  have HB6 := Lib.hid (HB5.out.ext hx)
  have HX6 := Lib.hid (Ext.trans HX5.out hx)
  clear hx
  go_wp2_with fail
  refine ⟨HH6.out, hK _ _ ?_⟩
  clear hK K
  have hq1 := HQ1.out
  have hg := HG.out
  have p0 := now_cell (w := W6) (b := w1.heap.size) (fun j u hj => HB6.out.cell j u hj) 0 (.int .u8 2) rfl
  have p1 := now_cell (w := W6) (b := w1.heap.size) (fun j u hj => HB6.out.cell j u hj) 1 (.int .i64 3) rfl
  have p2 := now_cell (w := W6) (b := w1.heap.size) (fun j u hj => HB6.out.cell j u hj) 2 (.string ⟨#[]⟩) rfl
  have p3 := now_cell (w := W6) (b := w1.heap.size) (fun j u hj => HB6.out.cell j u hj) 3 (.int .u8 2) rfl
  have p4 := now_cell (w := W6) (b := w1.heap.size) (fun j u hj => HB6.out.cell j u hj) 4 (.int .i64 5) rfl
  have p5 := now_cell (w := W6) (b := w1.heap.size) (fun j u hj => HB6.out.cell j u hj) 5 (.string ⟨#[]⟩) rfl
  have p6 := now_cell (w := W6) (b := w1.heap.size) (fun j u hj => HB6.out.cell j u hj) 6 (.int .i64 1) rfl
  have p7 := now_cell (w := W6) (b := w1.heap.size) (fun j u hj => HB6.out.cell j u hj) 7 (.int .i64 3) rfl
  refine wpSegs_some fun K hK => ?_
  repeat go_big_quiet_step (fail)
  refine wpQuiet_nil ?_
  clear p0 p1 p2 p3 p4 p5 p6 p7
  clear hq1 hg
  go_wp2_with fail
  refine (num13_any 6 _).mono ?_
  rintro e W7 ⟨rfl, hx⟩
  have HH7 := Lib.hid hx
  have HB7 := Lib.hid (HB6.out.ext hx)
  have HX7 := Lib.hid (Ext.trans HX6.out hx)
  clear hx
  go_wp2_with fail
  refine ⟨HH7.out, hK _ _ ?_⟩
  clear hK K
  refine wpSegs_some fun K hK => ?_
  refine wpQuiet_nil ?_
  go_wp2_with fail
  refine (HE6.out _).mono ?_
  rintro e W8 ⟨rfl, hx⟩
  have HH8 := Lib.hid hx
  have HB8 := Lib.hid (HB7.out.ext hx)
  have HX8 := Lib.hid (Ext.trans HX7.out hx)
  clear hx
  go_wp2_with fail
  refine ⟨HH8.out, hK _ _ ?_⟩
  clear hK K
  have hq2 := HQ2.out
  have hg := HG.out
  refine wpSegs_none ?_
  repeat go_big_quiet_step (fail)
  refine wpQuiet_nil (wpSegs_nil ?_)
  clear hq2 hg
  go_wp2_with fail
  go_ret
  exact ⟨rfl, HX8.out⟩
end
end Go.Proofs.Ytlbilmmjcfiokaa
