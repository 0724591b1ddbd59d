/-
  The laws' own helpers of layer 13: num, short, few, shown.
-/
import Derived.Test.YtlbilmmjcfiokaaZoneP2
import Derived.Test.YtlbilmmjcfiokaaZoneP5
namespace Go.Proofs.Ytlbilmmjcfiokaa
open Go.ChangeAt Go.RowKit Go.BigFrame

/-- How many are few. -/
def fewNZ : Nat → List V → Nat
  | _, [] => 0
  | j, v :: t => if 300 ≤ j ∨ 1100 < v.s.length then 0 else fewNZ (j + 1) t + 1
def fewZ (l : List V) : List V := l.take (fewNZ 0 l)
theorem fewNZ_le (l : List V) : ∀ j, j ≤ 300 → fewNZ j l ≤ 300 - j := by
  induction l with
  | nil => intro j _; exact Nat.zero_le _
  | cons v t ih =>
    intro j hj
    unfold fewNZ
    split
    · exact Nat.zero_le _
    · have := ih (j + 1) (by omega)
      omega
theorem fewNZ_small (l : List V) : ∀ j, ∀ v ∈ l.take (fewNZ j l), v.s.length ≤ 1100 := by
  induction l with
  | nil => intro j v hv; cases hv
  | cons a t ih =>
    intro j v hv
    unfold fewNZ at hv
    split at hv
    · cases hv
    · rw [List.take_succ_cons] at hv
      rcases List.mem_cons.1 hv with rfl | hv
      · omega
      · exact ih _ v hv
theorem fewZ_len (l : List V) : (fewZ l).length ≤ 300 := by
  have := fewNZ_le l 0 (by omega)
  unfold fewZ
  rw [List.length_take]
  omega
theorem fewZ_mem {l : List V} {v : V} (h : v ∈ fewZ l) : v ∈ l ∧ v.s.length ≤ 1100 := ⟨List.mem_of_mem_take h, fewNZ_small l 0 v h⟩

theorem num13_any (n : Int) (w : World) : Calls Try.prog 31 #[.int .i64 n] w fun e w' => e = .returned (.agg #[.int .u8 2, .int .i64 n, .string ⟨#[]⟩]) ∧ Ext w w' := by
  go_enter Try.func31, Try.ntmps31
  go_wp2_with fail
  refine bodyPost_ret (results_cell_row (P := Try.prog) (fn := Try.f31) rfl _ _ w.heap.size 24 _ (0, 0) _ rfl (heap_alloc_new _ _) Try.underlying24 rfl (by kernel_rfl)) rfl ?_
  exact ⟨rfl, ext_new w _⟩

instance (z : Zo) (n : Nat) : Decidable (z.small n) := by unfold Zo.small; exact inferInstance
set_option maxRecDepth 100000 in
theorem short13_any (z : Zo) (w : World) (hz : z.small 9223372036854775807) : Calls Try.prog 10 #[z.val] w fun e w' => e = .returned (.bool (decide (z.small 1100))) ∧ Ext w w' := by
  obtain ⟨⟨ak, an, as'⟩, ⟨bk, bn, bs⟩, pn, pm⟩ := z
  have ha : as'.length ≤ 9223372036854775807 := hz.1
  have hb : bs.length ≤ 9223372036854775807 := hz.2
  have HX := Lib.hid (ext_new w (.cells #[.int .u8 ak, .int .i64 an, .string ⟨as'.toArray⟩, .int .u8 bk, .int .i64 bn, .string ⟨bs.toArray⟩, .int .i64 pn, .int .i64 pm] 26))
  have HD := Lib.hid (show (Zo.small ⟨⟨ak, an, as'⟩, ⟨bk, bn, bs⟩, pn, pm⟩ 1100) ↔ (as'.length ≤ 1100 ∧ bs.length ≤ 1100) from Iff.rfl)
  unfold Zo.val
  simp only
  by_cases h1 : as'.length ≤ 1100
  · have d1 : decide ((as'.length : Int) ≤ 1100) = true := decide_eq_true (by omega)
    by_cases h2 : bs.length ≤ 1100
    · have d2 : decide ((bs.length : Int) ≤ 1100) = true := decide_eq_true (by omega)
      have HQ := Lib.hid (show decide (Zo.small ⟨⟨ak, an, as'⟩, ⟨bk, bn, bs⟩, pn, pm⟩ 1100) = true from decide_eq_true (HD.out.2 ⟨h1, h2⟩))
      clear h1 h2 hz
      go_enter Try.func10, Try.ntmps10
      go_wp2_with fail
      go_ret
      exact ⟨by rw [HQ.out]; rfl, HX.out⟩
    · have d2 : decide ((bs.length : Int) ≤ 1100) = false := decide_eq_false (by omega)
      have HQ := Lib.hid (show decide (Zo.small ⟨⟨ak, an, as'⟩, ⟨bk, bn, bs⟩, pn, pm⟩ 1100) = false from decide_eq_false (fun h => h2 (HD.out.1 h).2))
      clear h1 h2 hz
      go_enter Try.func10, Try.ntmps10
      go_wp2_with fail
      go_ret
      exact ⟨by rw [HQ.out]; rfl, HX.out⟩
  · have d1 : decide ((as'.length : Int) ≤ 1100) = false := decide_eq_false (by omega)
    have HQ := Lib.hid (show decide (Zo.small ⟨⟨ak, an, as'⟩, ⟨bk, bn, bs⟩, pn, pm⟩ 1100) = false from decide_eq_false (fun h => h1 (HD.out.1 h).1))
    clear h1 hz
    go_enter Try.func10, Try.ntmps10
    go_wp2_with fail
    go_ret
    exact ⟨by rw [HQ.out]; rfl, HX.out⟩

/-- Without an address there is nothing, and no room. -/
def NilOk (u : Value) : Prop := ∀ n c, u = .slice none n c → n = 0 ∧ c = 0
set_option maxRecDepth 100000 in
set_option maxHeartbeats 1000000 in
theorem few13_any (u : Value) (l : List V) (w : World) (hu : RdVals w u l) :
    Calls Try.prog 12 #[u] w fun e w' => (∃ v, e = .returned v ∧ RdVals w v (fewZ l) ∧ (NilOk u → NilOk v)) ∧ w = w' := by
  have HU := Lib.hid hu
  obtain ⟨ao, cap, rfl, -, -⟩ := hu.shape
  obtain ⟨-, h1, h2, hat⟩ := hu.plain
  have HAT := Lib.hid hat
  have HCUT := Lib.hid (fun K (hK : K ≤ l.length) (e : fewNZ 0 l = K) => (show RdVals w (.slice ao K cap) (fewZ l) ∧ (NilOk (.slice ao l.length cap) → NilOk (.slice ao K cap)) by
    refine ⟨?_, fun h n c hc => ?_⟩
    · unfold fewZ
      rw [e]
      exact HU.out.take K hK
    · simp only [Value.slice.injEq] at hc
      obtain ⟨rfl, rfl, rfl⟩ := hc
      obtain ⟨h1, h2⟩ := h _ _ rfl
      exact ⟨by omega, h2⟩))
  obtain ⟨N, hN⟩ : ∃ N, l.length = N := ⟨_, rfl⟩
  have HN := Lib.hid hN
  unfold maxLen at h2
  rw [hN] at h1 HCUT ⊢
  clear hat hN hu HU
  go_enter Try.func12, Try.ntmps12
  go_wp2_with fail
  go_loopw [3, 6] (fun _ i wr => ∃ j : Nat, j ≤ N ∧ i = .int .i64 j ∧ fewNZ 0 l = j + fewNZ j (l.drop j) ∧ w = wr) (fun _ i _ => N - (intOf i).toNat)
  case atStart => exact ⟨0, Nat.zero_le _, rfl, by rw [Nat.zero_add]; rfl, rfl⟩
  case round =>
    obtain ⟨j, hj, rfl, hf, rfl⟩ := hrel
    have HF := Lib.hid hf
    clear hf
    by_cases hlt : j < N
    · have hjl : j < l.length := by have := HN.out; omega
      obtain ⟨g, off, rfl, -, -, hcx⟩ := HAT.out j hjl
      have HD := Lib.hid (List.drop_eq_getElem_cons hjl)
      generalize l[j] = v at hcx HD
      have HSTEP := Lib.hid (show fewNZ j (l.drop j) = if 300 ≤ j ∨ 1100 < v.s.length then 0 else fewNZ (j + 1) (l.drop (j + 1)) + 1 by rw [HD.out]; rfl)
      have hjc : j ≤ cap := by omega
      generalize v.s = t at hcx HSTEP
      by_cases hstop : 300 ≤ j ∨ 1100 < t.length
      · have HR := Lib.hid (HCUT.out j hj (by rw [HF.out, HSTEP.out, if_pos hstop]; rfl))
        by_cases q1 : 300 ≤ j
        · have d1 : decide ((300 : Int) ≤ (j : Int)) = true := decide_eq_true (by omega)
          clear hstop
          go_wp2_with fail
          go_ret
          exact ⟨⟨_, rfl, HR.out.1, HR.out.2⟩, rfl⟩
        · have d1 : decide ((300 : Int) ≤ (j : Int)) = false := decide_eq_false (by omega)
          have d2 : decide ((1100 : Int) < (t.length : Int)) = true := decide_eq_true (by omega)
          clear hstop
          go_wp2_with fail
          go_ret
          exact ⟨⟨_, rfl, HR.out.1, HR.out.2⟩, rfl⟩
      · have HNX := Lib.hid (show fewNZ 0 l = (j + 1) + fewNZ (j + 1) (l.drop (j + 1)) by rw [HF.out, HSTEP.out, if_neg hstop]; omega)
        have d1 : decide ((300 : Int) ≤ (j : Int)) = false := decide_eq_false (by omega)
        have d2 : decide ((1100 : Int) < (t.length : Int)) = false := decide_eq_false (by omega)
        clear hstop
        go_wp2_with fail
        go_roundw
        case rel => exact ⟨j + 1, by omega, by go_num, HNX.out, trivial⟩
        case measure => simp [intOf]; omega
    · have hjN : j = N := by omega
      have HR := Lib.hid (HCUT.out N (Nat.le_refl _) (by rw [HF.out, List.drop_eq_nil_of_le (by have := HN.out; omega), hjN]; rfl))
      clear hjN
      go_wp2_with fail
      go_ret
      exact ⟨⟨_, rfl, HR.out.1, HR.out.2⟩, rfl⟩

theorem eq_zone_self (z : Zo) (w : World) : (binOp .eql 26 z.val z.val).run Try.prog w = .ok (.bool true) w := by
  obtain ⟨⟨ak, an, as'⟩, ⟨bk, bn, bs⟩, pn, pm⟩ := z
  unfold Zo.val
  simp [go_sem]
theorem eq_trip (a b c d e f : Bool) (w : World) :
    (Op.equalIn 10000 40 (.agg #[.bool a, .bool b, .bool c]) (.agg #[.bool d, .bool e, .bool f])).run Try.prog w = .ok (decide ((a, b, c) = (d, e, f))) w := by
  have e1 := fun (a b : Bool) (w : World) => run_equalIn_bool (P := Try.prog) w 9998 4 a b Try.underlying4
  have u3 := Try.isAgg4
  have z3 := Try.sizeOf4
  rw [show (10000 : Nat) = 9999 + 1 from rfl, Op.equalIn]
  rw [show (9999 : Nat) = 9998 + 1 from rfl]
  generalize (9998 : Nat) = d' at e1 ⊢
  simp [run_underlying Try.underlying40, z3, e1, Std.Legacy.Range.forIn_eq_forIn_range', List.range', part, u3]
  cases a <;> cases b <;> cases c <;> cases d <;> cases e <;> cases f <;> simp

end Go.Proofs.Ytlbilmmjcfiokaa
