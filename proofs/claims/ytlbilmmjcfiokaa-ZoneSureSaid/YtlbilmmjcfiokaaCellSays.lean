/-
  The program's contracts of layer 4: boxes, and which values may be.
-/
import Derived.Test.YtlbilmmjcfiokaaCellSay1
import Derived.Test.YtlbilmmjcfiokaaCellRefPut
namespace Go.Proofs.Ytlbilmmjcfiokaa
open Go.RowKit Go.BigFrame

/-- A value in Go. -/
def rawV (v : V) : Value := if v.k = 1 then .iface 4 (.bool (decide (v.n ≠ 0))) else if v.k = 2 then .iface 3 (.int .i64 v.n) else if v.k = 3 then .iface 9 (.string ⟨v.s.toArray⟩) else .nilIface
def boxV (v : V) : Value := if rightV v = true then rawV v else .nilIface
/-- What the program boxes, whatever may be. -/
def boxedV (v : V) : Value := if v.k = 1 then .iface 4 (.bool (v.n == 1)) else if v.k = 2 then .iface 3 (.int .i64 v.n) else if v.k = 3 then .iface 9 (.string ⟨v.s.toArray⟩) else .nilIface

theorem boxed_raw (v : V) (h : rightV v = true) : boxedV v = rawV v := by
  unfold boxedV rawV
  by_cases h1 : v.k = 1
  · rw [if_pos h1, if_pos h1]
    have : v.n = 0 ∨ v.n = 1 := by rcases (rightV_iff v).1 h with h | h | h | h <;> omega
    rcases this with h | h <;> rw [h] <;> rfl
  · rw [if_neg h1, if_neg h1]

theorem pBoxed_any (v : V) (w : World) : Calls Try.prog 55 #[v.val] w fun e w' => e = .returned (boxedV v) ∧ Ext w w' := by
  obtain ⟨k, n, s⟩ := v
  unfold boxedV V.val
  simp only
  by_cases h1 : k = 1
  · subst h1
    rw [if_pos rfl]
    go_enter Try.func55, Try.ntmps55
    go_wp2_with fail
    go_ret
    exact ⟨rfl, ext_one w _⟩
  · have q1 : (k == 1) = false := beq_eq_false_iff_ne.2 h1
    rw [if_neg h1]
    clear h1
    by_cases h2 : k = 2
    · subst h2
      rw [if_pos rfl]
      go_enter Try.func55, Try.ntmps55
      go_wp2_with fail
      go_ret
      exact ⟨rfl, ext_one w _⟩
    · have q2 : (k == 2) = false := beq_eq_false_iff_ne.2 h2
      rw [if_neg h2]
      clear h2
      by_cases h3 : k = 3
      · subst h3
        rw [if_pos rfl]
        go_enter Try.func55, Try.ntmps55
        go_wp2_with fail
        go_ret
        exact ⟨rfl, ext_one w _⟩
      · have q3 : (k == 3) = false := beq_eq_false_iff_ne.2 h3
        rw [if_neg h3]
        clear h3
        go_enter Try.func55, Try.ntmps55
        go_wp2_with fail
        go_ret
        exact ⟨rfl, ext_one w _⟩

theorem pLong_text (s : List UInt8) (w : World) : Calls Try.prog 76 #[.iface 9 (.string ⟨s.toArray⟩)] w fun e w' => e = .returned (.bool (decide (1024 < (s.length : Int)))) ∧ w' = w := by
  have hA := fun w => (as_hit (.string ⟨s.toArray⟩) w).2.2
  generalize hd : decide (1024 < (s.length : Int)) = B
  go_enter Try.func76, Try.ntmps76
  go_wp2_with fail
  go_ret
  exact ⟨rfl, rfl⟩
theorem pLong_other (T : TypeId) (x : Value) (hT : T ≠ 9) (w : World) : Calls Try.prog 76 #[.iface T x] w fun e w' => e = .returned (.bool false) ∧ w' = w := by
  have hA := fun w => (as_miss T x w).2.2 hT
  clear hT
  go_enter Try.func76, Try.ntmps76
  go_wp2_with fail
  go_ret
  exact ⟨rfl, rfl⟩
theorem pLong_nil (w : World) : Calls Try.prog 76 #[.nilIface] w fun e w' => e = .returned (.bool false) ∧ w' = w := by
  have hA := fun w => (as_nil w).2.2
  go_enter Try.func76, Try.ntmps76
  go_wp2_with fail
  go_ret
  exact ⟨rfl, rfl⟩

theorem pBit_any (b : Bool) (w : World) : Calls Try.prog 92 #[.bool b] w fun e w' => e = .returned (.int .i64 (if b = true then 1 else 0)) ∧ w' = w := by
  cases b with
  | true =>
    go_enter Try.func92, Try.ntmps92
    go_wp2_with fail
    go_ret
    exact ⟨rfl, rfl⟩
  | false =>
    go_enter Try.func92, Try.ntmps92
    go_wp2_with fail
    go_ret
    exact ⟨rfl, rfl⟩

/-- A value and whether there is one. -/
def pairV (k n : Int) (s : List UInt8) (ok : Bool) : Value := .tuple #[.agg #[.int .u8 k, .int .i64 n, .string ⟨s.toArray⟩], .bool ok]

theorem pUn_nil (w : World) : Calls Try.prog 77 #[.nilIface] w fun e w' => e = .returned (pairV 0 0 [] true) ∧ Ext w w' := by
  go_enter Try.func77, Try.ntmps77
  go_wp2_with fail
  refine bodyPost_ret (v := .tuple #[.agg #[.int .u8 0, .int .i64 0, .string ⟨#[]⟩], .bool true]) (by simp [results, Try.results77, go_sem]) rfl ⟨rfl, ext_one w _⟩
theorem pUn_bool (b : Bool) (w : World) : Calls Try.prog 77 #[.iface 4 (.bool b)] w fun e w' => e = .returned (pairV 1 (if b = true then 1 else 0) [] true) ∧ Ext w w' := by
  have hA := fun w => (as_hit (.bool b) w).1
  have HB := Lib.hid (pBit_any b)
  generalize (if b = true then 1 else 0 : Int) = R at HB ⊢
  go_enter Try.func77, Try.ntmps77
  go_wp2_with fail
  refine (HB.out _).mono ?_
  rintro e w2 ⟨rfl, rfl⟩
  go_wp2_with fail
  refine bodyPost_ret (v := .tuple #[.agg #[.int .u8 1, .int .i64 R, .string ⟨#[]⟩], .bool true]) (by simp [results, Try.results77, go_sem]) rfl ⟨rfl, ext_one w _⟩
theorem pUn_int (n : Int) (w : World) : Calls Try.prog 77 #[.iface 3 (.int .i64 n)] w fun e w' => e = .returned (pairV 2 n [] true) ∧ Ext w w' := by
  have hA := fun w => (as_miss 3 (.int .i64 n) w).1 (by decide)
  have hB := fun w => (as_hit (.int .i64 n) w).2.1
  go_enter Try.func77, Try.ntmps77
  go_wp2_with fail
  refine bodyPost_ret (v := .tuple #[.agg #[.int .u8 2, .int .i64 n, .string ⟨#[]⟩], .bool true]) (by simp [results, Try.results77, go_sem]) rfl ⟨rfl, ext_one w _⟩
theorem pUn_text (s : List UInt8) (w : World) : Calls Try.prog 77 #[.iface 9 (.string ⟨s.toArray⟩)] w fun e w' => e = .returned (pairV 3 0 s true) ∧ Ext w w' := by
  have hA := fun w => (as_miss 9 (.string ⟨s.toArray⟩) w).1 (by decide)
  have hB := fun w => (as_miss 9 (.string ⟨s.toArray⟩) w).2.1 (by decide)
  have hC := fun w => (as_hit (.string ⟨s.toArray⟩) w).2.2
  go_enter Try.func77, Try.ntmps77
  go_wp2_with fail
  refine bodyPost_ret (v := .tuple #[.agg #[.int .u8 3, .int .i64 0, .string ⟨s.toArray⟩], .bool true]) (by simp [results, Try.results77, go_sem]) rfl ⟨rfl, ext_one w _⟩
theorem pUn_other (T : TypeId) (x : Value) (hT : T ≠ 4 ∧ T ≠ 3 ∧ T ≠ 9) (w : World) : Calls Try.prog 77 #[.iface T x] w fun e w' => e = .returned (pairV 0 0 [] false) ∧ Ext w w' := by
  have hA := fun w => (as_miss T x w).1 hT.1
  have hB := fun w => (as_miss T x w).2.1 hT.2.1
  have hC := fun w => (as_miss T x w).2.2 hT.2.2
  clear hT
  go_enter Try.func77, Try.ntmps77
  go_wp2_with fail
  refine bodyPost_ret (v := .tuple #[.agg #[.int .u8 0, .int .i64 0, .string ⟨#[]⟩], .bool false]) (by simp [results, Try.results77, go_sem]) rfl ⟨rfl, ext_one w _⟩

set_option maxRecDepth 100000 in
/-- Unbox, of what its two parts say. -/
theorem pUnbox_of (x : Value) (k n : Int) (s : List UInt8) (ok : Bool) (hl : ∀ w, Calls Try.prog 76 #[x] w fun e w' => e = .returned (.bool false) ∧ w' = w)
    (hu : ∀ w, Calls Try.prog 77 #[x] w fun e w' => e = .returned (pairV k n s ok) ∧ Ext w w') (w : World) :
    Calls Try.prog 54 #[x] w fun e w' => e = .returned (pairV k n s ok) ∧ Ext w w' := by
  have HL := Lib.hid hl
  have HU := Lib.hid hu
  clear hl hu
  unfold pairV at HU ⊢
  go_enter Try.func54, Try.ntmps54
  go_wp2_with fail
  refine (HL.out _).mono ?_
  rintro e w2 ⟨rfl, rfl⟩
  go_wp2_with fail
  refine (HU.out _).mono ?_
  rintro e w3 ⟨rfl, hb⟩
  have HC := Lib.hid (kept_cell (new_cell w [.int .u8 0, .int .i64 0, .string ⟨#[]⟩] 24) hb)
  have hf : ∀ j, w3.frozen? ⟨w.heap.size, j, none⟩ = false := fun j => by
    rw [frozen_ext hb (by simp)]
    unfold World.frozen?
    rw [heap_alloc_new]
    simp
  have HX := Lib.hid (Ext.trans (ext_one _ _) hb)
  have c0 := HC.out 0 _ rfl
  have c1 := HC.out 1 _ rfl
  have c2 := HC.out 2 _ rfl
  have f0 := hf 0
  have f1 := hf 1
  have f2 := hf 2
  have HS := Lib.hid (three_stored HC.out (.int .u8 k) (.int .i64 n) (.string ⟨s.toArray⟩))
  clear hb hf
  go_wp2_with fail
  have k0 := HS.out 0 _ rfl
  have k1 := HS.out 1 _ rfl
  have k2 := HS.out 2 _ rfl
  clear c0 c1 c2 f0 f1 f2
  refine bodyPost_ret (v := .tuple #[.agg #[.int .u8 k, .int .i64 n, .string ⟨s.toArray⟩], .bool ok]) (by simp [results, Try.results54, go_sem, k0, k1, k2]) rfl ⟨rfl, ?_⟩
  exact ((HX.out.setCell (p := ⟨w.heap.size, 0, none⟩) (Nat.le_refl _) _).setCell (p := ⟨w.heap.size, 1, none⟩) (Nat.le_refl _) _).setCell (p := ⟨w.heap.size, 2, none⟩) (Nat.le_refl _) _

theorem Unbox_nil (w : World) :
    Calls Try.prog 54 #[.nilIface] w fun e w' => e = .returned (.tuple #[.agg #[.int .u8 0, .int .i64 0, .string ⟨#[]⟩], .bool true]) ∧ Ext w w' := pUnbox_of _ _ _ [] _ pLong_nil pUn_nil w
theorem Unbox_bool (b : Bool) (w : World) :
    Calls Try.prog 54 #[.iface 4 (.bool b)] w fun e w' => e = .returned (.tuple #[.agg #[.int .u8 1, .int .i64 (if b = true then 1 else 0), .string ⟨#[]⟩], .bool true]) ∧ Ext w w' :=
  pUnbox_of _ _ _ [] _ (pLong_other _ _ (by decide)) (pUn_bool b) w
theorem Unbox_int (n : Int) (w : World) :
    Calls Try.prog 54 #[.iface 3 (.int .i64 n)] w fun e w' => e = .returned (.tuple #[.agg #[.int .u8 2, .int .i64 n, .string ⟨#[]⟩], .bool true]) ∧ Ext w w' :=
  pUnbox_of _ _ _ [] _ (pLong_other _ _ (by decide)) (pUn_int n) w
theorem Unbox_text (s : List UInt8) (hs : s.length ≤ 1024) (w : World) :
    Calls Try.prog 54 #[.iface 9 (.string ⟨s.toArray⟩)] w fun e w' => e = .returned (.tuple #[.agg #[.int .u8 3, .int .i64 0, .string ⟨s.toArray⟩], .bool true]) ∧ Ext w w' :=
  pUnbox_of _ _ _ s _ (by have h := pLong_text s; rw [decide_eq_false (by omega)] at h; exact h) (pUn_text s) w
theorem Unbox_long (s : List UInt8) (hs : 1024 < s.length) (hl : s.length ≤ 5000) (w : World) :
    Calls Try.prog 54 #[.iface 9 (.string ⟨s.toArray⟩)] w fun e w' => e = .returned (.tuple #[.agg #[.int .u8 0, .int .i64 0, .string ⟨#[]⟩], .bool false]) ∧ Ext w w' := by
  have HL := pLong_text s
  rw [decide_eq_true (by omega)] at HL
  replace HL := Lib.hid HL
  clear hs hl
  go_enter Try.func54, Try.ntmps54
  go_wp2_with fail
  refine (HL.out _).mono ?_
  rintro e w2 ⟨rfl, rfl⟩
  go_wp2_with fail
  refine bodyPost_ret (v := .tuple #[.agg #[.int .u8 0, .int .i64 0, .string ⟨#[]⟩], .bool false]) (by simp [results, Try.results54, go_sem]) rfl ⟨rfl, ext_one w _⟩
theorem Unbox_other (T : TypeId) (x : Value) (hT : T ≠ 4 ∧ T ≠ 3 ∧ T ≠ 9) (w : World) :
    Calls Try.prog 54 #[.iface T x] w fun e w' => e = .returned (.tuple #[.agg #[.int .u8 0, .int .i64 0, .string ⟨#[]⟩], .bool false]) ∧ Ext w w' :=
  pUnbox_of _ _ _ [] _ (pLong_other _ _ hT.2.2) (pUn_other T x hT) w

set_option maxRecDepth 100000 in
/-- Right, of what its box is unboxed to. -/
theorem pRight_of (v : V) (k n : Int) (s : List UInt8) (ok : Bool)
    (hu : ∀ w, Calls Try.prog 54 #[boxedV v] w fun e w' => e = .returned (pairV k n s ok) ∧ Ext w w') (w : World) :
    Calls Try.prog 30 #[v.val] w fun e w' => e = .returned (.bool (ok && decide ((⟨k, n, s⟩ : V) = v))) ∧ Ext w w' := by
  have HB := Lib.hid (pBoxed_any v)
  have HU := Lib.hid hu
  have hEQ := fun w => eq_val ⟨k, n, s⟩ v w
  clear hu
  unfold pairV at HU
  generalize boxedV v = X at HB HU
  generalize decide ((⟨k, n, s⟩ : V) = v) = D at hEQ ⊢
  obtain ⟨k', n', s'⟩ := v
  unfold V.val at HB hEQ ⊢
  simp only at HB hEQ ⊢
  have HE := Lib.hid hEQ
  clear hEQ
  go_enter Try.func30, Try.ntmps30
  go_wp2_with fail
  refine (HB.out _).mono ?_
  rintro e w2 ⟨rfl, hb⟩
  have HX := Lib.hid (Ext.trans (ext_one _ _) hb)
  have HC := Lib.hid (kept_cell (new_cell w [.int .u8 k', .int .i64 n', .string ⟨s'.toArray⟩] 24) hb)
  clear hb
  go_wp2_with fail
  refine (HU.out _).mono ?_
  rintro e w3 ⟨rfl, hb⟩
  have HX3 := Lib.hid (Ext.trans HX.out hb)
  have hc := kept_cell HC.out (Ext.trans hb (ext_one w3 (.cells #[.int .u8 k, .int .i64 n, .string ⟨s.toArray⟩] 24)))
  have c0 := hc 0 _ rfl
  have c1 := hc 1 _ rfl
  have c2 := hc 2 _ rfl
  have hEQ := HE.out
  clear hb hc
  cases ok with
  | true =>
    go_wp2_with fail
    go_ret
    exact ⟨rfl, Ext.trans HX3.out (ext_one _ _)⟩
  | false =>
    go_wp2_with fail
    go_ret
    exact ⟨rfl, Ext.trans HX3.out (ext_one _ _)⟩

theorem Right_any (v : V) (hv : v.fits) (hl : v.s.length ≤ 5000) (w : World) :
    Calls Try.prog 30 #[v.val] w fun e w' => e = .returned (.bool (rightV v)) ∧ Ext w w' := by
  have fin : ∀ b c : Bool, b = c → (Calls Try.prog 30 #[v.val] w fun e w' => e = .returned (.bool b) ∧ Ext w w') → (Calls Try.prog 30 #[v.val] w fun e w' => e = .returned (.bool c) ∧ Ext w w') := by
    rintro b _ rfl h
    exact h
  have hb : ∀ x, boxedV v = x → boxedV v = x := fun _ h => h
  obtain ⟨k, n, s⟩ := v
  simp only at hl
  have h0 := hv.k0
  simp only at h0
  by_cases h1 : k = 1
  · subst h1
    have e : boxedV ⟨1, n, s⟩ = .iface 4 (.bool (n == 1)) := rfl
    refine fin _ _ ?_ (pRight_of _ 1 (if (n == 1) = true then 1 else 0) [] true (by rw [e]; exact Unbox_bool _) w)
    rw [Bool.eq_iff_iff, rightV_iff]
    simp only [Bool.true_and, decide_eq_true_eq, V.mk.injEq, beq_iff_eq, true_and]
    constructor
    · rintro ⟨h, rfl⟩
      split at h <;> simp <;> omega
    · rintro (h | h | h | h)
      · omega
      · refine ⟨?_, h.2.symm⟩
        split <;> omega
      · omega
      · omega
  · by_cases h2 : k = 2
    · subst h2
      have e : boxedV ⟨2, n, s⟩ = .iface 3 (.int .i64 n) := rfl
      refine fin _ _ ?_ (pRight_of _ 2 n [] true (by rw [e]; exact Unbox_int _) w)
      rw [Bool.eq_iff_iff, rightV_iff]
      simp
    · by_cases h3 : k = 3
      · subst h3
        have e : boxedV ⟨3, n, s⟩ = .iface 9 (.string ⟨s.toArray⟩) := rfl
        by_cases hs : s.length ≤ 1024
        · refine fin _ _ ?_ (pRight_of _ 3 0 s true (by rw [e]; exact Unbox_text s hs) w)
          rw [Bool.eq_iff_iff, rightV_iff]
          simp [hs]
          exact eq_comm
        · refine fin _ _ ?_ (pRight_of _ 0 0 [] false (by rw [e]; exact Unbox_long s (by omega) hl) w)
          rw [Bool.eq_iff_iff, rightV_iff]
          simp
          omega
      · have e : boxedV ⟨k, n, s⟩ = .nilIface := by
          unfold boxedV
          simp only
          rw [if_neg h1, if_neg h2, if_neg h3]
        refine fin _ _ ?_ (pRight_of _ 0 0 [] true (by rw [e]; exact Unbox_nil) w)
        rw [Bool.eq_iff_iff, rightV_iff]
        simp [h1, h2, h3]
        constructor
        · rintro ⟨rfl, rfl, rfl⟩
          simp
        · rintro ⟨rfl, rfl, rfl⟩
          simp

/-! ### A number, a text -/

theorem must_hit (u : Value) (w : World) : (Instr.typeAssert (.iface 3 u) 20 3 false).run Try.prog w = .ok u w ∧
    (Instr.typeAssert (.iface 9 u) 20 9 false).run Try.prog w = .ok u w := by
  simp [Instr.typeAssert, run_underlying Try.underlying3, run_underlying Try.underlying9]

theorem must_miss (T : TypeId) (u : Value) (w : World) : (T ≠ 3 → ∃ t p w', (Instr.typeAssert (.iface T u) 20 3 false).run Try.prog w = .halt (.panic (.iface t p)) w' ∧ Ext w w') ∧
    (T ≠ 9 → ∃ t p w', (Instr.typeAssert (.iface T u) 20 9 false).run Try.prog w = .halt (.panic (.iface t p)) w' ∧ Ext w w') := by
  refine ⟨fun h => ?_, fun h => ?_⟩
  · simp [Instr.typeAssert, run_underlying Try.underlying3, h, runtimePanic, goPanic, elemOf, run_underlying Try.underlying15, go_sem]
    exact ⟨_, _, _, ⟨⟨rfl, rfl⟩, rfl⟩, ext_one _ _⟩
  · simp [Instr.typeAssert, run_underlying Try.underlying9, h, runtimePanic, goPanic, elemOf, run_underlying Try.underlying15, go_sem]
    exact ⟨_, _, _, ⟨⟨rfl, rfl⟩, rfl⟩, ext_one _ _⟩

theorem must_nil (w : World) : (∃ t p w', (Instr.typeAssert .nilIface 20 3 false).run Try.prog w = .halt (.panic (.iface t p)) w' ∧ Ext w w') ∧
    (∃ t p w', (Instr.typeAssert .nilIface 20 9 false).run Try.prog w = .halt (.panic (.iface t p)) w' ∧ Ext w w') := by
  refine ⟨?_, ?_⟩
  · simp [Instr.typeAssert, run_underlying Try.underlying3, runtimePanic, goPanic, elemOf, run_underlying Try.underlying15, go_sem]
    exact ⟨_, _, _, ⟨⟨rfl, rfl⟩, rfl⟩, ext_one _ _⟩
  · simp [Instr.typeAssert, run_underlying Try.underlying9, runtimePanic, goPanic, elemOf, run_underlying Try.underlying15, go_sem]
    exact ⟨_, _, _, ⟨⟨rfl, rfl⟩, rfl⟩, ext_one _ _⟩

end Go.Proofs.Ytlbilmmjcfiokaa
