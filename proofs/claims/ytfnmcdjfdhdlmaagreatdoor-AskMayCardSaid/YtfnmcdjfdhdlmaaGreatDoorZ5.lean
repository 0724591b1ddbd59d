/-
  Texts of this proof, merged: CellRefPut, CellSays, AskP3, Lay, Door, Chars, Quote.
-/
import Derived.Shelf.Abstract
import Derived.Shelf.Unicode.DecodeAny
import Derived.WalkKit
import Derived.Below
import Derived.Lib.LaidU8
import Derived.Lib.LaidIn
import Derived.ProofKit
import Derived.LaidMore
import Derived.Lib.SpaceU
import Derived.Lib.DecodeN
import Derived.Lib.ValidLaws
import Derived.Test.YtfnmcdjfdhdlmaaGreatDoorZ4
import Derived.Test.YtfnmcdjfdhdlmaaGreatDoorProg
import Derived.Test.YtfnmcdjfdhdlmaaGreatDoorRows
/-
  The contract of the document's own Put.
-/
namespace Go.Proofs.YtfnmcdjfdhdlmaaGreatDoor
open Go.RowKit Go.BigFrame

theorem own_low {b b' : Nat} {e : TypeId} {size : Nat} {w : World} {v : Value} {n : Nat} {xs : List Value} (h : w.ownsRow b e size v n xs) (hb : b' ≤ b) : w.ownsRow b' e size v n xs := by
  refine ⟨h.1, ?_⟩
  rcases h.2 with h | ⟨g, cap, cur, h1, h2, h3⟩
  · exact .inl h
  · exact .inr ⟨g, cap, cur, h1, by omega, h3⟩
theorem one_cell_new (w : World) (c : Value) : ∀ j u, ([c] : List Value)[j]? = some u → (w.alloc (.cells #[c] 5)).cell? ((⟨w.heap.size, 0, none⟩ : Addr).add j) = some u := by
  intro j u hj
  rw [add_at, Nat.zero_add]
  exact new_cell w [c] _ j u hj

theorem three_stored {w : World} {B : Nat} {a b c : Value} (h : ∀ j u, ([a, b, c] : List Value)[j]? = some u → w.cell? ⟨B, j, none⟩ = some u) (x y z : Value) :
    ∀ j u, ([x, y, z] : List Value)[j]? = some u → (((w.setCell ⟨B, 0, none⟩ x).setCell ⟨B, 1, none⟩ y).setCell ⟨B, 2, none⟩ z).cell? ⟨B, j, none⟩ = some u := by
  have k0 := h 0 _ rfl
  have k1 : (w.setCell ⟨B, 0, none⟩ x).cell? ⟨B, 1, none⟩ = some b := by
    rw [World.cell?_setCell_other]
    · exact h 1 _ rfl
    all_goals simp
  have k2 : ((w.setCell ⟨B, 0, none⟩ x).setCell ⟨B, 1, none⟩ y).cell? ⟨B, 2, none⟩ = some c := by
    rw [World.cell?_setCell_other, World.cell?_setCell_other]
    · exact h 2 _ rfl
    all_goals simp
  intro j u hj
  match j, hj with
  | 0, hj =>
    cases hj
    rw [World.cell?_setCell_other, World.cell?_setCell_other]
    · exact World.cell?_setCell_same _ _ _ k0
    all_goals simp
  | 1, hj =>
    cases hj
    rw [World.cell?_setCell_other]
    · exact World.cell?_setCell_same _ _ _ k1
    all_goals simp
  | 2, hj =>
    cases hj
    exact World.cell?_setCell_same _ _ _ k2

end Go.Proofs.YtfnmcdjfdhdlmaaGreatDoor

/-
  The program's contracts of layer 4: boxes, and which values may be.
-/
namespace Go.Proofs.YtfnmcdjfdhdlmaaGreatDoor
open Go.RowKit Go.BigFrame

/-- A value in Go. -/
def rawV (v : V) : Value := if v.k = 1 then .iface 4 (.bool (decide (v.n ≠ 0))) else if v.k = 2 then .iface 3 (.int .i64 v.n) else if v.k = 3 then .iface 9 (.string ⟨v.s.toArray⟩) else .nilIface
def boxV (v : V) : Value := if rightV v = true then rawV v else .nilIface
/-- What the program boxes, whatever may be. -/
def boxedV (v : V) : Value := if v.k = 1 then .iface 4 (.bool (v.n == 1)) else if v.k = 2 then .iface 3 (.int .i64 v.n) else if v.k = 3 then .iface 9 (.string ⟨v.s.toArray⟩) else .nilIface

theorem boxed_raw (v : V) (h : rightV v = true) : boxedV v = rawV v := by
  unfold boxedV rawV
  by_cases h1 : v.k = 1
  · rw [if_pos h1, if_pos h1]
    have : v.n = 0 ∨ v.n = 1 := by rcases (rightV_iff v).1 h with h | h | h | h <;> omega
    rcases this with h | h <;> rw [h] <;> rfl
  · rw [if_neg h1, if_neg h1]

theorem pBoxed_any (v : V) (w : World) : Calls Tryz.prog 71 #[v.val] w fun e w' => e = .returned (boxedV v) ∧ Ext w w' := by
  obtain ⟨k, n, s⟩ := v
  unfold boxedV V.val
  simp only
  by_cases h1 : k = 1
  · subst h1
    rw [if_pos rfl]
    go_enter Tryz.func71, Tryz.ntmps71
    go_wp2_with fail
    go_ret
    exact ⟨rfl, ext_one w _⟩
  · have q1 : (k == 1) = false := beq_eq_false_iff_ne.2 h1
    rw [if_neg h1]
    clear h1
    by_cases h2 : k = 2
    · subst h2
      rw [if_pos rfl]
      go_enter Tryz.func71, Tryz.ntmps71
      go_wp2_with fail
      go_ret
      exact ⟨rfl, ext_one w _⟩
    · have q2 : (k == 2) = false := beq_eq_false_iff_ne.2 h2
      rw [if_neg h2]
      clear h2
      by_cases h3 : k = 3
      · subst h3
        rw [if_pos rfl]
        go_enter Tryz.func71, Tryz.ntmps71
        go_wp2_with fail
        go_ret
        exact ⟨rfl, ext_one w _⟩
      · have q3 : (k == 3) = false := beq_eq_false_iff_ne.2 h3
        rw [if_neg h3]
        clear h3
        go_enter Tryz.func71, Tryz.ntmps71
        go_wp2_with fail
        go_ret
        exact ⟨rfl, ext_one w _⟩

theorem pLong_text (s : List UInt8) (w : World) : Calls Tryz.prog 89 #[.iface 9 (.string ⟨s.toArray⟩)] w fun e w' => e = .returned (.bool (decide (1024 < (s.length : Int)))) ∧ w' = w := by
  have hA := fun w => (as_hit (.string ⟨s.toArray⟩) w).2.2
  generalize hd : decide (1024 < (s.length : Int)) = B
  go_enter Tryz.func89, Tryz.ntmps89
  go_wp2_with fail
  go_ret
  exact ⟨rfl, rfl⟩
theorem pLong_other (T : TypeId) (x : Value) (hT : T ≠ 9) (w : World) : Calls Tryz.prog 89 #[.iface T x] w fun e w' => e = .returned (.bool false) ∧ w' = w := by
  have hA := fun w => (as_miss T x w).2.2 hT
  clear hT
  go_enter Tryz.func89, Tryz.ntmps89
  go_wp2_with fail
  go_ret
  exact ⟨rfl, rfl⟩
theorem pLong_nil (w : World) : Calls Tryz.prog 89 #[.nilIface] w fun e w' => e = .returned (.bool false) ∧ w' = w := by
  have hA := fun w => (as_nil w).2.2
  go_enter Tryz.func89, Tryz.ntmps89
  go_wp2_with fail
  go_ret
  exact ⟨rfl, rfl⟩

theorem pBit_any (b : Bool) (w : World) : Calls Tryz.prog 113 #[.bool b] w fun e w' => e = .returned (.int .i64 (if b = true then 1 else 0)) ∧ w' = w := by
  cases b with
  | true =>
    go_enter Tryz.func113, Tryz.ntmps113
    go_wp2_with fail
    go_ret
    exact ⟨rfl, rfl⟩
  | false =>
    go_enter Tryz.func113, Tryz.ntmps113
    go_wp2_with fail
    go_ret
    exact ⟨rfl, rfl⟩

/-- A value and whether there is one. -/
def pairV (k n : Int) (s : List UInt8) (ok : Bool) : Value := .tuple #[.agg #[.int .u8 k, .int .i64 n, .string ⟨s.toArray⟩], .bool ok]

theorem pUn_nil (w : World) : Calls Tryz.prog 90 #[.nilIface] w fun e w' => e = .returned (pairV 0 0 [] true) ∧ Ext w w' := by
  go_enter Tryz.func90, Tryz.ntmps90
  go_wp2_with fail
  refine bodyPost_ret (v := .tuple #[.agg #[.int .u8 0, .int .i64 0, .string ⟨#[]⟩], .bool true]) (by simp [results, Tryz.results90, go_sem]) rfl ⟨rfl, ext_one w _⟩
theorem pUn_bool (b : Bool) (w : World) : Calls Tryz.prog 90 #[.iface 4 (.bool b)] w fun e w' => e = .returned (pairV 1 (if b = true then 1 else 0) [] true) ∧ Ext w w' := by
  have hA := fun w => (as_hit (.bool b) w).1
  have HB := Lib.hid (pBit_any b)
  generalize (if b = true then 1 else 0 : Int) = R at HB ⊢
  go_enter Tryz.func90, Tryz.ntmps90
  go_wp2_with fail
  refine (HB.out _).mono ?_
  rintro e w2 ⟨rfl, rfl⟩
  go_wp2_with fail
  refine bodyPost_ret (v := .tuple #[.agg #[.int .u8 1, .int .i64 R, .string ⟨#[]⟩], .bool true]) (by simp [results, Tryz.results90, go_sem]) rfl ⟨rfl, ext_one w _⟩
theorem pUn_int (n : Int) (w : World) : Calls Tryz.prog 90 #[.iface 3 (.int .i64 n)] w fun e w' => e = .returned (pairV 2 n [] true) ∧ Ext w w' := by
  have hA := fun w => (as_miss 3 (.int .i64 n) w).1 (by decide)
  have hB := fun w => (as_hit (.int .i64 n) w).2.1
  go_enter Tryz.func90, Tryz.ntmps90
  go_wp2_with fail
  refine bodyPost_ret (v := .tuple #[.agg #[.int .u8 2, .int .i64 n, .string ⟨#[]⟩], .bool true]) (by simp [results, Tryz.results90, go_sem]) rfl ⟨rfl, ext_one w _⟩
theorem pUn_text (s : List UInt8) (w : World) : Calls Tryz.prog 90 #[.iface 9 (.string ⟨s.toArray⟩)] w fun e w' => e = .returned (pairV 3 0 s true) ∧ Ext w w' := by
  have hA := fun w => (as_miss 9 (.string ⟨s.toArray⟩) w).1 (by decide)
  have hB := fun w => (as_miss 9 (.string ⟨s.toArray⟩) w).2.1 (by decide)
  have hC := fun w => (as_hit (.string ⟨s.toArray⟩) w).2.2
  go_enter Tryz.func90, Tryz.ntmps90
  go_wp2_with fail
  refine bodyPost_ret (v := .tuple #[.agg #[.int .u8 3, .int .i64 0, .string ⟨s.toArray⟩], .bool true]) (by simp [results, Tryz.results90, go_sem]) rfl ⟨rfl, ext_one w _⟩
theorem pUn_other (T : TypeId) (x : Value) (hT : T ≠ 4 ∧ T ≠ 3 ∧ T ≠ 9) (w : World) : Calls Tryz.prog 90 #[.iface T x] w fun e w' => e = .returned (pairV 0 0 [] false) ∧ Ext w w' := by
  have hA := fun w => (as_miss T x w).1 hT.1
  have hB := fun w => (as_miss T x w).2.1 hT.2.1
  have hC := fun w => (as_miss T x w).2.2 hT.2.2
  clear hT
  go_enter Tryz.func90, Tryz.ntmps90
  go_wp2_with fail
  refine bodyPost_ret (v := .tuple #[.agg #[.int .u8 0, .int .i64 0, .string ⟨#[]⟩], .bool false]) (by simp [results, Tryz.results90, go_sem]) rfl ⟨rfl, ext_one w _⟩

set_option maxRecDepth 100000 in
/-- Unbox, of what its two parts say. -/
theorem pUnbox_of (x : Value) (k n : Int) (s : List UInt8) (ok : Bool) (hl : ∀ w, Calls Tryz.prog 89 #[x] w fun e w' => e = .returned (.bool false) ∧ w' = w)
    (hu : ∀ w, Calls Tryz.prog 90 #[x] w fun e w' => e = .returned (pairV k n s ok) ∧ Ext w w') (w : World) :
    Calls Tryz.prog 70 #[x] w fun e w' => e = .returned (pairV k n s ok) ∧ Ext w w' := by
  have HL := Lib.hid hl
  have HU := Lib.hid hu
  clear hl hu
  unfold pairV at HU ⊢
  go_enter Tryz.func70, Tryz.ntmps70
  go_wp2_with fail
  refine (HL.out _).mono ?_
  rintro e w2 ⟨rfl, rfl⟩
  go_wp2_with fail
  refine (HU.out _).mono ?_
  rintro e w3 ⟨rfl, hb⟩
  have HC := Lib.hid (kept_cell (new_cell w [.int .u8 0, .int .i64 0, .string ⟨#[]⟩] 36) hb)
  have hf : ∀ j, w3.frozen? ⟨w.heap.size, j, none⟩ = false := fun j => by
    rw [frozen_ext hb (by simp)]
    unfold World.frozen?
    rw [heap_alloc_new]
    simp
  have HX := Lib.hid (Ext.trans (ext_one _ _) hb)
  have c0 := HC.out 0 _ rfl
  have c1 := HC.out 1 _ rfl
  have c2 := HC.out 2 _ rfl
  have f0 := hf 0
  have f1 := hf 1
  have f2 := hf 2
  have HS := Lib.hid (three_stored HC.out (.int .u8 k) (.int .i64 n) (.string ⟨s.toArray⟩))
  clear hb hf
  go_wp2_with fail
  have k0 := HS.out 0 _ rfl
  have k1 := HS.out 1 _ rfl
  have k2 := HS.out 2 _ rfl
  clear c0 c1 c2 f0 f1 f2
  refine bodyPost_ret (v := .tuple #[.agg #[.int .u8 k, .int .i64 n, .string ⟨s.toArray⟩], .bool ok]) (by simp [results, Tryz.results70, go_sem, k0, k1, k2]) rfl ⟨rfl, ?_⟩
  exact ((HX.out.setCell (p := ⟨w.heap.size, 0, none⟩) (Nat.le_refl _) _).setCell (p := ⟨w.heap.size, 1, none⟩) (Nat.le_refl _) _).setCell (p := ⟨w.heap.size, 2, none⟩) (Nat.le_refl _) _

theorem Unbox_nil (w : World) :
    Calls Tryz.prog 70 #[.nilIface] w fun e w' => e = .returned (.tuple #[.agg #[.int .u8 0, .int .i64 0, .string ⟨#[]⟩], .bool true]) ∧ Ext w w' := pUnbox_of _ _ _ [] _ pLong_nil pUn_nil w
theorem Unbox_bool (b : Bool) (w : World) :
    Calls Tryz.prog 70 #[.iface 4 (.bool b)] w fun e w' => e = .returned (.tuple #[.agg #[.int .u8 1, .int .i64 (if b = true then 1 else 0), .string ⟨#[]⟩], .bool true]) ∧ Ext w w' :=
  pUnbox_of _ _ _ [] _ (pLong_other _ _ (by decide)) (pUn_bool b) w
theorem Unbox_int (n : Int) (w : World) :
    Calls Tryz.prog 70 #[.iface 3 (.int .i64 n)] w fun e w' => e = .returned (.tuple #[.agg #[.int .u8 2, .int .i64 n, .string ⟨#[]⟩], .bool true]) ∧ Ext w w' :=
  pUnbox_of _ _ _ [] _ (pLong_other _ _ (by decide)) (pUn_int n) w
theorem Unbox_text (s : List UInt8) (hs : s.length ≤ 1024) (w : World) :
    Calls Tryz.prog 70 #[.iface 9 (.string ⟨s.toArray⟩)] w fun e w' => e = .returned (.tuple #[.agg #[.int .u8 3, .int .i64 0, .string ⟨s.toArray⟩], .bool true]) ∧ Ext w w' :=
  pUnbox_of _ _ _ s _ (by have h := pLong_text s; rw [decide_eq_false (by omega)] at h; exact h) (pUn_text s) w
theorem Unbox_long (s : List UInt8) (hs : 1024 < s.length) (hl : s.length ≤ 5000) (w : World) :
    Calls Tryz.prog 70 #[.iface 9 (.string ⟨s.toArray⟩)] w fun e w' => e = .returned (.tuple #[.agg #[.int .u8 0, .int .i64 0, .string ⟨#[]⟩], .bool false]) ∧ Ext w w' := by
  have HL := pLong_text s
  rw [decide_eq_true (by omega)] at HL
  replace HL := Lib.hid HL
  clear hs hl
  go_enter Tryz.func70, Tryz.ntmps70
  go_wp2_with fail
  refine (HL.out _).mono ?_
  rintro e w2 ⟨rfl, rfl⟩
  go_wp2_with fail
  refine bodyPost_ret (v := .tuple #[.agg #[.int .u8 0, .int .i64 0, .string ⟨#[]⟩], .bool false]) (by simp [results, Tryz.results70, go_sem]) rfl ⟨rfl, ext_one w _⟩
theorem Unbox_other (T : TypeId) (x : Value) (hT : T ≠ 4 ∧ T ≠ 3 ∧ T ≠ 9) (w : World) :
    Calls Tryz.prog 70 #[.iface T x] w fun e w' => e = .returned (.tuple #[.agg #[.int .u8 0, .int .i64 0, .string ⟨#[]⟩], .bool false]) ∧ Ext w w' :=
  pUnbox_of _ _ _ [] _ (pLong_other _ _ hT.2.2) (pUn_other T x hT) w

set_option maxRecDepth 100000 in
/-- Right, of what its box is unboxed to. -/
theorem pRight_of (v : V) (k n : Int) (s : List UInt8) (ok : Bool)
    (hu : ∀ w, Calls Tryz.prog 70 #[boxedV v] w fun e w' => e = .returned (pairV k n s ok) ∧ Ext w w') (w : World) :
    Calls Tryz.prog 41 #[v.val] w fun e w' => e = .returned (.bool (ok && decide ((⟨k, n, s⟩ : V) = v))) ∧ Ext w w' := by
  have HB := Lib.hid (pBoxed_any v)
  have HU := Lib.hid hu
  have hEQ := fun w => eq_val ⟨k, n, s⟩ v w
  clear hu
  unfold pairV at HU
  generalize boxedV v = X at HB HU
  generalize decide ((⟨k, n, s⟩ : V) = v) = D at hEQ ⊢
  obtain ⟨k', n', s'⟩ := v
  unfold V.val at HB hEQ ⊢
  simp only at HB hEQ ⊢
  have HE := Lib.hid hEQ
  clear hEQ
  go_enter Tryz.func41, Tryz.ntmps41
  go_wp2_with fail
  refine (HB.out _).mono ?_
  rintro e w2 ⟨rfl, hb⟩
  have HX := Lib.hid (Ext.trans (ext_one _ _) hb)
  have HC := Lib.hid (kept_cell (new_cell w [.int .u8 k', .int .i64 n', .string ⟨s'.toArray⟩] 36) hb)
  clear hb
  go_wp2_with fail
  refine (HU.out _).mono ?_
  rintro e w3 ⟨rfl, hb⟩
  have HX3 := Lib.hid (Ext.trans HX.out hb)
  have hc := kept_cell HC.out (Ext.trans hb (ext_one w3 (.cells #[.int .u8 k, .int .i64 n, .string ⟨s.toArray⟩] 36)))
  have c0 := hc 0 _ rfl
  have c1 := hc 1 _ rfl
  have c2 := hc 2 _ rfl
  have hEQ := HE.out
  clear hb hc
  cases ok with
  | true =>
    go_wp2_with fail
    go_ret
    exact ⟨rfl, Ext.trans HX3.out (ext_one _ _)⟩
  | false =>
    go_wp2_with fail
    go_ret
    exact ⟨rfl, Ext.trans HX3.out (ext_one _ _)⟩

theorem Right_any (v : V) (hv : v.fits) (hl : v.s.length ≤ 5000) (w : World) :
    Calls Tryz.prog 41 #[v.val] w fun e w' => e = .returned (.bool (rightV v)) ∧ Ext w w' := by
  have fin : ∀ b c : Bool, b = c → (Calls Tryz.prog 41 #[v.val] w fun e w' => e = .returned (.bool b) ∧ Ext w w') → (Calls Tryz.prog 41 #[v.val] w fun e w' => e = .returned (.bool c) ∧ Ext w w') := by
    rintro b _ rfl h
    exact h
  have hb : ∀ x, boxedV v = x → boxedV v = x := fun _ h => h
  obtain ⟨k, n, s⟩ := v
  simp only at hl
  have h0 := hv.k0
  simp only at h0
  by_cases h1 : k = 1
  · subst h1
    have e : boxedV ⟨1, n, s⟩ = .iface 4 (.bool (n == 1)) := rfl
    refine fin _ _ ?_ (pRight_of _ 1 (if (n == 1) = true then 1 else 0) [] true (by rw [e]; exact Unbox_bool _) w)
    rw [Bool.eq_iff_iff, rightV_iff]
    simp only [Bool.true_and, decide_eq_true_eq, V.mk.injEq, beq_iff_eq, true_and]
    constructor
    · rintro ⟨h, rfl⟩
      split at h <;> simp <;> omega
    · rintro (h | h | h | h)
      · omega
      · refine ⟨?_, h.2.symm⟩
        split <;> omega
      · omega
      · omega
  · by_cases h2 : k = 2
    · subst h2
      have e : boxedV ⟨2, n, s⟩ = .iface 3 (.int .i64 n) := rfl
      refine fin _ _ ?_ (pRight_of _ 2 n [] true (by rw [e]; exact Unbox_int _) w)
      rw [Bool.eq_iff_iff, rightV_iff]
      simp
    · by_cases h3 : k = 3
      · subst h3
        have e : boxedV ⟨3, n, s⟩ = .iface 9 (.string ⟨s.toArray⟩) := rfl
        by_cases hs : s.length ≤ 1024
        · refine fin _ _ ?_ (pRight_of _ 3 0 s true (by rw [e]; exact Unbox_text s hs) w)
          rw [Bool.eq_iff_iff, rightV_iff]
          simp [hs]
          exact eq_comm
        · refine fin _ _ ?_ (pRight_of _ 0 0 [] false (by rw [e]; exact Unbox_long s (by omega) hl) w)
          rw [Bool.eq_iff_iff, rightV_iff]
          simp
          omega
      · have e : boxedV ⟨k, n, s⟩ = .nilIface := by
          unfold boxedV
          simp only
          rw [if_neg h1, if_neg h2, if_neg h3]
        refine fin _ _ ?_ (pRight_of _ 0 0 [] true (by rw [e]; exact Unbox_nil) w)
        rw [Bool.eq_iff_iff, rightV_iff]
        simp [h1, h2, h3]
        constructor
        · rintro ⟨rfl, rfl, rfl⟩
          simp
        · rintro ⟨rfl, rfl, rfl⟩
          simp

/-! ### A number, a text -/

theorem must_hit (u : Value) (w : World) : (Instr.typeAssert (.iface 3 u) 20 3 false).run Tryz.prog w = .ok u w ∧
    (Instr.typeAssert (.iface 9 u) 20 9 false).run Tryz.prog w = .ok u w := by
  simp [Instr.typeAssert, run_underlying Tryz.underlying3, run_underlying Tryz.underlying9]

theorem must_miss (T : TypeId) (u : Value) (w : World) : (T ≠ 3 → ∃ t p w', (Instr.typeAssert (.iface T u) 20 3 false).run Tryz.prog w = .halt (.panic (.iface t p)) w' ∧ Ext w w') ∧
    (T ≠ 9 → ∃ t p w', (Instr.typeAssert (.iface T u) 20 9 false).run Tryz.prog w = .halt (.panic (.iface t p)) w' ∧ Ext w w') := by
  refine ⟨fun h => ?_, fun h => ?_⟩
  · simp [Instr.typeAssert, run_underlying Tryz.underlying3, h, runtimePanic, goPanic, elemOf, run_underlying Tryz.underlying15, go_sem]
    exact ⟨_, _, _, ⟨⟨rfl, rfl⟩, rfl⟩, ext_one _ _⟩
  · simp [Instr.typeAssert, run_underlying Tryz.underlying9, h, runtimePanic, goPanic, elemOf, run_underlying Tryz.underlying15, go_sem]
    exact ⟨_, _, _, ⟨⟨rfl, rfl⟩, rfl⟩, ext_one _ _⟩

theorem must_nil (w : World) : (∃ t p w', (Instr.typeAssert .nilIface 20 3 false).run Tryz.prog w = .halt (.panic (.iface t p)) w' ∧ Ext w w') ∧
    (∃ t p w', (Instr.typeAssert .nilIface 20 9 false).run Tryz.prog w = .halt (.panic (.iface t p)) w' ∧ Ext w w') := by
  refine ⟨?_, ?_⟩
  · simp [Instr.typeAssert, run_underlying Tryz.underlying3, runtimePanic, goPanic, elemOf, run_underlying Tryz.underlying15, go_sem]
    exact ⟨_, _, _, ⟨⟨rfl, rfl⟩, rfl⟩, ext_one _ _⟩
  · simp [Instr.typeAssert, run_underlying Tryz.underlying9, runtimePanic, goPanic, elemOf, run_underlying Tryz.underlying15, go_sem]
    exact ⟨_, _, _, ⟨⟨rfl, rfl⟩, rfl⟩, ext_one _ _⟩

end Go.Proofs.YtfnmcdjfdhdlmaaGreatDoor

/-
  The program's contracts of conditions: the judge, a function that calls itself, of truths.
-/
namespace Go.Proofs.YtfnmcdjfdhdlmaaGreatDoor
open Go.RowKit Go.BigFrame

theorem enters_judge8 : ∀ args w, (callFunc 65 args).run Tryz.prog w = .ok (.enter 65 args) w := enters_of Tryz.func65 (by kernel_rfl) rfl

/-- What the judge's own function is given, and where it lies. -/
structure Jd8 (GL GN GJ : Nat) (pr u : Value) (p0 p1 p2 p3 p4 : Nat) (W : World) : Prop where
  c0 : W.cell? ⟨p0, 0, none⟩ = some u
  c1 : W.cell? ⟨p1, 0, none⟩ = some (.func (.func GL) #[] #[pr])
  c2 : W.cell? ⟨p2, 0, none⟩ = some (.func (.func 65) #[] #[.pointer (some ⟨p0, 0, none⟩), .pointer (some ⟨p1, 0, none⟩), .pointer (some ⟨p2, 0, none⟩), .pointer (some ⟨p3, 0, none⟩), .pointer (some ⟨p4, 0, none⟩)])
  c3 : W.cell? ⟨p3, 0, none⟩ = some (.func (.func GN) #[] #[])
  c4 : W.cell? ⟨p4, 0, none⟩ = some (.func (.func GJ) #[] #[])
theorem Jd8.ext {GL GN GJ : Nat} {pr u : Value} {p0 p1 p2 p3 p4 : Nat} {W W' : World} (h : Jd8 GL GN GJ pr u p0 p1 p2 p3 p4 W) (hx : Ext W W') : Jd8 GL GN GJ pr u p0 p1 p2 p3 p4 W' :=
  ⟨(hx.cell (lt_of_cell h.c0)).trans h.c0, (hx.cell (lt_of_cell h.c1)).trans h.c1, (hx.cell (lt_of_cell h.c2)).trans h.c2, (hx.cell (lt_of_cell h.c3)).trans h.c3, (hx.cell (lt_of_cell h.c4)).trans h.c4⟩

/-- What a place's node with its parts comes to. -/
def JAns8 (comb : Nd → List Int → Int) (P : Int → Prop) (l : List Nd) (i : Nat) (r : List Nd) (w : World) (e : Ending) (w' : World) : Prop :=
  ∃ v : Int, stk comb (l.drop i) = v :: stk comb r ∧ P v ∧ e = .returned (.tuple #[.int .u8 v, .int .i64 ((l.length - r.length : Nat) : Int)]) ∧ Ext w w'

set_option maxRecDepth 100000 in
set_option maxHeartbeats 4000000 in
theorem judgeIn8_any (GL GN GJ : Nat) (pr u : Value) (l : List Nd) (leaf : Nd → Int) (nt : Int → Int) (jn : Nd → Int → Int → Int) (P : Int → Prop) (W0 : World) (p0 p1 p2 p3 p4 : Nat)
    (heL : ∀ args w, (callFunc GL args).run Tryz.prog w = .ok (.enter GL args) w) (heN : ∀ args w, (callFunc GN args).run Tryz.prog w = .ok (.enter GN args) w) (heJ : ∀ args w, (callFunc GJ args).run Tryz.prog w = .ok (.enter GJ args) w)
    (hL : ∀ n ∈ l, ∀ W, Ext W0 W → Calls Tryz.prog GL #[n.val, pr] W fun e w' => e = .returned (.int .u8 (leaf n)) ∧ Ext W w') (hPL : ∀ n, P (leaf n))
    (hN : ∀ a, P a → ∀ W, Calls Tryz.prog GN #[.int .u8 a] W fun e w' => e = .returned (.int .u8 (nt a)) ∧ Ext W w') (hPN : ∀ a, P a → P (nt a))
    (hJ : ∀ n a b, P a → P b → ∀ W, Calls Tryz.prog GJ #[.int .u8 (Nd.op n), .int .u8 a, .int .u8 b] W fun e w' => e = .returned (.int .u8 (jn n a b)) ∧ Ext W w') (hPJ : ∀ n a b, P a → P b → P (jn n a b))
    (hu : RdNds W0 u l) (hlen : l.length ≤ 40) (hm : ∀ n ∈ l, manyI n = (kidsN n : Int) ∧ kidsN n ≤ 40 ∧ (n.op = 4 → kidsN n = 1)) (hc : Jd8 GL GN GJ pr u p0 p1 p2 p3 p4 W0) :
    ∀ (k i : Nat) (r : List Nd) (W : World), l.length - i ≤ k → i ≤ l.length → Ext W0 W → endK 1 (l.drop i) = some r →
      Calls Tryz.prog 65 #[.int .i64 i, .pointer (some ⟨p0, 0, none⟩), .pointer (some ⟨p1, 0, none⟩), .pointer (some ⟨p2, 0, none⟩), .pointer (some ⟨p3, 0, none⟩), .pointer (some ⟨p4, 0, none⟩)] W (JAns8 (combG leaf nt jn) P l i r W) := by
  obtain ⟨ao, cap, rfl, -, -⟩ := hu.shape
  obtain ⟨-, h1, h2, hcs⟩ := hu.plain
  unfold maxLen at h2
  have HCS := Lib.hid hcs
  have HL := Lib.hid hL
  have HPL := Lib.hid hPL
  have HN := Lib.hid hN
  have HPN := Lib.hid hPN
  have HJ := Lib.hid hJ
  have HPJ := Lib.hid hPJ
  have HM := Lib.hid hm
  have HCC := Lib.hid hc
  have HEN := enters_judge8
  obtain ⟨N, hNl⟩ : ∃ N, l.length = N := ⟨_, rfl⟩
  have HNL := Lib.hid hNl
  rw [hNl] at h1 hlen hc HCC
  clear hu hcs hL hPL hN hPN hJ hPJ hm hc hNl
  intro k
  induction k with
  | zero =>
    intro i r W hk hi _ he
    rw [HNL.out] at hk hi
    rw [List.drop_eq_nil_of_le (by have := HNL.out; omega)] at he
    cases he
  | succ k ih =>
    intro i r W hk hi hW he
    rw [HNL.out] at hk hi
    have IH := Lib.hid ih
    clear ih
    by_cases hiN : i < N
    · have hil : i < l.length := by have := HNL.out; omega
      obtain ⟨g, off, rfl, y0, y1, y2, y3, y4, y5⟩ := HCS.out i hil
      have HW := Lib.hid hW
      have x0 := (hW.cell (lt_of_cell y0)).trans y0
      have x1 := (hW.cell (lt_of_cell y1)).trans y1
      have x2 := (hW.cell (lt_of_cell y2)).trans y2
      have x3 := (hW.cell (lt_of_cell y3)).trans y3
      have x4 := (hW.cell (lt_of_cell y4)).trans y4
      have x5 := (hW.cell (lt_of_cell y5)).trans y5
      have HCW := Lib.hid (HCC.out.ext hW)
      have z0 := HCW.out.c0
      have HDR := Lib.hid (List.drop_eq_getElem_cons hil)
      have HMN := Lib.hid (List.getElem_mem hil)
      rw [List.drop_eq_getElem_cons hil] at he
      clear y0 y1 y2 y3 y4 y5 hW
      generalize l[i] = nd at x0 x1 x2 x3 x4 x5 HDR HMN he
      have HMK := Lib.hid (HM.out nd HMN.out)
      have HOP := Lib.hid (fun W => pOperands_any nd W)
      have HLF := Lib.hid (HL.out nd HMN.out)
      have HE := Lib.hid (show endK (kidsN nd) (l.drop (i + 1)) = some r by rw [show (1 : Nat) = 0 + 1 from rfl, endK_cons, Nat.zero_add] at he; exact he)
      have HSC := Lib.hid (show stk (combG leaf nt jn) (l.drop i) = combG leaf nt jn nd ((stk (combG leaf nt jn) (l.drop (i + 1))).take (kidsN nd)) :: (stk (combG leaf nt jn) (l.drop (i + 1))).drop (kidsN nd) by rw [HDR.out, stk_cons])
      rw [HMK.out.1] at HOP
      have HCG := Lib.hid (And.intro (combG_not leaf nt jn nd) (combG_fold leaf nt jn nd))
      have HJN := Lib.hid (HJ.out nd)
      have HPJN := Lib.hid (HPJ.out nd)
      have HFC := Lib.hid (fun vs v h => foldC_snoc leaf jn nd vs v h)
      have HF0 := Lib.hid (show foldC leaf jn nd [] = leaf nd from rfl)
      have HF1 := Lib.hid (show ∀ v, foldC leaf jn nd [v] = v from fun _ => rfl)
      obtain ⟨kn, hkn⟩ : ∃ kn, kidsN nd = kn := ⟨_, rfl⟩
      rw [hkn] at HOP HE HSC HMK
      generalize okN nd = okb at HOP
      generalize foldC leaf jn nd = fc at HCG HFC HF1 HF0
      generalize combG leaf nt jn nd = cg at HSC HCG
      obtain ⟨o, c, kd, ⟨vk, vn, vs⟩⟩ := nd
      have HB := Lib.hid (Blk.new W [.int .u8 o, .int .i64 c, .int .i64 kd, .int .u8 vk, .int .i64 vn, .string ⟨vs.toArray⟩] 38)
      have HX := Lib.hid (ext_new W (.cells #[.int .u8 o, .int .i64 c, .int .i64 kd, .int .u8 vk, .int .i64 vn, .string ⟨vs.toArray⟩] 38))
      unfold Nd.val at HOP HLF
      simp only at x0 x1 x2 x3 x4 x5 HOP HLF HJN HMK HCG
      have HLN := Lib.hid hlen
      clear he hkn hil
      go_enter Tryz.func65, Tryz.ntmps65
      go_wp2_with fail
      refine (HOP.out _).mono ?_
      rintro e w1 ⟨rfl, hx⟩
      have HB1 := Lib.hid (HB.out.ext hx)
      have HX1 := Lib.hid (Ext.trans HX.out hx)
      have HC1 := Lib.hid (HCW.out.ext HX1.out)
      clear hx x0 x1 x2 x3 x4 x5 z0
      have e0 : w1.cell? ⟨W.heap.size, 0, none⟩ = some (.int .u8 o) := HB1.out.cell 0 _ rfl
      have e1 : w1.cell? ⟨W.heap.size, 1, none⟩ = some (.int .i64 c) := HB1.out.cell 1 _ rfl
      have e2 : w1.cell? ⟨W.heap.size, 2, none⟩ = some (.int .i64 kd) := HB1.out.cell 2 _ rfl
      have e3 : w1.cell? ⟨W.heap.size, 3, none⟩ = some (.int .u8 vk) := HB1.out.cell 3 _ rfl
      have e4 : w1.cell? ⟨W.heap.size, 4, none⟩ = some (.int .i64 vn) := HB1.out.cell 4 _ rfl
      have e5 : w1.cell? ⟨W.heap.size, 5, none⟩ = some (.string ⟨vs.toArray⟩) := HB1.out.cell 5 _ rfl
      have z1 := HC1.out.c1
      have z2 := HC1.out.c2
      cases kn with
      | zero =>
        have hr : l.drop (i + 1) = r := by have := HE.out; rw [endK_zero] at this; simpa using this
        have HR := Lib.hid hr
        have HLR := Lib.hid (show l.length - r.length = i + 1 by rw [← hr, List.length_drop]; have := HNL.out; omega)
        clear hr
        go_wp2_with fail
        refine (HLF.out _ (Ext.trans HW.out HX1.out)).mono ?_
        rintro e w2 ⟨rfl, hx⟩
        have HX2 := Lib.hid (Ext.trans HX1.out hx)
        clear hx
        go_wp2_with fail
        go_ret2
        refine ⟨leaf ⟨o, c, kd, ⟨vk, vn, vs⟩⟩, ?_, HPL.out _, ?_, HX2.out⟩
        · rw [HSC.out, HR.out, HCG.out.2 (fun h => by have := HMK.out.2.2 h; omega)]
          simp only [List.take_zero, List.drop_zero]
          rw [HF0.out]
        · rw [HLR.out]; rfl
      | succ kn =>
        generalize hMM : ((kn + 1 : Nat) : Int) = M
        have q0 : (M == (0 : Int)) = false := beq_eq_false_iff_ne.2 (by omega)
        have hM1 : M ≤ kn + 1 := by omega
        have hM2 : (kn : Int) + 1 ≤ M := by omega
        have hM3 : kn ≤ 40 := by have := HMK.out.2.1; omega
        obtain ⟨y, hy1, hy2⟩ := endK_step HE.out
        have HY2 := Lib.hid hy2
        have HYP := Lib.hid (endK_place (by have := HNL.out; omega) hy1)
        have HI := Lib.hid (show Calls Tryz.prog 65 #[.int .i64 ((i : Int) + 1), .pointer (some ⟨p0, 0, none⟩), .pointer (some ⟨p1, 0, none⟩), .pointer (some ⟨p2, 0, none⟩), .pointer (some ⟨p3, 0, none⟩), .pointer (some ⟨p4, 0, none⟩)] w1 (JAns8 (combG leaf nt jn) P l (i + 1) y w1) from IH.out (i + 1) y w1 (by have := HNL.out; omega) (by have := HNL.out; omega) (Ext.trans HW.out HX1.out) hy1)
        clear hMM hy1 hy2
        go_wp2_with fail
        refine HI.out.mono ?_
        rintro e w2 ⟨v, hst, hPv, rfl, hx⟩
        have HST := Lib.hid hst
        have HPV := Lib.hid hPv
        have HX2 := Lib.hid (Ext.trans HX1.out hx)
        have HB2 := Lib.hid (HB1.out.ext hx)
        have HC2 := Lib.hid (HC1.out.ext hx)
        clear hst hPv hx e0 e1 e2 e3 e4 e5 z1 z2
        have e0 : w2.cell? ⟨W.heap.size, 0, none⟩ = some (.int .u8 o) := HB2.out.cell 0 _ rfl
        by_cases ho : o = 4
        · have hk0 : kn = 0 := by have := HMK.out.2.2 ho; omega
          subst hk0
          have HR := Lib.hid (show y = r by have := HY2.out; rw [endK_zero] at this; simpa using this)
          have HGO := Lib.hid (HCG.out.1 ho v)
          subst ho
          have z3 := HC2.out.c3
          go_wp2_with fail
          refine (HN.out v HPV.out _).mono ?_
          rintro e w3 ⟨rfl, hx⟩
          have HX3 := Lib.hid (Ext.trans HX2.out hx)
          clear hx
          go_wp2_with fail
          go_ret2
          refine ⟨nt v, ?_, HPN.out v HPV.out, ?_, HX3.out⟩
          · rw [HSC.out, HST.out, HR.out]
            show cg [v] :: stk (combG leaf nt jn) r = _
            rw [HGO.out]
          · rw [HR.out]; rfl
        · have q4 : (o == (4 : Int)) = false := beq_eq_false_iff_ne.2 ho
          have HO := Lib.hid ho
          clear ho
          go_wp2_with fail
          go_loopw [12, 13, 14, 47] (fun truth nxt _ it wr => ∃ (m : Nat) (y' : List Nd) (ws : List Int), m ≤ kn ∧ it = .int .i64 m ∧ endK (kn - m) y' = some r ∧ ws.length = m + 1 ∧ stk (combG leaf nt jn) (l.drop (i + 1)) = ws ++ stk (combG leaf nt jn) y' ∧ truth = .int .u8 (fc ws) ∧ P (fc ws) ∧ nxt = .int .i64 ((l.length - y'.length : Nat) : Int) ∧ l.drop (l.length - y'.length) = y' ∧ i < l.length - y'.length ∧ Ext w2 wr) (fun _ _ _ it _ => kn - (intOf it).toNat)
          case atStart => exact ⟨0, y, [v], Nat.zero_le _, rfl, HY2.out, rfl, HST.out, by rw [HF1.out], by rw [HF1.out]; exact HPV.out, rfl, HYP.out.1, by have := HYP.out.2; have := HNL.out; omega, Ext.keeps.refl _⟩
          case round =>
            obtain ⟨m, y', ws, hm, rfl, hy, hws, hst, rfl, hPw, rfl, hd, hiq, hx⟩ := hrel
            have HYY := Lib.hid hy
            have HWS := Lib.hid hws
            have HST2 := Lib.hid hst
            have HPW := Lib.hid hPw
            have HD := Lib.hid hd
            have HXR := Lib.hid hx
            obtain ⟨q, hq⟩ : ∃ q, l.length - y'.length = q := ⟨_, rfl⟩
            have hqN : q ≤ N := by have := HNL.out; omega
            rw [hq] at HD hiq ⊢
            have HQQ := Lib.hid hq
            have HIQ := Lib.hid hiq
            clear hy hws hst hPw hd hx hq hiq
            by_cases hmk : m < kn
            · have dm : decide ((m : Int) < M - 1) = true := decide_eq_true (by omega)
              obtain ⟨y2, hy1, hy2⟩ := endK_step (show endK ((kn - m - 1) + 1) y' = some r by rw [show kn - m - 1 + 1 = kn - m by omega]; exact HYY.out)
              rw [← HD.out] at hy1
              have HY3 := Lib.hid hy2
              have HYP2 := Lib.hid (endK_place (by have := HNL.out; omega) hy1)
              have HI2 := Lib.hid (IH.out q y2 wr (by have := HNL.out; have := HIQ.out; omega) (by have := HNL.out; omega) (Ext.trans HW.out (Ext.trans HX2.out HXR.out)) hy1)
              have z2 := (HC2.out.ext HXR.out).c2
              clear hy1 hy2
              go_wp2_with fail
              refine HI2.out.mono ?_
              rintro e w3 ⟨v2, hst2, hPv2, rfl, hx⟩
              have HS3 := Lib.hid hst2
              have HP3 := Lib.hid hPv2
              have HX3 := Lib.hid (Ext.trans HXR.out hx)
              have HB3 := Lib.hid (HB2.out.ext HX3.out)
              have z4 := (HC2.out.ext HX3.out).c4
              clear hst2 hPv2 hx z2 e0
              have e0 : w3.cell? ⟨W.heap.size, 0, none⟩ = some (.int .u8 o) := HB3.out.cell 0 _ rfl
              go_wp2_with fail
              refine (HJN.out (fc ws) v2 HPW.out HP3.out _).mono ?_
              rintro e w4 ⟨rfl, hx⟩
              have HX4 := Lib.hid (Ext.trans HX3.out hx)
              clear hx
              go_wp2_with fail
              go_roundw
              case rel => exact ⟨m + 1, y2, ws ++ [v2], by omega, by go_num, by rw [show kn - (m + 1) = kn - m - 1 by omega]; exact HY3.out, by rw [List.length_append, HWS.out]; rfl, by rw [HST2.out, ← HD.out, HS3.out, List.append_assoc]; rfl, by rw [HFC.out ws v2 (fun h => by have := HWS.out; rw [h] at this; cases this)], by rw [HFC.out ws v2 (fun h => by have := HWS.out; rw [h] at this; cases this)]; exact HPJN.out _ _ HPW.out HP3.out, rfl, HYP2.out.1, by have := HYP2.out.2; have := HNL.out; have := HIQ.out; omega, HX4.out⟩
              case measure => simp [intOf]; omega
            · have dm : decide ((m : Int) < M - 1) = false := decide_eq_false (by omega)
              have hmk' : m = kn := by omega
              have HR := Lib.hid (show y' = r by have := HYY.out; rw [show kn - m = 0 by omega, endK_zero] at this; simpa using this)
              have HK := Lib.hid hmk'
              clear hmk hmk'
              go_wp2_with fail
              go_ret2
              refine ⟨fc ws, ?_, HPW.out, ?_, Ext.trans HX2.out HXR.out⟩
              · have hl : ws.length = kn + 1 := by rw [HWS.out, HK.out]
                rw [HSC.out, HST2.out, HR.out, List.take_left' hl, List.drop_left' hl, HCG.out.2 HO.out]
              · rw [← HR.out, HQQ.out]; rfl
    · rw [List.drop_eq_nil_of_le (by have := HNL.out; omega)] at he
      cases he

end Go.Proofs.YtfnmcdjfdhdlmaaGreatDoor

/-
  The library's contracts of decoding (and of what is right UTF-8), laid at this program.
-/
namespace Go.Proofs
open Go.Shelf
def Tryz.laysDecode_ren : Go.Shelf.Ren := ⟨fun | 197 => 112 | 260 => 126 | n => n, fun | 9 => 9 | 21 => 21 | 3 => 3 | 4 => 4 | 5 => 5 | 105 => 146 | 119 => 165 | 0 => 0 | 46 => 103 | 139 => 168 | 138 => 167 | n => n, fun | 3 => 1 | 4 => 2 | n => n⟩
theorem Tryz.laysDecode : Go.Proofs.Lays.n197 Tryz.prog Tryz.laysDecode_ren := {
  mixed := by kernel_rfl
  f197 := Tryz.func112.trans (congrArg some (by kernel_rfl))
  f260 := Tryz.func126.trans (congrArg some (by kernel_rfl))
  t0 := Tryz.underlying0
  a0 := Tryz.isAgg0
  z0 := Tryz.sizeOf0
  v0 := Tryz.zeroValue0
  t3 := Tryz.underlying3
  a3 := Tryz.isAgg3
  z3 := Tryz.sizeOf3
  v3 := Tryz.zeroValue3
  t4 := Tryz.underlying4
  a4 := Tryz.isAgg4
  z4 := Tryz.sizeOf4
  v4 := Tryz.zeroValue4
  t5 := Tryz.underlying5
  a5 := Tryz.isAgg5
  z5 := Tryz.sizeOf5
  v5 := Tryz.zeroValue5
  t9 := Tryz.underlying9
  a9 := Tryz.isAgg9
  z9 := Tryz.sizeOf9
  v9 := Tryz.zeroValue9
  t21 := Tryz.underlying21
  a21 := Tryz.isAgg21
  z21 := Tryz.sizeOf21
  v21 := Tryz.zeroValue21
  t46 := Tryz.underlying103
  a46 := Tryz.isAgg103
  z46 := Tryz.sizeOf103
  v46 := Tryz.zeroValue103
  t105 := Tryz.underlying146
  a105 := Tryz.isAgg146
  z105 := Tryz.sizeOf146
  v105 := Tryz.zeroValue146
  t119 := Tryz.underlying165
  a119 := Tryz.isAgg165
  z119 := Tryz.sizeOf165
  t138 := Tryz.underlying167
  a138 := Tryz.isAgg167
  z138 := Tryz.sizeOf167
  v138 := Tryz.zeroValue167
  t139 := Tryz.underlying168
  a139 := Tryz.isAgg168
  z139 := Tryz.sizeOf168
  v139 := Tryz.zeroValue168
  g3 := by kernel_rfl
  g4 := by kernel_rfl }
end Go.Proofs

/-
  The tables of unicode/utf8 that the rows list: what the walks ask of them, and a world that has them.
-/
namespace Go.Proofs.YtfnmcdjfdhdlmaaGreatDoor
open Go.RowKit Go.Shelf Go.Lib

/-- The two tables are there. -/
def Tabs (w : World) : Prop := Lib.Utf8Tabs (Tryz.laysDecode_ren.g 3) (Tryz.laysDecode_ren.g 4) w

def laidTwo : List (String × DataW Unit) := [("unicode/utf8.acceptRanges", Rows.laid_unicode_utf8_acceptRanges), ("unicode/utf8.first", Rows.laid_unicode_utf8_first)]
theorem laid_first : Rows.laid_unicode_utf8_first = Lib.firstData := by kernel_rfl
theorem laid_accept : (Rows.laid_unicode_utf8_acceptRanges : DataW Unit) = Lib.acceptData := by kernel_rfl
theorem laid_plain : (laidTwo.all fun x => x.2.handleName?.isNone) = true := by kernel_rfl

theorem tabs_of {w : World} (h : laidMetH Tryz.prog laidTwo w) : Tabs w := by
  rw [MakeChecks.laidMetH_plain _ _ _ laid_plain] at h
  have h1 := Lib.laidMet.reads h (.head _)
  have h2 := Lib.laidMet.reads h (.tail _ (.head _))
  rw [laid_accept] at h1
  rw [laid_first] at h2
  exact utf8Tabs_of_reads { Tryz.laysDecode with } ⟨by kernel_rfl, by kernel_rfl, by kernel_rfl, by kernel_rfl, by kernel_rfl, by kernel_rfl, by kernel_rfl⟩ h2 h1

/-- A world with the two tables. -/
noncomputable def laidWorld (os : Os) : World :=
  let w0 := World.holding Tryz.prog os ⟨#[], #[], []⟩
  let put (h : Array Obj) (g : Nat) (cs : Array Value) : Array Obj := h.modify g fun
    | .cells _ t frozen => .cells cs t frozen
    | o => o
  let h1 := put w0.heap (Tryz.laysDecode_ren.g 3) (Lib.firstTab.map fun z => Value.int .u8 z).toArray
  let h2 := put h1 (Tryz.laysDecode_ren.g 4) ((List.range 16).flatMap fun i => [Value.int .u8 (Lib.accLo i), Value.int .u8 (Lib.accHi i)]).toArray
  { w0 with heap := h2 }
theorem laid_met (os : Os) (args : Array Value) : laidMetH Tryz.prog laidTwo ((laidWorld os).forCall (fun _ _ => 0) ⟨#[], args, []⟩).memory := by
  rw [MakeChecks.laidMetH_plain _ _ _ laid_plain]
  exact laidMet_of_run' 8 (by kernel_rfl) (by kernel_rfl)

theorem Tabs.mono {w w' : World} (h : Tabs w) (hb : Below w.heap.size w w') : Tabs w' := Go.Proofs.Utf8Tabs_below h hb

end Go.Proofs.YtfnmcdjfdhdlmaaGreatDoor

/-
  A text's letters, as Go's decoder has them, over lists of bytes: plain facts. No program.
-/
namespace Go.Proofs.YtfnmcdjfdhdlmaaGreatDoor
open Go.Lib (decodeL decodeN)

theorem get_list (l : List UInt8) (i : Nat) : (⟨l.toArray⟩ : ByteArray).get! i = l.getD i 0 := by
  show l.toArray[i]! = _
  rw [List.getElem!_toArray, List.getD_eq_getElem?_getD, List.getElem!_eq_getElem?_getD]
  rfl
theorem decodeL_eq (l : List UInt8) : decodeL l = decodeN l.length (l.getD 0 0).toNat (l.getD 1 0).toNat (l.getD 2 0).toNat (l.getD 3 0).toNat := by
  unfold Go.Lib.decodeL
  rw [Go.Lib.decode_at, get_list, get_list, get_list, get_list]
  rfl
theorem decode_drop (l : List UInt8) (p : Nat) : Go.Utf8.decode ⟨l.toArray⟩ p = decodeL (l.drop p) := by
  rw [decodeL_eq, Go.Lib.decode_at, get_list, get_list, get_list, get_list]
  simp only [List.getD_eq_getElem?_getD, List.getElem?_drop, List.length_drop, Nat.add_comm p]
  simp [ByteArray.size]

/-- How many bytes the first letter has. -/
def wid (l : List UInt8) : Nat := (decodeL l).2

theorem wid_all (n b0 b1 b2 b3 : Nat) (h : 1 ≤ n) : 1 ≤ (decodeN n b0 b1 b2 b3).2 ∧ (decodeN n b0 b1 b2 b3).2 ≤ n ∧ (decodeN n b0 b1 b2 b3).2 ≤ 4 := by
  unfold Go.Lib.decodeN
  repeat' split
  all_goals simp only
  all_goals omega
theorem wid_bounds (l : List UInt8) (h : l ≠ []) : 1 ≤ wid l ∧ wid l ≤ l.length ∧ wid l ≤ 4 := by
  unfold wid
  rw [decodeL_eq]
  exact wid_all _ _ _ _ _ (List.length_pos_iff.2 h)

/-- A byte that goes on with a letter. -/
def cont (c : UInt8) : Bool := decide (c.toNat / 64 = 2)

set_option maxHeartbeats 1000000 in
theorem decode_cont (b : UInt8) (r : List UInt8) : decodeL (b :: r) = decodeL (b :: r.takeWhile cont) := by
  rw [decodeL_eq, decodeL_eq]
  match r with
  | [] => rfl
  | [x] =>
    by_cases hx : x.toNat / 64 = 2
    · simp [cont, hx]
    · simp [cont, hx, Go.Lib.decodeN]
  | [x, y] =>
    by_cases hx : x.toNat / 64 = 2
    · by_cases hy : y.toNat / 64 = 2
      · simp [cont, hx, hy]
      · simp [cont, hx, hy, Go.Lib.decodeN]
    · simp [cont, hx, Go.Lib.decodeN]
  | x :: y :: z :: t =>
    by_cases hx : x.toNat / 64 = 2
    · by_cases hy : y.toNat / 64 = 2
      · by_cases hz : z.toNat / 64 = 2
        · simp [cont, hx, hy, hz, Go.Lib.decodeN]
        · simp [cont, hx, hy, hz, Go.Lib.decodeN]
      · simp [cont, hx, hy, Go.Lib.decodeN]
    · simp [cont, hx, Go.Lib.decodeN]

/-! ### Letters -/

def letsF : Nat → List UInt8 → List (List UInt8)
  | 0, _ => []
  | n + 1, l => if l = [] then [] else l.take (wid l) :: letsF n (l.drop (wid l))
/-- A text's letters. -/
def lets (l : List UInt8) : List (List UInt8) := letsF l.length l

theorem letsF_fuel : ∀ (n m : Nat) (l : List UInt8), l.length ≤ n → l.length ≤ m → letsF n l = letsF m l
  | 0, m, l, h, _ => by
    have : l = [] := List.length_eq_zero_iff.1 (by omega)
    subst this
    cases m <;> simp [letsF]
  | n + 1, 0, l, _, h => by
    have : l = [] := List.length_eq_zero_iff.1 (by omega)
    subst this
    simp [letsF]
  | n + 1, m + 1, l, h, h' => by
    unfold letsF
    by_cases hl : l = []
    · rw [if_pos hl, if_pos hl]
    · have := wid_bounds l hl
      rw [if_neg hl, if_neg hl, letsF_fuel n m _ (by rw [List.length_drop]; omega) (by rw [List.length_drop]; omega)]
theorem lets_nil : lets [] = [] := rfl
theorem lets_cons (l : List UInt8) (h : l ≠ []) : lets l = l.take (wid l) :: lets (l.drop (wid l)) := by
  have hb := wid_bounds l h
  have hp := List.length_pos_iff.2 h
  obtain ⟨n, hn⟩ : ∃ n, l.length = n + 1 := ⟨l.length - 1, by omega⟩
  unfold lets
  rw [hn]
  conv => lhs; unfold letsF
  rw [if_neg h, letsF_fuel n (l.drop (wid l)).length _ (by rw [List.length_drop]; omega) (Nat.le_refl _)]

/-- To show something of every text: of none, and of one by what is behind its first letter. -/
theorem lets_ind {M : List UInt8 → Prop} (h0 : M []) (h1 : ∀ l, l ≠ [] → M (l.drop (wid l)) → M l) : ∀ l, M l := by
  intro l
  generalize hn : l.length = n
  induction n using Nat.strongRecOn generalizing l with
  | _ n ih =>
    by_cases h : l = []
    · subst h; exact h0
    · have hb := wid_bounds l h
      exact h1 l h (ih (l.drop (wid l)).length (by rw [List.length_drop]; omega) _ rfl)

theorem lets_flat (l : List UInt8) : (lets l).flatten = l := by
  refine lets_ind (M := fun l => (lets l).flatten = l) rfl (fun l h ih => ?_) l
  rw [lets_cons l h, List.flatten_cons, ih, List.take_append_drop]
theorem lets_length (l : List UInt8) : (lets l).length ≤ l.length := by
  refine lets_ind (M := fun l => (lets l).length ≤ l.length) (Nat.le_refl _) (fun l h ih => ?_) l
  have hb := wid_bounds l h
  rw [lets_cons l h, List.length_cons]
  rw [List.length_drop] at ih
  omega

/-- The first letter is one: its bytes are no such that begin none. -/
def good (l : List UInt8) : Bool := !(decide ((decodeL l).1 = 65533) && decide ((decodeL l).2 = 1))
theorem good_iff (l : List UInt8) : good l = true ↔ ¬ ((decodeL l).1 = 65533 ∧ (decodeL l).2 = 1) := by
  unfold good
  rw [Bool.not_eq_true', ← Bool.not_eq_true, Bool.and_eq_true, decide_eq_true_iff, decide_eq_true_iff]

theorem decodeN_good (n n' b0 b1 b2 b3 c1 c2 c3 : Nat) (h : n ≤ n') (h1 : 1 < n → c1 = b1) (h2 : 2 < n → c2 = b2) (h3 : 3 < n → c3 = b3)
    (hg : ¬ ((decodeN n b0 b1 b2 b3).1 = 65533 ∧ (decodeN n b0 b1 b2 b3).2 = 1)) : decodeN n' b0 c1 c2 c3 = decodeN n b0 b1 b2 b3 := by
  by_cases a0 : b0 < 128
  · simp [Go.Lib.decodeN, a0]
  · by_cases n1 : 1 < n
    · have e1 := h1 n1
      subst e1
      have n1' : 1 < n' := by omega
      by_cases n2 : 2 < n
      · have e2 := h2 n2
        subst e2
        have n2' : 2 < n' := by omega
        by_cases n3 : 3 < n
        · have e3 := h3 n3
          subst e3
          have n3' : 3 < n' := by omega
          simp [Go.Lib.decodeN, n1, n2, n3, n1', n2', n3']
        · have a4 : ¬ b0 / 8 = 30 := fun e => hg (by
            have q1 : ¬ b0 / 32 = 6 := by omega
            have q2 : ¬ b0 / 16 = 14 := by omega
            simp [Go.Lib.decodeN, a0, n3, q1, q2])
          simp [Go.Lib.decodeN, n1, n2, n1', n2', a4]
      · have a3 : ¬ b0 / 16 = 14 := fun e => hg (by
          have q1 : ¬ b0 / 32 = 6 := by omega
          have q2 : ¬ b0 / 8 = 30 := by omega
          simp [Go.Lib.decodeN, a0, n2, q1, q2])
        have a4 : ¬ b0 / 8 = 30 := fun e => hg (by
          have q1 : ¬ b0 / 32 = 6 := by omega
          have q2 : ¬ b0 / 16 = 14 := by omega
          simp [Go.Lib.decodeN, a0, n2, q1, q2])
        simp [Go.Lib.decodeN, n1, n1', a3, a4]
    · exact absurd (by simp [Go.Lib.decodeN, a0, n1]) hg

theorem decode_good (l m : List UInt8) (hg : good l = true) (hl : l ≠ []) : decodeL (l ++ m) = decodeL l := by
  rw [good_iff, decodeL_eq] at hg
  have hp := List.length_pos_iff.2 hl
  rw [decodeL_eq, decodeL_eq]
  have e : ∀ i, i < l.length → (l ++ m).getD i 0 = l.getD i 0 := fun i hi => by
    rw [List.getD_eq_getElem?_getD, List.getD_eq_getElem?_getD, List.getElem?_append_left hi]
  rw [e 0 hp]
  exact decodeN_good _ _ _ _ _ _ _ _ _ (by rw [List.length_append]; omega) (fun h => by rw [e 1 h]) (fun h => by rw [e 2 h]) (fun h => by rw [e 3 h]) hg

theorem decodeN_cut (n b0 b1 b2 b3 : Nat) (c1 c2 c3 : Nat) (_hn : 1 ≤ n)
    (h1 : 1 < (decodeN n b0 b1 b2 b3).2 → c1 = b1) (h2 : 2 < (decodeN n b0 b1 b2 b3).2 → c2 = b2) (h3 : 3 < (decodeN n b0 b1 b2 b3).2 → c3 = b3) :
    decodeN (decodeN n b0 b1 b2 b3).2 b0 c1 c2 c3 = decodeN n b0 b1 b2 b3 := by
  have key : ∀ r, decodeN n b0 b1 b2 b3 = r → (1 < r.2 → c1 = b1) → (2 < r.2 → c2 = b2) → (3 < r.2 → c3 = b3) → decodeN r.2 b0 c1 c2 c3 = r := by
    intro r hr k1 k2 k3
    unfold Go.Lib.decodeN at hr
    by_cases a0 : b0 < 128
    · rw [if_pos a0] at hr
      subst hr
      simp [Go.Lib.decodeN, a0]
    · rw [if_neg a0] at hr
      by_cases a2 : b0 / 32 = 6 ∧ (1 < n ∧ b1 / 64 = 2)
      · rw [if_pos a2] at hr
        split at hr
        · rename_i hc
          subst hr
          have := k1 (by simp only; omega)
          subst this
          simp [Go.Lib.decodeN, a0, a2.1, a2.2.2, hc]
        · subst hr
          simp [Go.Lib.decodeN, a0]
      · rw [if_neg a2] at hr
        by_cases a3 : b0 / 16 = 14 ∧ (1 < n ∧ b1 / 64 = 2) ∧ (2 < n ∧ b2 / 64 = 2)
        · rw [if_pos a3] at hr
          have q : ¬ b0 / 32 = 6 := by omega
          split at hr
          · rename_i hc
            subst hr
            have e1 := k1 (by simp only; omega)
            have e2 := k2 (by simp only; omega)
            subst e1 e2
            simp [Go.Lib.decodeN, a0, q, a3.1, a3.2.1.2, a3.2.2.2, hc]
          · subst hr
            simp [Go.Lib.decodeN, a0]
        · rw [if_neg a3] at hr
          by_cases a4 : b0 / 8 = 30 ∧ (1 < n ∧ b1 / 64 = 2) ∧ (2 < n ∧ b2 / 64 = 2) ∧ (3 < n ∧ b3 / 64 = 2)
          · rw [if_pos a4] at hr
            have q : ¬ b0 / 32 = 6 := by omega
            have q2 : ¬ b0 / 16 = 14 := by omega
            split at hr
            · rename_i hc
              subst hr
              have e1 := k1 (by simp only; omega)
              have e2 := k2 (by simp only; omega)
              have e3 := k3 (by simp only; omega)
              subst e1 e2 e3
              simp [Go.Lib.decodeN, a0, q, q2, a4.1, a4.2.1.2, a4.2.2.1.2, a4.2.2.2.2, hc]
            · subst hr
              simp [Go.Lib.decodeN, a0]
          · rw [if_neg a4] at hr
            subst hr
            simp [Go.Lib.decodeN, a0]
  exact key _ rfl h1 h2 h3

/-- The first letter's bytes alone are read as they are in the text. -/
theorem decode_take (l : List UInt8) (h : l ≠ []) : decodeL (l.take (wid l)) = decodeL l := by
  have hb := wid_bounds l h
  have e : ∀ i, i < wid l → (l.take (wid l)).getD i 0 = l.getD i 0 := fun i hi => by
    rw [List.getD_eq_getElem?_getD, List.getD_eq_getElem?_getD, List.getElem?_take_of_lt hi]
  have hw : wid l = (decodeN l.length (l.getD 0 0).toNat (l.getD 1 0).toNat (l.getD 2 0).toNat (l.getD 3 0).toNat).2 := by unfold wid; rw [decodeL_eq]
  rw [decodeL_eq, decodeL_eq, List.length_take, Nat.min_eq_left hb.2.1, e 0 (by omega)]
  conv => lhs; rw [hw]
  refine decodeN_cut _ _ _ _ _ _ _ _ (List.length_pos_iff.2 h) (fun k => ?_) (fun k => ?_) (fun k => ?_) <;> rw [← hw] at k <;> rw [← hw, e _ k]

/-- A letter by itself. -/
def letter (c : List UInt8) : Prop := c ≠ [] ∧ wid c = c.length
theorem letter_take (l : List UInt8) (h : l ≠ []) : letter (l.take (wid l)) ∧ good (l.take (wid l)) = good l := by
  have hb := wid_bounds l h
  have hd := decode_take l h
  refine ⟨⟨fun e => ?_, ?_⟩, by unfold good; rw [hd]⟩
  · rw [List.take_eq_nil_iff] at e
    rcases e with e | e
    · omega
    · exact h e
  · rw [List.length_take, Nat.min_eq_left hb.2.1]
    exact congrArg Prod.snd hd
theorem lets_letters (l : List UInt8) : ∀ c ∈ lets l, letter c := by
  refine lets_ind (M := fun l => ∀ c ∈ lets l, letter c) (fun c hc => by cases hc) (fun l h ih => ?_) l
  rw [lets_cons l h]
  intro c hc
  rcases List.mem_cons.1 hc with rfl | hc
  · exact (letter_take l h).1
  · exact ih c hc
theorem lets_one (c : List UInt8) (h : letter c) : lets c = [c] := by
  rw [lets_cons c h.1, h.2, List.take_length, List.drop_length, lets_nil]

/-- All letters are ones. -/
def goods (l : List UInt8) : Prop := ∀ c ∈ lets l, good c = true
theorem goods_nil : goods [] := fun c hc => by cases hc
theorem goods_cons (l : List UInt8) (h : l ≠ []) : goods l ↔ good l = true ∧ goods (l.drop (wid l)) := by
  unfold goods
  rw [lets_cons l h]
  simp only [List.mem_cons, forall_eq_or_imp, (letter_take l h).2]
theorem goods_valid (l : List UInt8) : Lib.validD l = true ↔ goods l := by
  refine lets_ind (M := fun l => Lib.validD l = true ↔ goods l) ⟨fun _ => goods_nil, fun _ => rfl⟩ (fun l h ih => ?_) l
  rw [goods_cons l h, Lib.validD_step l h, ← ih]
  by_cases hg : good l = true
  · rw [if_neg ((good_iff l).1 hg)]
    simp only [hg, true_and]
    rfl
  · have := hg
    rw [good_iff, Classical.not_not] at this
    rw [if_pos this]
    simp [hg]

theorem wid_good (l m : List UInt8) (hg : good l = true) (hl : l ≠ []) : wid (l ++ m) = wid l := by unfold wid; rw [decode_good l m hg hl]
/-- Behind letters that are ones others are read as by themselves. -/
theorem lets_append (x y : List UInt8) : goods x → lets (x ++ y) = lets x ++ lets y := by
  refine lets_ind (M := fun x => goods x → lets (x ++ y) = lets x ++ lets y) (fun _ => rfl) (fun x h ih hg => ?_) x
  rw [goods_cons x h] at hg
  have hb := wid_bounds x h
  have hw := wid_good x y hg.1 h
  rw [lets_cons x h, lets_cons (x ++ y) (fun e => h (List.append_eq_nil_iff.1 e).1), hw, List.take_append_of_le_length hb.2.1, List.drop_append_of_le_length hb.2.1, ih hg.2, List.cons_append]
theorem goods_append (x y : List UInt8) (hx : goods x) : goods (x ++ y) ↔ goods y := by
  unfold goods
  rw [lets_append x y hx]
  simp only [List.mem_append]
  exact ⟨fun h c hc => h c (.inr hc), fun h c hc => hc.elim (hx c) (h c)⟩

end Go.Proofs.YtfnmcdjfdhdlmaaGreatDoor

/-
  A text's quote, the elements of a pattern, and what is like one: over lists of bytes and of letters. No program.
-/
namespace Go.Proofs.YtfnmcdjfdhdlmaaGreatDoor
open Go.Lib (decodeL decodeN)

def special (c : List UInt8) : Bool := decide (c = [37]) || decide (c = [95]) || decide (c = [92])
def qc (c : List UInt8) : List UInt8 := if special c = true then 92 :: c else c
def qls (c : List UInt8) : List (List UInt8) := if special c = true then [[92], c] else [c]
/-- The pattern that is like a text alone. -/
def quote (l : List UInt8) : List UInt8 := (lets l).flatMap qc

theorem special_iff (c : List UInt8) : special c = true ↔ c = [37] ∨ c = [95] ∨ c = [92] := by
  unfold special
  rw [Bool.or_eq_true, Bool.or_eq_true, decide_eq_true_iff, decide_eq_true_iff, decide_eq_true_iff, or_assoc]
theorem special_ascii (c : List UInt8) (h : special c = true) : ∃ b, c = [b] ∧ b.toNat < 128 := by
  rw [special_iff] at h
  rcases h with rfl | rfl | rfl <;> exact ⟨_, rfl, by decide⟩

theorem decode_ascii' (b : UInt8) (r : List UInt8) (h : b.toNat < 128) : decodeL (b :: r) = (b.toNat, 1) := by
  rw [decodeL_eq]
  simp [Go.Lib.decodeN, h]
theorem wid_ascii (b : UInt8) (r : List UInt8) (h : b.toNat < 128) : wid (b :: r) = 1 := by unfold wid; rw [decode_ascii' b r h]
theorem lets_ascii (b : UInt8) (r : List UInt8) (h : b.toNat < 128) : lets (b :: r) = [b] :: lets r := by
  rw [lets_cons _ (by simp), wid_ascii b r h]; rfl
theorem good_ascii (b : UInt8) (r : List UInt8) (h : b.toNat < 128) : good (b :: r) = true := by
  rw [good_iff, decode_ascii' b r h]
  intro hh
  have := hh.1
  simp only at this
  omega
theorem cont_ascii (b : UInt8) (h : b.toNat < 128) : cont b = false := by
  unfold cont
  exact decide_eq_false (by omega)

theorem takeWhile_same {p : UInt8 → Bool} (c x y : List UInt8) (h : x.takeWhile p = y.takeWhile p) : (c ++ x).takeWhile p = (c ++ y).takeWhile p := by
  induction c with
  | nil => exact h
  | cons b t ih =>
    rw [List.cons_append, List.cons_append, List.takeWhile_cons, List.takeWhile_cons, ih]

/-- What goes on with a letter is as it was, ahead of the quote. -/
theorem cont_quote (l : List UInt8) : (quote l).takeWhile cont = l.takeWhile cont := by
  refine lets_ind (M := fun l => (quote l).takeWhile cont = l.takeWhile cont) rfl (fun l h ih => ?_) l
  have e : quote l = qc (l.take (wid l)) ++ quote (l.drop (wid l)) := by unfold quote; rw [lets_cons l h, List.flatMap_cons]
  rw [e]
  conv => rhs; rw [← List.take_append_drop (wid l) l]
  unfold qc
  by_cases hs : special (l.take (wid l)) = true
  · obtain ⟨b, hb, hlt⟩ := special_ascii _ hs
    rw [if_pos hs, hb, List.cons_append, List.takeWhile_cons, cont_ascii 92 (by decide)]
    show _ = (b :: ([] ++ l.drop (wid l))).takeWhile cont
    rw [List.takeWhile_cons, cont_ascii b hlt]
    rfl
  · rw [if_neg hs]
    exact takeWhile_same _ _ _ ih

theorem wid_cont (c x y : List UInt8) (hc : c ≠ []) (h : x.takeWhile cont = y.takeWhile cont) : wid (c ++ x) = wid (c ++ y) := by
  obtain ⟨b, t, rfl⟩ : ∃ b t, c = b :: t := by
    cases c with
    | nil => exact absurd rfl hc
    | cons b t => exact ⟨b, t, rfl⟩
  unfold wid
  rw [List.cons_append, List.cons_append, decode_cont, takeWhile_same t x y h, ← decode_cont]

theorem lets_quote (l : List UInt8) : lets (quote l) = (lets l).flatMap qls := by
  refine lets_ind (M := fun l => lets (quote l) = (lets l).flatMap qls) rfl (fun l h ih => ?_) l
  have hb := wid_bounds l h
  have e : quote l = qc (l.take (wid l)) ++ quote (l.drop (wid l)) := by unfold quote; rw [lets_cons l h, List.flatMap_cons]
  rw [e, lets_cons l h, List.flatMap_cons, ← ih]
  unfold qc qls
  by_cases hs : special (l.take (wid l)) = true
  · obtain ⟨b, hbb, hlt⟩ := special_ascii _ hs
    rw [if_pos hs, if_pos hs, hbb, List.cons_append, lets_ascii _ _ (by decide), List.singleton_append, lets_ascii _ _ hlt]
    rfl
  · rw [if_neg hs, if_neg hs]
    have hne : l.take (wid l) ≠ [] := (letter_take l h).1.1
    have hw : wid (l.take (wid l) ++ quote (l.drop (wid l))) = (l.take (wid l)).length := by
      rw [wid_cont _ _ (l.drop (wid l)) hne (cont_quote _), List.take_append_drop, List.length_take, Nat.min_eq_left hb.2.1]
    rw [lets_cons _ (fun e => hne (List.append_eq_nil_iff.1 e).1), hw, List.take_left, List.drop_left]
    rfl

/-! ### Patterns -/

inductive El where
  | any
  | one
  | lit (c : List UInt8)
deriving DecidableEq

/-- The elements of letters; none: it is no pattern. -/
def els : List (List UInt8) → Option (List El)
  | [] => some []
  | c :: t =>
    if c = [92] then
      match t with
      | [] => none
      | d :: t' => (els t').map (El.lit d :: ·)
    else if c = [37] then (els t).map (El.any :: ·)
    else if c = [95] then (els t).map (El.one :: ·)
    else (els t).map (El.lit c :: ·)

/-- Letters are like elements. -/
def mt : List El → List (List UInt8) → Bool
  | [], l => l.isEmpty
  | .any :: ps, l => (List.range (l.length + 1)).any fun k => mt ps (l.drop k)
  | .one :: ps, l => match l with
    | [] => false
    | _ :: t => mt ps t
  | .lit c :: ps, l => match l with
    | [] => false
    | d :: t => decide (c = d) && mt ps t

theorem mt_nil (l : List (List UInt8)) : mt [] l = true ↔ l = [] := by unfold mt; exact List.isEmpty_iff
theorem mt_any (ps : List El) (l : List (List UInt8)) : mt (.any :: ps) l = true ↔ ∃ k, k ≤ l.length ∧ mt ps (l.drop k) = true := by
  rw [mt, List.any_eq_true]
  exact ⟨fun ⟨k, h1, h2⟩ => ⟨k, by have := List.mem_range.1 h1; omega, h2⟩, fun ⟨k, h1, h2⟩ => ⟨k, List.mem_range.2 (by omega), h2⟩⟩
theorem mt_one (ps : List El) (l : List (List UInt8)) : mt (.one :: ps) l = true ↔ ∃ d t, l = d :: t ∧ mt ps t = true := by
  cases l with
  | nil => exact ⟨(fun h => by rw [mt] at h; cases h), fun ⟨_, _, h, _⟩ => by cases h⟩
  | cons d t =>
    rw [mt]
    exact ⟨fun h => ⟨d, t, rfl, h⟩, (fun ⟨_, _, h, h2⟩ => by cases h; exact h2)⟩
theorem mt_lit (c : List UInt8) (ps : List El) (l : List (List UInt8)) : mt (.lit c :: ps) l = true ↔ ∃ t, l = c :: t ∧ mt ps t = true := by
  cases l with
  | nil => exact ⟨(fun h => by rw [mt] at h; cases h), fun ⟨_, h, _⟩ => by cases h⟩
  | cons d t =>
    rw [mt, Bool.and_eq_true, decide_eq_true_iff]
    exact ⟨fun ⟨h, h2⟩ => ⟨t, by rw [h], h2⟩, fun ⟨_, h, h2⟩ => by cases h; exact ⟨rfl, h2⟩⟩

/-- Of elements, some behind others: the letters are cut somewhere. -/
theorem mt_append (ps qs : List El) : ∀ l, mt (ps ++ qs) l = true ↔ ∃ k, k ≤ l.length ∧ mt ps (l.take k) = true ∧ mt qs (l.drop k) = true := by
  induction ps with
  | nil =>
    intro l
    rw [List.nil_append]
    constructor
    · intro h
      exact ⟨0, Nat.zero_le _, by rw [mt_nil]; rfl, h⟩
    · rintro ⟨k, hk, h1, h2⟩
      rw [mt_nil, List.take_eq_nil_iff] at h1
      rcases h1 with rfl | rfl
      · exact h2
      · simpa using h2
  | cons e ps ih =>
    intro l
    rw [List.cons_append]
    cases e with
    | any =>
      rw [mt_any]
      constructor
      · rintro ⟨j, hj, h⟩
        obtain ⟨k, hk, h1, h2⟩ := (ih _).1 h
        rw [List.length_drop] at hk
        refine ⟨j + k, by omega, (mt_any _ _).2 ⟨j, by rw [List.length_take]; omega, ?_⟩, by rw [List.drop_drop] at h2; exact h2⟩
        rw [List.drop_take, Nat.add_sub_cancel_left]
        exact h1
      · rintro ⟨k, hk, h1, h2⟩
        obtain ⟨j, hj, h3⟩ := (mt_any _ _).1 h1
        rw [List.length_take] at hj
        refine ⟨j, by omega, (ih _).2 ⟨k - j, by rw [List.length_drop]; omega, ?_, ?_⟩⟩
        · rw [List.drop_take] at h3
          exact h3
        · rw [List.drop_drop, show j + (k - j) = k by omega]
          exact h2
    | one =>
      rw [mt_one]
      constructor
      · rintro ⟨d, t, rfl, h⟩
        obtain ⟨k, hk, h1, h2⟩ := (ih _).1 h
        exact ⟨k + 1, by simp; omega, (mt_one _ _).2 ⟨d, t.take k, rfl, h1⟩, h2⟩
      · rintro ⟨k, hk, h1, h2⟩
        obtain ⟨d, t, he, h3⟩ := (mt_one _ _).1 h1
        cases l with
        | nil => simp at he
        | cons d' t' =>
          cases k with
          | zero => simp at he
          | succ k =>
            simp only [List.take_succ_cons, List.cons.injEq] at he
            obtain ⟨rfl, rfl⟩ := he
            exact ⟨_, _, rfl, (ih _).2 ⟨k, by simpa using hk, h3, h2⟩⟩
    | lit c =>
      rw [mt_lit]
      constructor
      · rintro ⟨t, rfl, h⟩
        obtain ⟨k, hk, h1, h2⟩ := (ih _).1 h
        exact ⟨k + 1, by simp; omega, (mt_lit _ _ _).2 ⟨t.take k, rfl, h1⟩, h2⟩
      · rintro ⟨k, hk, h1, h2⟩
        obtain ⟨t, he, h3⟩ := (mt_lit _ _ _).1 h1
        cases l with
        | nil => simp at he
        | cons d' t' =>
          cases k with
          | zero => simp at he
          | succ k =>
            simp only [List.take_succ_cons, List.cons.injEq] at he
            obtain ⟨rfl, rfl⟩ := he
            exact ⟨_, rfl, (ih _).2 ⟨k, by simpa using hk, h3, h2⟩⟩

end Go.Proofs.YtfnmcdjfdhdlmaaGreatDoor
