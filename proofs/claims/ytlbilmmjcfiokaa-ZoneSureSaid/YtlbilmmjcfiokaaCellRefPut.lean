/-
  The contract of the document's own Put.
-/
import Derived.Test.YtlbilmmjcfiokaaCellPutKit
import Derived.Test.YtlbilmmjcfiokaaCellRefE
import Derived.Test.YtlbilmmjcfiokaaRef
namespace Go.Proofs.Ytlbilmmjcfiokaa
open Go.RowKit Go.BigFrame

theorem own_low {b b' : Nat} {e : TypeId} {size : Nat} {w : World} {v : Value} {n : Nat} {xs : List Value} (h : w.ownsRow b e size v n xs) (hb : b' ≤ b) : w.ownsRow b' e size v n xs := by
  refine ⟨h.1, ?_⟩
  rcases h.2 with h | ⟨g, cap, cur, h1, h2, h3⟩
  · exact .inl h
  · exact .inr ⟨g, cap, cur, h1, by omega, h3⟩
theorem one_cell_new (w : World) (c : Value) : ∀ j u, ([c] : List Value)[j]? = some u → (w.alloc (.cells #[c] 5)).cell? ((⟨w.heap.size, 0, none⟩ : Addr).add j) = some u := by
  intro j u hj
  rw [add_at, Nat.zero_add]
  exact new_cell w [c] _ j u hj

theorem three_stored {w : World} {B : Nat} {a b c : Value} (h : ∀ j u, ([a, b, c] : List Value)[j]? = some u → w.cell? ⟨B, j, none⟩ = some u) (x y z : Value) :
    ∀ j u, ([x, y, z] : List Value)[j]? = some u → (((w.setCell ⟨B, 0, none⟩ x).setCell ⟨B, 1, none⟩ y).setCell ⟨B, 2, none⟩ z).cell? ⟨B, j, none⟩ = some u := by
  have k0 := h 0 _ rfl
  have k1 : (w.setCell ⟨B, 0, none⟩ x).cell? ⟨B, 1, none⟩ = some b := by
    rw [World.cell?_setCell_other]
    · exact h 1 _ rfl
    all_goals simp
  have k2 : ((w.setCell ⟨B, 0, none⟩ x).setCell ⟨B, 1, none⟩ y).cell? ⟨B, 2, none⟩ = some c := by
    rw [World.cell?_setCell_other, World.cell?_setCell_other]
    · exact h 2 _ rfl
    all_goals simp
  intro j u hj
  match j, hj with
  | 0, hj =>
    cases hj
    rw [World.cell?_setCell_other, World.cell?_setCell_other]
    · exact World.cell?_setCell_same _ _ _ k0
    all_goals simp
  | 1, hj =>
    cases hj
    rw [World.cell?_setCell_other]
    · exact World.cell?_setCell_same _ _ _ k1
    all_goals simp
  | 2, hj =>
    cases hj
    exact World.cell?_setCell_same _ _ _ k2

set_option maxRecDepth 100000 in
set_option maxHeartbeats 1000000 in
theorem refPut_any (b : Value) (l : List UInt8) (v : V) (w : World) (hr : Rd w b l) (hl : l.length ≤ 1000000) (hv : v.fits) (hs : v.s.length ≤ 5000) :
    Calls Try.prog 46 #[b, v.val] w (Fresh 5 w ((l ++ encV v).map bv)) := by
  obtain ⟨i0, hi, hz0, hz1, hz2⟩ := info_parts Try.info5
  have HR := Lib.hid (fun w => refRight_any v hv (by omega) w)
  have HE := Lib.hid (show ∀ x, x = encV v → x = encV v from fun _ h => h)
  cases hrv : rightV v with
  | false =>
    have hen : encV v = [0] := by unfold encV; rw [if_neg (by rw [hrv]; decide)]
    rw [hen]
    rw [hrv] at HR
    clear hen hrv hv HE
    obtain ⟨k, n, s⟩ := v
    unfold V.val at HR ⊢
    simp only at HR hs ⊢
    go_enter Try.func46, Try.ntmps46
    go_wp2_with fail
    refine (HR.out _).mono ?_
    rintro e w1 ⟨rfl, hb⟩
    have HZ0 := Lib.hid (kept_cell (new_cell w [.int .u8 k, .int .i64 n, .string ⟨s.toArray⟩] 24) hb)
    have HZ1 := Lib.hid (show (Ext w w1) from Ext.trans (ext_one _ _) hb)
    have c0 := HZ0.out 0 _ rfl
    have c1 := HZ0.out 1 _ rfl
    have c2 := HZ0.out 2 _ rfl
    have hf : ∀ j, w1.frozen? ⟨w.heap.size, j, none⟩ = false := fun j => by
      rw [frozen_ext hb (by simp)]
      unfold World.frozen?
      rw [heap_alloc_new]
      simp
    have f0 := hf 0
    have f1 := hf 1
    have f2 := hf 2
    clear hb hf
    have HZ := Lib.hid (three_stored HZ0.out (.int .u8 0) (.int .i64 0) (.string ⟨#[]⟩))
    have EX1 := Lib.hid (show Ext w (((w1.setCell ⟨w.heap.size, 0, none⟩ (.int .u8 0)).setCell ⟨w.heap.size, 1, none⟩ (.int .i64 0)).setCell ⟨w.heap.size, 2, none⟩ (.string ⟨#[]⟩)) from
      Below.setCell (Below.setCell (Below.setCell HZ1.out (Nat.le_refl _) _) (Nat.le_refl _) _) (Nat.le_refl _) _)
    have HA1 := Lib.hid (show Below w1.heap.size (((w1.setCell ⟨w.heap.size, 0, none⟩ (.int .u8 0)).setCell ⟨w.heap.size, 1, none⟩ (.int .i64 0)).setCell ⟨w.heap.size, 2, none⟩ (.string ⟨#[]⟩)) ((((w1.setCell ⟨w.heap.size, 0, none⟩ (.int .u8 0)).setCell ⟨w.heap.size, 1, none⟩ (.int .i64 0)).setCell ⟨w.heap.size, 2, none⟩ (.string ⟨#[]⟩)).alloc (.cells #[] 5)) from
      (Below.refl w1.heap.size _).alloc (by simp) _)
    have HO1 := Lib.hid (show ((((w1.setCell ⟨w.heap.size, 0, none⟩ (.int .u8 0)).setCell ⟨w.heap.size, 1, none⟩ (.int .i64 0)).setCell ⟨w.heap.size, 2, none⟩ (.string ⟨#[]⟩)).alloc (.cells #[] 5)).ownsRow w1.heap.size 5 1 (.slice (some ⟨w1.heap.size, 0, none⟩) 0 0) 0 [] from by
      have h := empty_owned (((w1.setCell ⟨w.heap.size, 0, none⟩ (.int .u8 0)).setCell ⟨w.heap.size, 1, none⟩ (.int .i64 0)).setCell ⟨w.heap.size, 2, none⟩ (.string ⟨#[]⟩))
      have hz : (((w1.setCell ⟨w.heap.size, 0, none⟩ (.int .u8 0)).setCell ⟨w.heap.size, 1, none⟩ (.int .i64 0)).setCell ⟨w.heap.size, 2, none⟩ (.string ⟨#[]⟩)).heap.size = w1.heap.size := by simp
      rw [hz] at h
      exact h)
    have HX1 := Lib.hid ((hr.mono EX1.out).mono (show Ext _ _ from (Below.refl _ _).alloc (Nat.le_refl _) (.cells #[] 5)))
    have HBV := Lib.hid (bv_oneCell l)
    have HLM := Lib.hid (show (l.map bv).length = l.length from List.length_map _)
    have HLE := Lib.hid (show w.heap.size ≤ w1.heap.size from HZ1.out.size)
    go_wp2_with (first
      | (at_builtin; go_loud (refine wpList_append_rd rfl (.tmp 10) (.tmp 11) 33 rfl w1.heap.size 5 i0 (.int .u8 0) 1 Try.underlying33 hi hz0 hz1 hz2 rfl _ _ _ rfl HO1.out _ _ rfl HX1.out HBV.out (by rw [HLM.out]; unfold maxLen; omega) (by rw [HLM.out]; omega) (by simp) ?_); intro v2 w2 hown2 hgrow2; have HB2 := Lib.hid (show Below w1.heap.size _ w2 from HA1.out.grown hgrow2 (by simp) (fun k hk => by cases hk; exact Nat.le_refl _)); have HE2 := Lib.hid (show Ext _ w2 from Below.mono HB2.out (by simp)); have HG2 := Lib.hid hgrow2; have d0 := kept_cell HZ.out HE2.out 0 _ rfl; clear hgrow2)
      | (at_builtin; go_loud (refine wpList_append_own _ rfl (.tmp 13) (.tmp 16) 33 rfl w1.heap.size 5 i0 (.int .u8 0) 1 1 Try.underlying33 hi hz0 hz1 hz2 rfl (by decide) _ _ _ rfl (hown2.alloc _) ⟨w2.heap.size, 0, none⟩ 1 1 [(.int .u8 0)] rfl rfl (one_cell_new _ _) (by simp [Value.oneCell']) (by rw [HLM.out]; unfold maxLen; omega) (by rw [HLM.out]; omega) (by have := HB2.out.size; simp at this; simp; omega) ?_); intro v3 w3 hown3 hgrow3 _; have HB3 := Lib.hid (show Below w1.heap.size _ w3 from (HB2.out.alloc (by have := HB2.out.size; simp at this; omega) _).grown hgrow3 (by have := HB2.out.size; simp at this; simp; omega) (fun k hk => (hown2.lt k hk).1)); have HE3 := Lib.hid (show Ext _ w3 from Below.mono HB3.out (by simp)); have HO3 := Lib.hid hown3; clear hgrow3 hown3; have d0 := kept_cell HZ.out HE3.out 0 _ rfl; have d1 := kept_cell HZ.out HE3.out 1 _ rfl; have d2 := kept_cell HZ.out HE3.out 2 _ rfl))
    go_ret
    refine ⟨_, rfl, ?_, Ext.trans EX1.out HE3.out⟩
    have h := HO3.out
    have e : ([] ++ l.map bv) ++ [(.int .u8 0)] = (l ++ [0]).map bv := by rw [List.nil_append, List.map_append]; rfl
    rw [e] at h
    have h2 : 0 + (l.map bv).length + 1 = ((l ++ [0]).map bv).length := by simp
    rw [h2] at h
    exact own_low h HLE.out
  | true =>
    rw [hrv] at HR
    have hcase := (rightV_iff v).1 hrv
    have hen : encV v = UInt8.ofNat v.k.toNat :: (if v.k = 1 ∨ v.k = 2 then enc (zig v.n) else if v.k = 3 then enc v.s.length ++ v.s else []) := by unfold encV; rw [if_pos hrv]
    rw [hen]
    have HLO := Lib.hid hv.lo
    have HHI := Lib.hid hv.hi
    clear hen hrv hv HE
    obtain ⟨k, n, s⟩ := v
    unfold V.val at HR ⊢
    simp only at HR hs hcase HLO HHI ⊢
    have hcase2 : k = 0 ∨ k = 1 ∨ k = 2 ∨ k = 3 := by rcases hcase with h | h | h | h <;> omega
    clear hcase
    rcases hcase2 with rfl | rfl | rfl | rfl
    · have henc : (UInt8.ofNat (Int.toNat 0) :: (if (0 : Int) = 1 ∨ (0 : Int) = 2 then enc (zig n) else if (0 : Int) = 3 then enc s.length ++ s else [])) = [0] := rfl
      rw [henc]
      clear henc
      go_enter Try.func46, Try.ntmps46
      go_wp2_with fail
      refine (HR.out _).mono ?_
      rintro e w1 ⟨rfl, hb⟩
      have HZ := Lib.hid (kept_cell (new_cell w [.int .u8 0, .int .i64 n, .string ⟨s.toArray⟩] 24) hb)
      have EX1 := Lib.hid (show Ext w w1 from Ext.trans (ext_one _ _) hb)
      clear hb
      have HA1 := Lib.hid ((Below.refl (w1).heap.size (w1)).alloc (Nat.le_refl _) (.cells #[] 5))
      have HO1 := Lib.hid (empty_owned (w1))
      have HX1 := Lib.hid ((hr.mono EX1.out).mono HA1.out)
      have HBV := Lib.hid (bv_oneCell l)
      have hlm : (l.map bv).length = l.length := List.length_map _
      have HLM := Lib.hid hlm
      clear hlm
      go_wp2_with (first
        | (at_builtin; go_loud (refine wpList_append_rd rfl (.tmp 10) (.tmp 11) 33 rfl (w1).heap.size 5 i0 (.int .u8 0) 1 Try.underlying33 hi hz0 hz1 hz2 rfl _ _ _ rfl HO1.out _ _ rfl HX1.out HBV.out (by rw [HLM.out]; unfold maxLen; omega) (by rw [HLM.out]; omega) (by simp) ?_); intro v2 w2 hown2 hgrow2; have HB2 := Lib.hid (show Below (w1).heap.size (w1) w2 from HA1.out.grown hgrow2 (by simp) (fun k hk => by cases hk; exact Nat.le_refl _)); have HG2 := Lib.hid hgrow2; have c0 := kept_cell HZ.out HB2.out 0 _ rfl; clear hgrow2)
        | (at_builtin; go_loud (refine wpList_append_own _ rfl (.tmp 13) (.tmp 16) 33 rfl (w1).heap.size 5 i0 (.int .u8 0) 1 1 Try.underlying33 hi hz0 hz1 hz2 rfl (by decide) _ _ _ rfl (hown2.alloc _) ⟨w2.heap.size, 0, none⟩ 1 1 [(.int .u8 0)] rfl rfl (one_cell_new _ _) (by simp [Value.oneCell']) (by rw [HLM.out]; unfold maxLen; omega) (by rw [HLM.out]; omega) (by have := HB2.out.size; simp; omega) ?_); intro v3 w3 hown3 hgrow3 _; have HB3 := Lib.hid (show Below (w1).heap.size (w1) w3 from (HB2.out.alloc HB2.out.size _).grown hgrow3 (by have := HB2.out.size; simp; omega) (fun k hk => (hown2.lt k hk).1)); have HO3 := Lib.hid hown3; clear hgrow3 hown3; have d0 := kept_cell HZ.out HB3.out 0 _ rfl; have d1 := kept_cell HZ.out HB3.out 1 _ rfl; have d2 := kept_cell HZ.out HB3.out 2 _ rfl))
      go_ret
      refine ⟨_, rfl, ?_, Ext.trans EX1.out HB3.out⟩
      have h := HO3.out
      have e : ([] ++ l.map bv) ++ [(.int .u8 0)] = (l ++ [0]).map bv := by rw [List.nil_append, List.map_append]; rfl
      rw [e] at h
      have h2 : 0 + (l.map bv).length + 1 = ((l ++ [0]).map bv).length := by simp
      rw [h2] at h
      exact own_low h EX1.out.size
    · have henc : (UInt8.ofNat (Int.toNat 1) :: (if (1 : Int) = 1 ∨ (1 : Int) = 2 then enc (zig n) else if (1 : Int) = 3 then enc s.length ++ s else [])) = (1 : UInt8) :: enc (zig n) := rfl
      rw [henc]
      clear henc
      go_enter Try.func46, Try.ntmps46
      go_wp2_with fail
      refine (HR.out _).mono ?_
      rintro e w1 ⟨rfl, hb⟩
      have HZ := Lib.hid (kept_cell (new_cell w [.int .u8 1, .int .i64 n, .string ⟨s.toArray⟩] 24) hb)
      have EX1 := Lib.hid (show Ext w w1 from Ext.trans (ext_one _ _) hb)
      clear hb
      have HA1 := Lib.hid ((Below.refl (w1).heap.size (w1)).alloc (Nat.le_refl _) (.cells #[] 5))
      have HO1 := Lib.hid (empty_owned (w1))
      have HX1 := Lib.hid ((hr.mono EX1.out).mono HA1.out)
      have HBV := Lib.hid (bv_oneCell l)
      have hlm : (l.map bv).length = l.length := List.length_map _
      have HLM := Lib.hid hlm
      clear hlm
      go_wp2_with (first
        | (at_builtin; go_loud (refine wpList_append_rd rfl (.tmp 10) (.tmp 11) 33 rfl (w1).heap.size 5 i0 (.int .u8 0) 1 Try.underlying33 hi hz0 hz1 hz2 rfl _ _ _ rfl HO1.out _ _ rfl HX1.out HBV.out (by rw [HLM.out]; unfold maxLen; omega) (by rw [HLM.out]; omega) (by simp) ?_); intro v2 w2 hown2 hgrow2; have HB2 := Lib.hid (show Below (w1).heap.size (w1) w2 from HA1.out.grown hgrow2 (by simp) (fun k hk => by cases hk; exact Nat.le_refl _)); have HG2 := Lib.hid hgrow2; have c0 := kept_cell HZ.out HB2.out 0 _ rfl; clear hgrow2)
        | (at_builtin; go_loud (refine wpList_append_own _ rfl (.tmp 13) (.tmp 16) 33 rfl (w1).heap.size 5 i0 (.int .u8 0) 1 1 Try.underlying33 hi hz0 hz1 hz2 rfl (by decide) _ _ _ rfl (hown2.alloc _) ⟨w2.heap.size, 0, none⟩ 1 1 [(.int .u8 1)] rfl rfl (one_cell_new _ _) (by simp [Value.oneCell']) (by rw [HLM.out]; unfold maxLen; omega) (by rw [HLM.out]; omega) (by have := HB2.out.size; simp; omega) ?_); intro v3 w3 hown3 hgrow3 _; have HB3 := Lib.hid (show Below (w1).heap.size (w1) w3 from (HB2.out.alloc HB2.out.size _).grown hgrow3 (by have := HB2.out.size; simp; omega) (fun k hk => (hown2.lt k hk).1)); have HO3 := Lib.hid hown3; clear hgrow3 hown3; have d0 := kept_cell HZ.out HB3.out 0 _ rfl; have d1 := kept_cell HZ.out HB3.out 1 _ rfl; have d2 := kept_cell HZ.out HB3.out 2 _ rfl))
      have HR3 := Lib.hid (show Rd w3 v3 (l ++ [1]) from by
        have h := RdV.of_owns HO3.out
        have e : ([] ++ l.map bv) ++ [(.int .u8 1)] = (l ++ [1]).map bv := by rw [List.nil_append, List.map_append]; rfl
        rw [e] at h
        exact h)
      refine (refInt_any v3 (l ++ [1]) n _ HR3.out (by rw [List.length_append]; simp; omega) HLO.out HHI.out).mono ?_
      rintro e w4 ⟨v4, rfl, ho4, hb4⟩
      have HO4 := Lib.hid ho4
      have HB4 := Lib.hid (Ext.trans EX1.out (Ext.trans HB3.out hb4))
      have HS4 := Lib.hid (show w.heap.size ≤ w3.heap.size by have := EX1.out.size; have := HB3.out.size; omega)
      clear ho4 hb4
      go_wp2_with fail
      go_ret
      refine ⟨_, rfl, ?_, HB4.out⟩
      have h := own_low HO4.out HS4.out
      have e : (l ++ [1] ++ enc (zig n)) = l ++ (1 :: enc (zig n)) := by simp [List.append_assoc]
      rw [e] at h
      exact h
    · have henc : (UInt8.ofNat (Int.toNat 2) :: (if (2 : Int) = 1 ∨ (2 : Int) = 2 then enc (zig n) else if (2 : Int) = 3 then enc s.length ++ s else [])) = (2 : UInt8) :: enc (zig n) := rfl
      rw [henc]
      clear henc
      go_enter Try.func46, Try.ntmps46
      go_wp2_with fail
      refine (HR.out _).mono ?_
      rintro e w1 ⟨rfl, hb⟩
      have HZ := Lib.hid (kept_cell (new_cell w [.int .u8 2, .int .i64 n, .string ⟨s.toArray⟩] 24) hb)
      have EX1 := Lib.hid (show Ext w w1 from Ext.trans (ext_one _ _) hb)
      clear hb
      have HA1 := Lib.hid ((Below.refl (w1).heap.size (w1)).alloc (Nat.le_refl _) (.cells #[] 5))
      have HO1 := Lib.hid (empty_owned (w1))
      have HX1 := Lib.hid ((hr.mono EX1.out).mono HA1.out)
      have HBV := Lib.hid (bv_oneCell l)
      have hlm : (l.map bv).length = l.length := List.length_map _
      have HLM := Lib.hid hlm
      clear hlm
      go_wp2_with (first
        | (at_builtin; go_loud (refine wpList_append_rd rfl (.tmp 10) (.tmp 11) 33 rfl (w1).heap.size 5 i0 (.int .u8 0) 1 Try.underlying33 hi hz0 hz1 hz2 rfl _ _ _ rfl HO1.out _ _ rfl HX1.out HBV.out (by rw [HLM.out]; unfold maxLen; omega) (by rw [HLM.out]; omega) (by simp) ?_); intro v2 w2 hown2 hgrow2; have HB2 := Lib.hid (show Below (w1).heap.size (w1) w2 from HA1.out.grown hgrow2 (by simp) (fun k hk => by cases hk; exact Nat.le_refl _)); have HG2 := Lib.hid hgrow2; have c0 := kept_cell HZ.out HB2.out 0 _ rfl; clear hgrow2)
        | (at_builtin; go_loud (refine wpList_append_own _ rfl (.tmp 13) (.tmp 16) 33 rfl (w1).heap.size 5 i0 (.int .u8 0) 1 1 Try.underlying33 hi hz0 hz1 hz2 rfl (by decide) _ _ _ rfl (hown2.alloc _) ⟨w2.heap.size, 0, none⟩ 1 1 [(.int .u8 2)] rfl rfl (one_cell_new _ _) (by simp [Value.oneCell']) (by rw [HLM.out]; unfold maxLen; omega) (by rw [HLM.out]; omega) (by have := HB2.out.size; simp; omega) ?_); intro v3 w3 hown3 hgrow3 _; have HB3 := Lib.hid (show Below (w1).heap.size (w1) w3 from (HB2.out.alloc HB2.out.size _).grown hgrow3 (by have := HB2.out.size; simp; omega) (fun k hk => (hown2.lt k hk).1)); have HO3 := Lib.hid hown3; clear hgrow3 hown3; have d0 := kept_cell HZ.out HB3.out 0 _ rfl; have d1 := kept_cell HZ.out HB3.out 1 _ rfl; have d2 := kept_cell HZ.out HB3.out 2 _ rfl))
      have HR3 := Lib.hid (show Rd w3 v3 (l ++ [2]) from by
        have h := RdV.of_owns HO3.out
        have e : ([] ++ l.map bv) ++ [(.int .u8 2)] = (l ++ [2]).map bv := by rw [List.nil_append, List.map_append]; rfl
        rw [e] at h
        exact h)
      refine (refInt_any v3 (l ++ [2]) n _ HR3.out (by rw [List.length_append]; simp; omega) HLO.out HHI.out).mono ?_
      rintro e w4 ⟨v4, rfl, ho4, hb4⟩
      have HO4 := Lib.hid ho4
      have HB4 := Lib.hid (Ext.trans EX1.out (Ext.trans HB3.out hb4))
      have HS4 := Lib.hid (show w.heap.size ≤ w3.heap.size by have := EX1.out.size; have := HB3.out.size; omega)
      clear ho4 hb4
      go_wp2_with fail
      go_ret
      refine ⟨_, rfl, ?_, HB4.out⟩
      have h := own_low HO4.out HS4.out
      have e : (l ++ [2] ++ enc (zig n)) = l ++ (2 :: enc (zig n)) := by simp [List.append_assoc]
      rw [e] at h
      exact h
    · have henc : (UInt8.ofNat (Int.toNat 3) :: (if (3 : Int) = 1 ∨ (3 : Int) = 2 then enc (zig n) else if (3 : Int) = 3 then enc s.length ++ s else [])) = (3 : UInt8) :: (enc s.length ++ s) := rfl
      rw [henc]
      clear henc
      go_enter Try.func46, Try.ntmps46
      go_wp2_with fail
      refine (HR.out _).mono ?_
      rintro e w1 ⟨rfl, hb⟩
      have HZ := Lib.hid (kept_cell (new_cell w [.int .u8 3, .int .i64 n, .string ⟨s.toArray⟩] 24) hb)
      have EX1 := Lib.hid (show Ext w w1 from Ext.trans (ext_one _ _) hb)
      clear hb
      have HA1 := Lib.hid ((Below.refl (w1).heap.size (w1)).alloc (Nat.le_refl _) (.cells #[] 5))
      have HO1 := Lib.hid (empty_owned (w1))
      have HX1 := Lib.hid ((hr.mono EX1.out).mono HA1.out)
      have HBV := Lib.hid (bv_oneCell l)
      have hlm : (l.map bv).length = l.length := List.length_map _
      have HLM := Lib.hid hlm
      clear hlm
      go_wp2_with (first
        | (at_builtin; go_loud (refine wpList_append_rd rfl (.tmp 10) (.tmp 11) 33 rfl (w1).heap.size 5 i0 (.int .u8 0) 1 Try.underlying33 hi hz0 hz1 hz2 rfl _ _ _ rfl HO1.out _ _ rfl HX1.out HBV.out (by rw [HLM.out]; unfold maxLen; omega) (by rw [HLM.out]; omega) (by simp) ?_); intro v2 w2 hown2 hgrow2; have HB2 := Lib.hid (show Below (w1).heap.size (w1) w2 from HA1.out.grown hgrow2 (by simp) (fun k hk => by cases hk; exact Nat.le_refl _)); have HG2 := Lib.hid hgrow2; have c0 := kept_cell HZ.out HB2.out 0 _ rfl; clear hgrow2)
        | (at_builtin; go_loud (refine wpList_append_own _ rfl (.tmp 13) (.tmp 16) 33 rfl (w1).heap.size 5 i0 (.int .u8 0) 1 1 Try.underlying33 hi hz0 hz1 hz2 rfl (by decide) _ _ _ rfl (hown2.alloc _) ⟨w2.heap.size, 0, none⟩ 1 1 [(.int .u8 3)] rfl rfl (one_cell_new _ _) (by simp [Value.oneCell']) (by rw [HLM.out]; unfold maxLen; omega) (by rw [HLM.out]; omega) (by have := HB2.out.size; simp; omega) ?_); intro v3 w3 hown3 hgrow3 _; have HB3 := Lib.hid (show Below (w1).heap.size (w1) w3 from (HB2.out.alloc HB2.out.size _).grown hgrow3 (by have := HB2.out.size; simp; omega) (fun k hk => (hown2.lt k hk).1)); have HO3 := Lib.hid hown3; clear hgrow3 hown3; have d0 := kept_cell HZ.out HB3.out 0 _ rfl; have d1 := kept_cell HZ.out HB3.out 1 _ rfl; have d2 := kept_cell HZ.out HB3.out 2 _ rfl))
      have HR3 := Lib.hid (show Rd w3 v3 (l ++ [3]) from by
        have h := RdV.of_owns HO3.out
        have e : ([] ++ l.map bv) ++ [(.int .u8 3)] = (l ++ [3]).map bv := by rw [List.nil_append, List.map_append]; rfl
        rw [e] at h
        exact h)
      refine (refText_any v3 (l ++ [3]) ⟨s.toArray⟩ _ HR3.out (by rw [List.length_append]; show l.length + 1 + 9 + s.length ≤ _; omega)).mono ?_
      rintro e w4 ⟨v4, rfl, ho4, hb4⟩
      have HO4 := Lib.hid ho4
      have HB4 := Lib.hid (Ext.trans EX1.out (Ext.trans HB3.out hb4))
      have HS4 := Lib.hid (show w.heap.size ≤ w3.heap.size by have := EX1.out.size; have := HB3.out.size; omega)
      clear ho4 hb4
      go_wp2_with fail
      go_ret
      refine ⟨_, rfl, ?_, HB4.out⟩
      have h := own_low HO4.out HS4.out
      have e : (l ++ [3] ++ enc (ByteArray.size ⟨s.toArray⟩) ++ (ByteArray.mk s.toArray).data.toList) = l ++ (3 :: (enc s.length ++ s)) := by simp [List.append_assoc, ByteArray.size]
      rw [e] at h
      exact h

end Go.Proofs.Ytlbilmmjcfiokaa
