/-
  The program's contracts of Put and Take: bytes cloned, and Put.
-/
import Derived.Test.YtlbilmmjcfiokaaCellSays
import Derived.Test.YtlbilmmjcfiokaaCellPutKit
import Derived.Test.YtlbilmmjcfiokaaCellRefPut
import Derived.Test.YtlbilmmjcfiokaaOct
import Derived.Test.YtlbilmmjcfiokaaRead
namespace Go.Proofs.Ytlbilmmjcfiokaa
open Go.RowKit Go.BigFrame

set_option maxHeartbeats 400000 in
theorem bclone_nil (w : World) : Calls Try.prog 80 #[.slice none 0 0] w (Fresh 5 w []) := by
  have hq := fun W : World => Lib.run_eql_slice_nil (P := Try.prog) W
  go_enter Try.func80, Try.ntmps80
  go_wp2
  go_ret
  exact ⟨_, rfl, World.ownsRow_nil _ _ _ _, Below.refl _ _⟩

set_option maxHeartbeats 400000 in
theorem bclone_some (x : Addr) (L cap : Nat) (xs : List Value) (w : World) (hL : xs.length = L) (hc : ∀ i u, xs[i]? = some u → w.cell? (x.add i) = some u)
    (h1c : ∀ u ∈ xs, u.oneCell' = true) (h1 : L ≤ 140737488355328) : Calls Try.prog 80 #[.slice (some x) L cap] w (Fresh 5 w xs) := by
  have hq := fun W : World => Lib.run_eql_slice_nil (P := Try.prog) W
  obtain ⟨i0, hi, hz0, hz1, hz2⟩ := info_parts Try.info5
  have hown : (w.alloc (.cells #[] 5)).ownsRow w.heap.size 5 1 (.slice (some ⟨w.heap.size, 0, none⟩) 0 0) 0 [] := World.ownsRow_made w #[] 0 (Nat.le_refl _) (by simp [maxLen]) rfl
  have HL := Lib.hid hL
  have HC := Lib.hid (fun i u hu => (World.grownBy_alloc w (.cells #[] 5) none).cell (hc i u hu) (by simp))
  have H1 := Lib.hid h1c
  have HO := Lib.hid hown
  clear hL hc h1c hown
  go_enter Try.func80, Try.ntmps80
  go_wp2_with (at_builtin; go_loud (refine wpList_append_own _ rfl _ _ 33 rfl w.heap.size 5 i0 (.int .u8 0) 1 1 Try.underlying33 hi hz0 hz1 hz2 rfl (by decide) _ _ _ rfl HO.out x L cap xs rfl (by rw [HL.out, Nat.mul_one]) HC.out H1.out (by unfold maxLen; omega) (by omega) (by simp) ?_); intro v2 w2 hown2 hgrow2 _)
  go_ret
  refine ⟨_, rfl, ?_, ((Below.refl _ _).alloc (Nat.le_refl _) _).grown hgrow2 (by simp) ?_⟩
  · rw [HL.out]; simpa using hown2
  · intro k hk; cases hk; exact Nat.le_refl _

theorem bclone_any (v : Value) (l : List UInt8) (w : World) (hr : Rd w v l) (h1 : l.length ≤ 140737488355328) : Calls Try.prog 80 #[v] w (Fresh 5 w (l.map bv)) := by
  rcases hr with ⟨rfl, h2⟩ | ⟨x, cap, rfl, h2, h3, h4⟩
  · rw [h2]; exact bclone_nil w
  · exact bclone_some x _ cap _ w rfl h4 (bv_oneCell l) (by rw [List.length_map]; exact h1)

set_option maxRecDepth 100000 in
set_option maxHeartbeats 1000000 in
theorem Put_any (b : Value) (l : List UInt8) (v : V) (w : World) (hr : Rd w b l) (hl : l.length ≤ 1000000) (hv : v.fits) (hs : v.s.length ≤ 5000) :
    Calls Try.prog 44 #[b, v.val] w (Fresh 5 w ((l ++ encV v).map bv)) := by
  have HR := Lib.hid (fun w => Right_any v hv hs w)
  have HL := Lib.hid hl
  have HRD := Lib.hid hr
  obtain ⟨ab, capb, rfl, _, _⟩ := hr.shape
  clear hr
  cases hrv : rightV v with
  | false =>
    have hen : encV v = [0] := by unfold encV; rw [if_neg (by rw [hrv]; decide)]
    rw [hen]
    obtain ⟨X, hX⟩ : ∃ X, (l ++ [0]).map bv = X := ⟨_, rfl⟩
    rw [hX]
    replace hX := Lib.hid hX
    rw [hrv] at HR
    clear hen hrv hv hs hl
    obtain ⟨k, n, s⟩ := v
    unfold V.val at HR ⊢
    simp only at HR ⊢
    go_enter Try.func44, Try.ntmps44
    go_wp2_with fail
    refine (HR.out _).mono ?_
    rintro e w1 ⟨rfl, hb⟩
    have HZ0 := Lib.hid (kept_cell (new_cell w [.int .u8 k, .int .i64 n, .string ⟨s.toArray⟩] 24) hb)
    have HZ1 := Lib.hid (show (Ext w w1) from Ext.trans (ext_one _ _) hb)
    have c0 := HZ0.out 0 _ rfl
    have c1 := HZ0.out 1 _ rfl
    have c2 := HZ0.out 2 _ rfl
    have hf : ∀ j, w1.frozen? ⟨w.heap.size, j, none⟩ = false := fun j => by
      rw [frozen_ext hb (by simp)]
      unfold World.frozen?
      rw [heap_alloc_new]
      simp
    have f0 := hf 0
    have f1 := hf 1
    have f2 := hf 2
    clear hb hf
    have HZ := Lib.hid (three_stored HZ0.out (.int .u8 0) (.int .i64 0) (.string ⟨#[]⟩))
    have k0 := HZ.out 0 _ rfl
    have EX1 := Lib.hid (show Ext w (((w1.setCell ⟨w.heap.size, 0, none⟩ (.int .u8 0)).setCell ⟨w.heap.size, 1, none⟩ (.int .i64 0)).setCell ⟨w.heap.size, 2, none⟩ (.string ⟨#[]⟩)) from
      Below.setCell (Below.setCell (Below.setCell HZ1.out (Nat.le_refl _) _) (Nat.le_refl _) _) (Nat.le_refl _) _)
    go_wp2_with fail
    refine (Num_any _ l 0 _ (HRD.out.mono EX1.out) (by have := HL.out; omega) (by omega)).mono ?_
    rintro e w2 ⟨v2, rfl, hown2, hb2⟩
    have HO2 := Lib.hid hown2
    have HB2 := Lib.hid (Ext.trans EX1.out hb2)
    have k0 := kept_cell HZ.out hb2 0 _ rfl
    have HSZ := Lib.hid EX1.out.size
    clear hown2 hb2 c0 c1 c2 f0 f1 f2
    go_wp2_with fail
    go_ret
    exact ⟨_, rfl, by rw [← hX.out]; exact own_low HO2.out HSZ.out, HB2.out⟩
  | true =>
    rw [hrv] at HR
    have hcase := (rightV_iff v).1 hrv
    have hen : encV v = UInt8.ofNat v.k.toNat :: (if v.k = 1 ∨ v.k = 2 then enc (zig v.n) else if v.k = 3 then enc v.s.length ++ v.s else []) := by unfold encV; rw [if_pos hrv]
    rw [hen]
    have HLO := Lib.hid hv.lo
    have HHI := Lib.hid hv.hi
    have HS := Lib.hid hs
    clear hen hrv hv hs hl
    obtain ⟨k, n, s⟩ := v
    unfold V.val at HR ⊢
    simp only at HR hcase HLO HHI HS ⊢
    have hcase2 : k = 0 ∨ k = 1 ∨ k = 2 ∨ k = 3 := by rcases hcase with h | h | h | h <;> omega
    clear hcase
    rcases hcase2 with rfl | rfl | rfl | rfl
    · have henc : (UInt8.ofNat (Int.toNat 0) :: (if (0 : Int) = 1 ∨ (0 : Int) = 2 then enc (zig n) else if (0 : Int) = 3 then enc s.length ++ s else [])) = enc 0 ++ [] := rfl
      obtain ⟨X, hX⟩ : ∃ X, (l ++ enc 0 ++ []).map bv = X := ⟨_, rfl⟩
      rw [henc, ← List.append_assoc, hX]
      replace hX := Lib.hid hX
      clear henc
      go_enter Try.func44, Try.ntmps44
      go_wp2_with fail
      refine (HR.out _).mono ?_
      rintro e w1 ⟨rfl, hb⟩
      have HZ := Lib.hid (kept_cell (new_cell w [.int .u8 0, .int .i64 n, .string ⟨s.toArray⟩] 24) hb)
      have k0 := HZ.out 0 _ rfl
      have EX1 := Lib.hid (show Ext w w1 from Ext.trans (ext_one _ _) hb)
      clear hb
      go_wp2_with fail
      refine (Num_any _ l 0 _ (HRD.out.mono EX1.out) (by have := HL.out; omega) (by omega)).mono ?_
      rintro e w2 ⟨v2, rfl, hown2, hb2⟩
      have HO2 := Lib.hid hown2
      have HB2 := Lib.hid (Ext.trans EX1.out hb2)
      have HZ2 := Lib.hid (kept_cell HZ.out hb2)
      have HSZ := Lib.hid EX1.out.size
      have hr2 : Rd w2 v2 (l ++ enc 0) := RdV.of_owns hown2
      have HR2 := Lib.hid hr2
      have k0 := HZ2.out 0 _ rfl
      have k1 := HZ2.out 1 _ rfl
      have k2 := HZ2.out 2 _ rfl
      clear hown2 hb2 hr2
      go_wp2_with fail
      go_ret
      exact ⟨_, rfl, by rw [← hX.out, List.append_nil]; exact own_low HO2.out HSZ.out, HB2.out⟩
    · have henc : (UInt8.ofNat (Int.toNat 1) :: (if (1 : Int) = 1 ∨ (1 : Int) = 2 then enc (zig n) else if (1 : Int) = 3 then enc s.length ++ s else [])) = enc 1 ++ enc (zig n) := rfl
      obtain ⟨X, hX⟩ : ∃ X, (l ++ enc 1 ++ enc (zig n)).map bv = X := ⟨_, rfl⟩
      rw [henc, ← List.append_assoc, hX]
      replace hX := Lib.hid hX
      clear henc
      go_enter Try.func44, Try.ntmps44
      go_wp2_with fail
      refine (HR.out _).mono ?_
      rintro e w1 ⟨rfl, hb⟩
      have HZ := Lib.hid (kept_cell (new_cell w [.int .u8 1, .int .i64 n, .string ⟨s.toArray⟩] 24) hb)
      have k0 := HZ.out 0 _ rfl
      have EX1 := Lib.hid (show Ext w w1 from Ext.trans (ext_one _ _) hb)
      clear hb
      go_wp2_with fail
      refine (Num_any _ l 1 _ (HRD.out.mono EX1.out) (by have := HL.out; omega) (by omega)).mono ?_
      rintro e w2 ⟨v2, rfl, hown2, hb2⟩
      have HO2 := Lib.hid hown2
      have HB2 := Lib.hid (Ext.trans EX1.out hb2)
      have HZ2 := Lib.hid (kept_cell HZ.out hb2)
      have HSZ := Lib.hid EX1.out.size
      have hr2 : Rd w2 v2 (l ++ enc 1) := RdV.of_owns hown2
      have HR2 := Lib.hid hr2
      have k0 := HZ2.out 0 _ rfl
      have k1 := HZ2.out 1 _ rfl
      have k2 := HZ2.out 2 _ rfl
      clear hown2 hb2 hr2
      go_wp2_with fail
      refine (Int_any _ (l ++ enc 1) n _ HR2.out (by have := HL.out; have := enc_length 1; rw [List.length_append]; omega) HLO.out HHI.out).mono ?_
      rintro e w3 ⟨v3, rfl, hown3, hb3⟩
      have HO3 := Lib.hid hown3
      have HB3 := Lib.hid hb3
      clear hown3 hb3
      go_wp2_with fail
      go_ret
      exact ⟨_, rfl, by rw [← hX.out]; exact own_low HO3.out HB2.out.size, Ext.trans HB2.out HB3.out⟩
    · have henc : (UInt8.ofNat (Int.toNat 2) :: (if (2 : Int) = 1 ∨ (2 : Int) = 2 then enc (zig n) else if (2 : Int) = 3 then enc s.length ++ s else [])) = enc 2 ++ enc (zig n) := rfl
      obtain ⟨X, hX⟩ : ∃ X, (l ++ enc 2 ++ enc (zig n)).map bv = X := ⟨_, rfl⟩
      rw [henc, ← List.append_assoc, hX]
      replace hX := Lib.hid hX
      clear henc
      go_enter Try.func44, Try.ntmps44
      go_wp2_with fail
      refine (HR.out _).mono ?_
      rintro e w1 ⟨rfl, hb⟩
      have HZ := Lib.hid (kept_cell (new_cell w [.int .u8 2, .int .i64 n, .string ⟨s.toArray⟩] 24) hb)
      have k0 := HZ.out 0 _ rfl
      have EX1 := Lib.hid (show Ext w w1 from Ext.trans (ext_one _ _) hb)
      clear hb
      go_wp2_with fail
      refine (Num_any _ l 2 _ (HRD.out.mono EX1.out) (by have := HL.out; omega) (by omega)).mono ?_
      rintro e w2 ⟨v2, rfl, hown2, hb2⟩
      have HO2 := Lib.hid hown2
      have HB2 := Lib.hid (Ext.trans EX1.out hb2)
      have HZ2 := Lib.hid (kept_cell HZ.out hb2)
      have HSZ := Lib.hid EX1.out.size
      have hr2 : Rd w2 v2 (l ++ enc 2) := RdV.of_owns hown2
      have HR2 := Lib.hid hr2
      have k0 := HZ2.out 0 _ rfl
      have k1 := HZ2.out 1 _ rfl
      have k2 := HZ2.out 2 _ rfl
      clear hown2 hb2 hr2
      go_wp2_with fail
      refine (Int_any _ (l ++ enc 2) n _ HR2.out (by have := HL.out; have := enc_length 2; rw [List.length_append]; omega) HLO.out HHI.out).mono ?_
      rintro e w3 ⟨v3, rfl, hown3, hb3⟩
      have HO3 := Lib.hid hown3
      have HB3 := Lib.hid hb3
      clear hown3 hb3
      go_wp2_with fail
      go_ret
      exact ⟨_, rfl, by rw [← hX.out]; exact own_low HO3.out HB2.out.size, Ext.trans HB2.out HB3.out⟩
    · have henc : (UInt8.ofNat (Int.toNat 3) :: (if (3 : Int) = 1 ∨ (3 : Int) = 2 then enc (zig n) else if (3 : Int) = 3 then enc s.length ++ s else [])) = enc 3 ++ (enc s.length ++ s) := rfl
      obtain ⟨X, hX⟩ : ∃ X, (l ++ enc 3 ++ (enc s.length ++ s)).map bv = X := ⟨_, rfl⟩
      rw [henc, ← List.append_assoc, hX]
      replace hX := Lib.hid hX
      clear henc
      go_enter Try.func44, Try.ntmps44
      go_wp2_with fail
      refine (HR.out _).mono ?_
      rintro e w1 ⟨rfl, hb⟩
      have HZ := Lib.hid (kept_cell (new_cell w [.int .u8 3, .int .i64 n, .string ⟨s.toArray⟩] 24) hb)
      have k0 := HZ.out 0 _ rfl
      have EX1 := Lib.hid (show Ext w w1 from Ext.trans (ext_one _ _) hb)
      clear hb
      go_wp2_with fail
      refine (Num_any _ l 3 _ (HRD.out.mono EX1.out) (by have := HL.out; omega) (by omega)).mono ?_
      rintro e w2 ⟨v2, rfl, hown2, hb2⟩
      have HO2 := Lib.hid hown2
      have HB2 := Lib.hid (Ext.trans EX1.out hb2)
      have HZ2 := Lib.hid (kept_cell HZ.out hb2)
      have HSZ := Lib.hid EX1.out.size
      have hr2 : Rd w2 v2 (l ++ enc 3) := RdV.of_owns hown2
      have HR2 := Lib.hid hr2
      have k0 := HZ2.out 0 _ rfl
      have k1 := HZ2.out 1 _ rfl
      have k2 := HZ2.out 2 _ rfl
      clear hown2 hb2 hr2
      go_wp2_with fail
      refine (Text_any _ (l ++ enc 3) ⟨s.toArray⟩ _ HR2.out (by have := HL.out; have := HS.out; have := enc_length 3; rw [List.length_append]; show _ + s.toArray.size ≤ _; simp; omega)).mono ?_
      rintro e w3 ⟨v3, rfl, hown3, hb3⟩
      have HO3 := Lib.hid (show w3.ownsRow w2.heap.size 5 1 v3 ((l ++ enc 3 ++ (enc s.length ++ s)).map bv).length ((l ++ enc 3 ++ (enc s.length ++ s)).map bv) from by
        rw [← List.append_assoc]
        exact hown3)
      have HB3 := Lib.hid hb3
      clear hown3 hb3
      go_wp2_with fail
      go_ret
      exact ⟨_, rfl, by rw [← hX.out]; exact own_low HO3.out HB2.out.size, Ext.trans HB2.out HB3.out⟩

/-- b[k:], whatever is left behind it. -/
theorem slice_from (x : Value) (l : List UInt8) (k : Nat) (w : World) (hr : Rd w x l) (hk : k ≤ l.length) :
    ∃ a cap, Rd w (.slice a (l.length - k) cap) (l.drop k) ∧ ∀ (i : Int) W, i = (k : Int) → (Instr.slice 33 x (some (.int .i64 i)) none none).run Try.prog W = .ok (.slice a (l.length - k) cap) W := by
  rcases hr with ⟨rfl, h1⟩ | ⟨x, cap, rfl, h2, h3, h4⟩
  · have hl0 : l = [] := by simpa using h1
    subst hl0
    have hk0 : k = 0 := by simpa using hk
    subst hk0
    refine ⟨none, 0, Rd.nil w, fun i W hi => ?_⟩
    subst hi
    simp [Instr.slice, Instr.sliceBounds, Instr.sliceBound, run_underlying Try.underlying33, go_sem]
  · rw [List.length_map] at h2
    by_cases hc : cap = k
    · refine ⟨some x, cap - k, ?_, fun i W hi => ?_⟩
      · have hd : l.drop k = [] := List.drop_eq_nil_of_le (by omega)
        rw [hd, show l.length - k = 0 by omega]
        exact .inr ⟨x, _, rfl, Nat.zero_le _, by omega, fun i u hu => by simp at hu⟩
      · subst hi
        subst hc
        simp [Instr.slice, Instr.sliceBounds, Instr.sliceBound, run_underlying Try.underlying33, go_sem, hk]
    · refine ⟨some (x.add k), cap - k, ?_, fun i W hi => ?_⟩
      · refine .inr ⟨x.add k, cap - k, by rw [List.length_map, List.length_drop], by rw [List.length_map, List.length_drop]; omega, by omega, fun i u hu => ?_⟩
        rw [add_more]
        exact h4 (k + i) u (by rw [List.map_drop, List.getElem?_drop] at hu; exact hu)
      · subst hi
        simp [Instr.slice, Instr.sliceBounds, Instr.sliceBound, run_underlying Try.underlying33, go_sem, hk, hc]

end Go.Proofs.Ytlbilmmjcfiokaa
