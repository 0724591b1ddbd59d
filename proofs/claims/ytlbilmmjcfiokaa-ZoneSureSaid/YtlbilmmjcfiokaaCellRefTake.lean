/-
  The contract of the document's own Take.
-/
import Derived.RegionTactic
import Derived.ChangeAlike
import Derived.Test.YtlbilmmjcfiokaaCellRefPut
import Derived.Test.YtlbilmmjcfiokaaRefRead
import Derived.Test.YtlbilmmjcfiokaaRefText
namespace Go.Proofs.Ytlbilmmjcfiokaa
open Go.RowKit Go.BigFrame

set_option maxRecDepth 100000 in
theorem refTake_nil (b : Value) (w : World) (hr : Rd w b []) :
    Calls Try.prog 38 #[b] w (RefTook w []) := by
  obtain ⟨a, cap, rfl, _, _⟩ := hr.shape
  go_enter Try.func38, Try.ntmps38
  go_wp2_with fail
  refine bodyPost_ret (v := .tuple #[.agg #[.int .u8 0, .int .i64 0, .string ⟨#[]⟩], .slice none 0 0, .int .i64 6]) (by simp [results, Try.results38, go_sem]) rfl ⟨.inr ⟨rfl, rfl⟩, ext_one _ _⟩

theorem rd_setBelow {B g i : Nat} {w : World} {v u : Value} {l : List UInt8} (hr : Rd w v l) (hB : ∀ k, v.ownBlock = some k → B ≤ k) (hg : g < B) : Rd (w.setCell ⟨g, i, none⟩ u) v l := by
  rcases hr with ⟨rfl, h1⟩ | ⟨x, cap, rfl, h2, _h3, h4⟩
  · exact .inl ⟨rfl, h1⟩
  · have hx : B ≤ x.block := hB _ rfl
    refine .inr ⟨x, cap, rfl, h2, _h3, fun k y hk => ?_⟩
    rw [World.cell?_of_block (w := w) (Below.heap_setCell _ _ _ _ (by rw [add_block]; show x.block ≠ g; omega))]
    exact h4 k y hk

set_option maxRecDepth 100000 in
set_option maxHeartbeats 1000000 in
theorem refTake_0a (bb off L cap : Nat) (t : List UInt8) (w : World) (hc0 : w.cell? ⟨bb, off, none⟩ = some (.int .u8 0)) (hrt : Rd w (.slice (some ⟨bb, off + 1, none⟩) (L - 1) (cap - 1)) t) (hLd : L = t.length + 1) (hlt : bb < w.heap.size) (h2 : L ≤ cap) (_h3 : cap ≤ maxLen) (hcap : cap ≠ 1) (hl : t.length < 1000000) :
    Calls Try.prog 38 #[.slice (some ⟨bb, off, none⟩) L cap] w (RefTook w (0 :: t)) := by
  obtain ⟨i0, hi, hz0, hz1, hz2⟩ := info_parts Try.info5
  have HTL := Lib.hid hLd
  have hlne : ((L : Int) == 0) = false := by rw [beq_eq_false_iff_ne]; omega
  have hnl : ¬ L < 1 := by omega
  have hcap1 : 1 ≤ cap := by omega
  unfold maxLen at _h3
  have hc1 : (w.alloc (.cells #[.int .u8 0, .int .i64 0, .string ⟨#[]⟩] 24)).cell? ⟨bb, off, none⟩ = some (.int .u8 0) := ((ext_one w _).cell hlt).trans hc0
  have EX1 := Lib.hid (show Ext w ((w.alloc (.cells #[.int .u8 0, .int .i64 0, .string ⟨#[]⟩] 24)).alloc (.cells #[.int .u8 0, .int .i64 0, .string ⟨#[]⟩] 24)) from ext_two w _ _)
  have hz : ((w.alloc (.cells #[.int .u8 0, .int .i64 0, .string ⟨#[]⟩] 24)).alloc (.cells #[.int .u8 0, .int .i64 0, .string ⟨#[]⟩] 24)).heap.size = w.heap.size + 1 + 1 := by simp
  have ho := empty_owned ((w.alloc (.cells #[.int .u8 0, .int .i64 0, .string ⟨#[]⟩] 24)).alloc (.cells #[.int .u8 0, .int .i64 0, .string ⟨#[]⟩] 24))
  rw [hz] at ho
  have HO1 := Lib.hid ho
  have HA1 := Lib.hid (show Below (w.heap.size + 1 + 1) ((w.alloc (.cells #[.int .u8 0, .int .i64 0, .string ⟨#[]⟩] 24)).alloc (.cells #[.int .u8 0, .int .i64 0, .string ⟨#[]⟩] 24)) (((w.alloc (.cells #[.int .u8 0, .int .i64 0, .string ⟨#[]⟩] 24)).alloc (.cells #[.int .u8 0, .int .i64 0, .string ⟨#[]⟩] 24)).alloc (.cells #[] 5)) from (Below.refl _ _).alloc (by simp) _)
  have HX1 := Lib.hid ((hrt.mono EX1.out).mono (show Ext _ _ from (Below.refl _ _).alloc (Nat.le_refl _) (.cells #[] 5)))
  have HBV := Lib.hid (bv_oneCell t)
  have HLM := Lib.hid (show (t.map bv).length = t.length from List.length_map _)
  have HZ0 := Lib.hid (cells_two0 w [.int .u8 0, .int .i64 0, .string ⟨#[]⟩] [.int .u8 0, .int .i64 0, .string ⟨#[]⟩] 24)
  have HZ5 := Lib.hid (cells_two1 w [.int .u8 0, .int .i64 0, .string ⟨#[]⟩] [.int .u8 0, .int .i64 0, .string ⟨#[]⟩] 24)
  have HL := Lib.hid hl
  have HW := Lib.hid (show ∀ W, W = ((w.alloc (.cells #[.int .u8 0, .int .i64 0, .string ⟨#[]⟩] 24)).alloc (.cells #[.int .u8 0, .int .i64 0, .string ⟨#[]⟩] 24)) → W.heap.size = w.heap.size + 1 + 1 from fun W h => by rw [h]; exact hz)
  clear hrt hz ho hLd hl hlt
  go_enter Try.func38, Try.ntmps38
  go_wp2_with (at_builtin; go_must (refine wpList_append_rd rfl (.tmp 15) (.tmp 17) 33 rfl (w.heap.size + 1 + 1) 5 i0 (.int .u8 0) 1 Try.underlying33 hi hz0 hz1 hz2 rfl _ _ _ rfl HO1.out _ _ rfl HX1.out HBV.out (by rw [HLM.out]; have := HL.out; unfold maxLen; omega) (by rw [HLM.out]; have := HL.out; omega) (by simp) ?_); intro v2 w2 hown2 hgrow2; have hrd : Rd w2 v2 t := (by have h := RdV.of_owns hown2; rwa [List.nil_append] at h); obtain ⟨a2, cap2, rfl, hx2, hy2⟩ := hrd.shape; have HRD := Lib.hid hrd; have HOB := Lib.hid (fun k hk => (hown2.lt k hk).1); have HB2 := Lib.hid (show Below (w.heap.size + 1 + 1) _ w2 from HA1.out.grown hgrow2 (by simp) (fun k hk => by cases hk; exact Nat.le_refl _)); have HP2 := Lib.hid (show Ext _ w2 from Below.mono HB2.out (by simp)); have c0 := kept_cell HZ5.out (Ext.trans HP2.out (ext_one w2 (.cells #[.slice a2 t.length cap2, .bool false] 59))) 0 _ rfl; have c1 := kept_cell HZ5.out (Ext.trans HP2.out (ext_one w2 (.cells #[.slice a2 t.length cap2, .bool false] 59))) 1 _ rfl; have c2 := kept_cell HZ5.out (Ext.trans HP2.out (ext_one w2 (.cells #[.slice a2 t.length cap2, .bool false] 59))) 2 _ rfl; clear hgrow2 hown2 hrd hx2 hy2)
  refine ((show ∀ w, Calls Try.prog 61 #[V.zero.val] w fun e w' => e = .returned (.bool true) ∧ Ext w w' from fun w => refRight_any V.zero ⟨by decide, by decide, by decide, by decide⟩ (by decide) w) _).mono ?_
  rintro e w3 ⟨rfl, hb3⟩
  have HE3 := Lib.hid (Ext.trans HP2.out (Ext.trans (ext_one w2 (.cells #[.slice a2 t.length cap2, .bool false] 59)) hb3))
  have c0 := kept_cell HZ5.out HE3.out 0 _ rfl
  have c1 := kept_cell HZ5.out HE3.out 1 _ rfl
  have c2 := kept_cell HZ5.out HE3.out 2 _ rfl
  have d0 := kept_cell HZ0.out HE3.out 0 _ rfl
  have d1 := kept_cell HZ0.out HE3.out 1 _ rfl
  have d2 := kept_cell HZ0.out HE3.out 2 _ rfl
  have HD0 := Lib.hid (kept_cell HZ0.out HE3.out)
  have hf : ∀ j, w3.frozen? ⟨w.heap.size, j, none⟩ = false := fun j => by
    rw [frozen_ext (Ext.trans (ext_one _ _) HE3.out) (by simp)]
    unfold World.frozen?
    rw [heap_alloc_new]
    simp
  have f0 := hf 0
  have f1 := hf 1
  have f2 := hf 2
  have e0 : w3.cell? ⟨w2.heap.size, 0, none⟩ = some (.slice a2 t.length cap2) := kept_cell (xs := [.slice a2 t.length cap2, .bool false]) (new_cell w2 [.slice a2 t.length cap2, .bool false] 59) hb3 0 _ rfl
  have HR3 := Lib.hid (HRD.out.mono (Ext.trans (ext_one w2 (.cells #[.slice a2 t.length cap2, .bool false] 59)) hb3))
  have hlt2 : w.heap.size + 1 < w2.heap.size := by have h1 := HP2.out.size; simp at h1; omega
  have hne2 : w.heap.size ≠ w2.heap.size := by omega
  have hne3 : w2.heap.size ≠ w.heap.size := by omega
  clear hb3 hf
  go_wp2_with fail
  go_region
  go_wp2_with fail
  have HRR := HR3
  have HEX := Lib.hid (Ext.trans EX1.out HE3.out)
  have hg := three_stored HD0.out (.int .u8 0) (.int .i64 0) (.string ⟨#[]⟩)
  have k0 := hg 0 _ rfl
  have k1 := hg 1 _ rfl
  have k2 := hg 2 _ rfl
  refine bodyPost_ret (v := .tuple #[.agg #[(.int .u8 0), (.int .i64 0), (.string ⟨#[]⟩)], .slice a2 t.length cap2, .int .i64 0]) (by simp [results, Try.results38, go_sem, k0, k1, k2]) rfl ⟨.inl ⟨V.zero, t, _, rfl, rfl, ?_⟩, ?_⟩
  · exact Rd.mono (rd_setBelow (B := w.heap.size + 1 + 1) (rd_setBelow (B := w.heap.size + 1 + 1) (rd_setBelow (B := w.heap.size + 1 + 1) HRR.out HOB.out (by omega)) HOB.out (by omega)) HOB.out (by omega)) (Ext.drew _)
  · exact Ext.trans (show Ext w _ from Below.setCell (Below.setCell (Below.setCell HEX.out (Nat.le_refl _) _) (Nat.le_refl _) _) (Nat.le_refl _) _) (Ext.drew _)

set_option maxRecDepth 100000 in
set_option maxHeartbeats 1000000 in
theorem refTake_oa (c : UInt8) (k : Int) (bb off L cap : Nat) (t : List UInt8) (w : World) (hc0 : w.cell? ⟨bb, off, none⟩ = some (.int .u8 k)) (hrt : Rd w (.slice (some ⟨bb, off + 1, none⟩) (L - 1) (cap - 1)) t) (hLd : L = t.length + 1) (hlt : bb < w.heap.size) (h2 : L ≤ cap) (_h3 : cap ≤ maxLen) (hcap : cap ≠ 1) (hl : t.length < 1000000)
    (q1 : (k == 1) = false) (q2 : (k == 2) = false) (q3 : (k == 3) = false) (hR : ∀ W, Calls Try.prog 61 #[(⟨k, 0, []⟩ : V).val] W fun e w' => e = .returned (.bool false) ∧ Ext W w') (hTV : takeV (c :: t) = none) :
    Calls Try.prog 38 #[.slice (some ⟨bb, off, none⟩) L cap] w (RefTook w (c :: t)) := by
  obtain ⟨i0, hi, hz0, hz1, hz2⟩ := info_parts Try.info5
  have HTV := Lib.hid hTV
  have HRIGHT := Lib.hid hR
  clear hTV hR
  have HTL := Lib.hid hLd
  have hlne : ((L : Int) == 0) = false := by rw [beq_eq_false_iff_ne]; omega
  have hnl : ¬ L < 1 := by omega
  have hcap1 : 1 ≤ cap := by omega
  unfold maxLen at _h3
  have hc1 : (w.alloc (.cells #[.int .u8 0, .int .i64 0, .string ⟨#[]⟩] 24)).cell? ⟨bb, off, none⟩ = some (.int .u8 k) := ((ext_one w _).cell hlt).trans hc0
  have EX1 := Lib.hid (show Ext w ((w.alloc (.cells #[.int .u8 0, .int .i64 0, .string ⟨#[]⟩] 24)).alloc (.cells #[.int .u8 k, .int .i64 0, .string ⟨#[]⟩] 24)) from ext_two w _ _)
  have hz : ((w.alloc (.cells #[.int .u8 0, .int .i64 0, .string ⟨#[]⟩] 24)).alloc (.cells #[.int .u8 k, .int .i64 0, .string ⟨#[]⟩] 24)).heap.size = w.heap.size + 1 + 1 := by simp
  have ho := empty_owned ((w.alloc (.cells #[.int .u8 0, .int .i64 0, .string ⟨#[]⟩] 24)).alloc (.cells #[.int .u8 k, .int .i64 0, .string ⟨#[]⟩] 24))
  rw [hz] at ho
  have HO1 := Lib.hid ho
  have HA1 := Lib.hid (show Below (w.heap.size + 1 + 1) ((w.alloc (.cells #[.int .u8 0, .int .i64 0, .string ⟨#[]⟩] 24)).alloc (.cells #[.int .u8 k, .int .i64 0, .string ⟨#[]⟩] 24)) (((w.alloc (.cells #[.int .u8 0, .int .i64 0, .string ⟨#[]⟩] 24)).alloc (.cells #[.int .u8 k, .int .i64 0, .string ⟨#[]⟩] 24)).alloc (.cells #[] 5)) from (Below.refl _ _).alloc (by simp) _)
  have HX1 := Lib.hid ((hrt.mono EX1.out).mono (show Ext _ _ from (Below.refl _ _).alloc (Nat.le_refl _) (.cells #[] 5)))
  have HBV := Lib.hid (bv_oneCell t)
  have HLM := Lib.hid (show (t.map bv).length = t.length from List.length_map _)
  have HZ0 := Lib.hid (cells_two0 w [.int .u8 0, .int .i64 0, .string ⟨#[]⟩] [.int .u8 k, .int .i64 0, .string ⟨#[]⟩] 24)
  have HZ5 := Lib.hid (cells_two1 w [.int .u8 0, .int .i64 0, .string ⟨#[]⟩] [.int .u8 k, .int .i64 0, .string ⟨#[]⟩] 24)
  have HL := Lib.hid hl
  have HW := Lib.hid (show ∀ W, W = ((w.alloc (.cells #[.int .u8 0, .int .i64 0, .string ⟨#[]⟩] 24)).alloc (.cells #[.int .u8 k, .int .i64 0, .string ⟨#[]⟩] 24)) → W.heap.size = w.heap.size + 1 + 1 from fun W h => by rw [h]; exact hz)
  clear hrt hz ho hLd hl hlt
  go_enter Try.func38, Try.ntmps38
  go_wp2_with (at_builtin; go_must (refine wpList_append_rd rfl (.tmp 15) (.tmp 17) 33 rfl (w.heap.size + 1 + 1) 5 i0 (.int .u8 0) 1 Try.underlying33 hi hz0 hz1 hz2 rfl _ _ _ rfl HO1.out _ _ rfl HX1.out HBV.out (by rw [HLM.out]; have := HL.out; unfold maxLen; omega) (by rw [HLM.out]; have := HL.out; omega) (by simp) ?_); intro v2 w2 hown2 hgrow2; have hrd : Rd w2 v2 t := (by have h := RdV.of_owns hown2; rwa [List.nil_append] at h); obtain ⟨a2, cap2, rfl, hx2, hy2⟩ := hrd.shape; have HRD := Lib.hid hrd; have HOB := Lib.hid (fun k hk => (hown2.lt k hk).1); have HB2 := Lib.hid (show Below (w.heap.size + 1 + 1) _ w2 from HA1.out.grown hgrow2 (by simp) (fun k hk => by cases hk; exact Nat.le_refl _)); have HP2 := Lib.hid (show Ext _ w2 from Below.mono HB2.out (by simp)); have c0 := kept_cell HZ5.out (Ext.trans HP2.out (ext_one w2 (.cells #[.slice a2 t.length cap2, .bool false] 59))) 0 _ rfl; have c1 := kept_cell HZ5.out (Ext.trans HP2.out (ext_one w2 (.cells #[.slice a2 t.length cap2, .bool false] 59))) 1 _ rfl; have c2 := kept_cell HZ5.out (Ext.trans HP2.out (ext_one w2 (.cells #[.slice a2 t.length cap2, .bool false] 59))) 2 _ rfl; clear hgrow2 hown2 hrd hx2 hy2)
  refine (HRIGHT.out _).mono ?_
  rintro e w3 ⟨rfl, hb3⟩
  have HE3 := Lib.hid (Ext.trans HP2.out (Ext.trans (ext_one w2 (.cells #[.slice a2 t.length cap2, .bool false] 59)) hb3))
  have c0 := kept_cell HZ5.out HE3.out 0 _ rfl
  have c1 := kept_cell HZ5.out HE3.out 1 _ rfl
  have c2 := kept_cell HZ5.out HE3.out 2 _ rfl
  have d0 := kept_cell HZ0.out HE3.out 0 _ rfl
  have d1 := kept_cell HZ0.out HE3.out 1 _ rfl
  have d2 := kept_cell HZ0.out HE3.out 2 _ rfl
  have HD0 := Lib.hid (kept_cell HZ0.out HE3.out)
  have hf : ∀ j, w3.frozen? ⟨w.heap.size, j, none⟩ = false := fun j => by
    rw [frozen_ext (Ext.trans (ext_one _ _) HE3.out) (by simp)]
    unfold World.frozen?
    rw [heap_alloc_new]
    simp
  have f0 := hf 0
  have f1 := hf 1
  have f2 := hf 2
  have e0 : w3.cell? ⟨w2.heap.size, 0, none⟩ = some (.slice a2 t.length cap2) := kept_cell (xs := [.slice a2 t.length cap2, .bool false]) (new_cell w2 [.slice a2 t.length cap2, .bool false] 59) hb3 0 _ rfl
  have HR3 := Lib.hid (HRD.out.mono (Ext.trans (ext_one w2 (.cells #[.slice a2 t.length cap2, .bool false] 59)) hb3))
  have hlt2 : w.heap.size + 1 < w2.heap.size := by have h1 := HP2.out.size; simp at h1; omega
  have hne2 : w.heap.size ≠ w2.heap.size := by omega
  have hne3 : w2.heap.size ≠ w.heap.size := by omega
  clear hb3 hf
  have HEX := Lib.hid (Ext.trans EX1.out HE3.out)
  go_wp2_with fail
  have hg := three_stored HD0.out (.int .u8 0) (.int .i64 0) (.string ⟨#[]⟩)
  have k0 := hg 0 _ rfl
  have k1 := hg 1 _ rfl
  have k2 := hg 2 _ rfl
  refine bodyPost_ret (v := .tuple #[.agg #[.int .u8 0, .int .i64 0, .string ⟨#[]⟩], .slice none 0 0, .int .i64 6]) (by simp [results, Try.results38, go_sem, k0, k1, k2]) rfl ⟨.inr ⟨HTV.out, rfl⟩, ?_⟩
  exact (show Ext w _ from Below.setCell (Below.setCell (Below.setCell HEX.out (Nat.le_refl _) _) (Nat.le_refl _) _) (Nat.le_refl _) _)

set_option maxRecDepth 100000 in
set_option maxHeartbeats 1000000 in
theorem refTake_1a_bad (bb off L cap : Nat) (t : List UInt8) (w : World) (hc0 : w.cell? ⟨bb, off, none⟩ = some (.int .u8 1)) (hrt : Rd w (.slice (some ⟨bb, off + 1, none⟩) (L - 1) (cap - 1)) t) (hLd : L = t.length + 1) (hlt : bb < w.heap.size) (h2 : L ≤ cap) (_h3 : cap ≤ maxLen) (hcap : cap ≠ 1) (hl : t.length < 1000000)
    (N : Int) (hcall : ∀ (B b : Nat) (W : World), RRef B W b t false → Calls Try.prog 39 #[.pointer (some ⟨b, 0, none⟩)] W fun e w' => e = .returned (.int .i64 N) ∧ RRef B w' b [] true ∧ Only b W w') (hTV : takeV (1 :: t) = none) :
    Calls Try.prog 38 #[.slice (some ⟨bb, off, none⟩) L cap] w (RefTook w (1 :: t)) := by
  obtain ⟨i0, hi, hz0, hz1, hz2⟩ := info_parts Try.info5
  have HCALL := Lib.hid hcall
  have HTV := Lib.hid hTV
  clear hcall hTV
  have HTL := Lib.hid hLd
  have hlne : ((L : Int) == 0) = false := by rw [beq_eq_false_iff_ne]; omega
  have hnl : ¬ L < 1 := by omega
  have hcap1 : 1 ≤ cap := by omega
  unfold maxLen at _h3
  have hc1 : (w.alloc (.cells #[.int .u8 0, .int .i64 0, .string ⟨#[]⟩] 24)).cell? ⟨bb, off, none⟩ = some (.int .u8 1) := ((ext_one w _).cell hlt).trans hc0
  have EX1 := Lib.hid (show Ext w ((w.alloc (.cells #[.int .u8 0, .int .i64 0, .string ⟨#[]⟩] 24)).alloc (.cells #[.int .u8 1, .int .i64 0, .string ⟨#[]⟩] 24)) from ext_two w _ _)
  have hz : ((w.alloc (.cells #[.int .u8 0, .int .i64 0, .string ⟨#[]⟩] 24)).alloc (.cells #[.int .u8 1, .int .i64 0, .string ⟨#[]⟩] 24)).heap.size = w.heap.size + 1 + 1 := by simp
  have ho := empty_owned ((w.alloc (.cells #[.int .u8 0, .int .i64 0, .string ⟨#[]⟩] 24)).alloc (.cells #[.int .u8 1, .int .i64 0, .string ⟨#[]⟩] 24))
  rw [hz] at ho
  have HO1 := Lib.hid ho
  have HA1 := Lib.hid (show Below (w.heap.size + 1 + 1) ((w.alloc (.cells #[.int .u8 0, .int .i64 0, .string ⟨#[]⟩] 24)).alloc (.cells #[.int .u8 1, .int .i64 0, .string ⟨#[]⟩] 24)) (((w.alloc (.cells #[.int .u8 0, .int .i64 0, .string ⟨#[]⟩] 24)).alloc (.cells #[.int .u8 1, .int .i64 0, .string ⟨#[]⟩] 24)).alloc (.cells #[] 5)) from (Below.refl _ _).alloc (by simp) _)
  have HX1 := Lib.hid ((hrt.mono EX1.out).mono (show Ext _ _ from (Below.refl _ _).alloc (Nat.le_refl _) (.cells #[] 5)))
  have HBV := Lib.hid (bv_oneCell t)
  have HLM := Lib.hid (show (t.map bv).length = t.length from List.length_map _)
  have HZ0 := Lib.hid (cells_two0 w [.int .u8 0, .int .i64 0, .string ⟨#[]⟩] [.int .u8 1, .int .i64 0, .string ⟨#[]⟩] 24)
  have HZ5 := Lib.hid (cells_two1 w [.int .u8 0, .int .i64 0, .string ⟨#[]⟩] [.int .u8 1, .int .i64 0, .string ⟨#[]⟩] 24)
  have HL := Lib.hid hl
  have HW := Lib.hid (show ∀ W, W = ((w.alloc (.cells #[.int .u8 0, .int .i64 0, .string ⟨#[]⟩] 24)).alloc (.cells #[.int .u8 1, .int .i64 0, .string ⟨#[]⟩] 24)) → W.heap.size = w.heap.size + 1 + 1 from fun W h => by rw [h]; exact hz)
  clear hrt hz ho hLd hl hlt
  go_enter Try.func38, Try.ntmps38
  go_wp2_with (at_builtin; go_must (refine wpList_append_rd rfl (.tmp 15) (.tmp 17) 33 rfl (w.heap.size + 1 + 1) 5 i0 (.int .u8 0) 1 Try.underlying33 hi hz0 hz1 hz2 rfl _ _ _ rfl HO1.out _ _ rfl HX1.out HBV.out (by rw [HLM.out]; have := HL.out; unfold maxLen; omega) (by rw [HLM.out]; have := HL.out; omega) (by simp) ?_); intro v2 w2 hown2 hgrow2; have hrd : Rd w2 v2 t := (by have h := RdV.of_owns hown2; rwa [List.nil_append] at h); obtain ⟨a2, cap2, rfl, hx2, hy2⟩ := hrd.shape; have HRD := Lib.hid hrd; have HOB := Lib.hid (fun k hk => (hown2.lt k hk).1); have HB2 := Lib.hid (show Below (w.heap.size + 1 + 1) _ w2 from HA1.out.grown hgrow2 (by simp) (fun k hk => by cases hk; exact Nat.le_refl _)); have HP2 := Lib.hid (show Ext _ w2 from Below.mono HB2.out (by simp)); have c0 := kept_cell HZ5.out (Ext.trans HP2.out (ext_one w2 (.cells #[.slice a2 t.length cap2, .bool false] 59))) 0 _ rfl; have c1 := kept_cell HZ5.out (Ext.trans HP2.out (ext_one w2 (.cells #[.slice a2 t.length cap2, .bool false] 59))) 1 _ rfl; have c2 := kept_cell HZ5.out (Ext.trans HP2.out (ext_one w2 (.cells #[.slice a2 t.length cap2, .bool false] 59))) 2 _ rfl; clear hgrow2 hown2 hrd hx2 hy2)
  have HRF := Lib.hid (show RRef (w.heap.size + 1 + 1) (w2.alloc (.cells #[.slice a2 t.length cap2, .bool false] 59)) w2.heap.size t false from ⟨_, heap_alloc_new _ _, HRD.out.mono (ext_one w2 _), HOB.out⟩)
  refine (HCALL.out _ _ _ HRF.out).mono ?_
  rintro e w3 ⟨rfl, hr3, ho3⟩
  have hlt2 : w.heap.size + 1 < w2.heap.size := by have h1 := HP2.out.size; simp at h1; omega
  have hne2 : w.heap.size ≠ w2.heap.size := by omega
  have hne3 : w2.heap.size ≠ w.heap.size := by omega
  have hne4 : w.heap.size + 1 ≠ w2.heap.size := by omega
  have hne5 : w2.heap.size ≠ w.heap.size + 1 := by omega
  have HE3 := Lib.hid (show Ext _ w3 from Below.mono ((HB2.out.alloc (by omega) (.cells #[.slice a2 t.length cap2, .bool false] 59)).grown ho3 (by simp; omega) (fun k hk => by cases hk; omega)) (by simp))
  clear ho3
  obtain ⟨v4, hb4, hrd4, hob4⟩ := hr3
  obtain ⟨a4, cap4, rfl, _, _⟩ := hrd4.shape
  have e0 := Rdr.cell0 hb4
  have e1 := Rdr.cell1 hb4
  clear hb4
  have c0 := kept_cell HZ5.out HE3.out 0 _ rfl
  have c1 := kept_cell HZ5.out HE3.out 1 _ rfl
  have c2 := kept_cell HZ5.out HE3.out 2 _ rfl
  have d0 := kept_cell HZ0.out HE3.out 0 _ rfl
  have d1 := kept_cell HZ0.out HE3.out 1 _ rfl
  have d2 := kept_cell HZ0.out HE3.out 2 _ rfl
  have hf : ∀ j, w3.frozen? ⟨w.heap.size, j, none⟩ = false := fun j => by
    rw [frozen_ext (Ext.trans (ext_one _ _) HE3.out) (by simp)]
    unfold World.frozen?
    rw [heap_alloc_new]
    simp
  have f0 := hf 0
  have f1 := hf 1
  have f2 := hf 2
  have g0 : w3.frozen? ⟨w.heap.size + 1, 1, none⟩ = false := by
    rw [frozen_ext HE3.out (by simp)]
    unfold World.frozen?
    rw [show w.heap.size + 1 = (w.alloc (.cells #[.int .u8 0, .int .i64 0, .string ⟨#[]⟩] 24)).heap.size by simp, heap_alloc_new]
    simp
  clear hf
  have HX5 := Lib.hid (show Ext w (w3.setCell ⟨w.heap.size + 1, 1, none⟩ (.int .i64 N)) from Below.setCell (Ext.trans EX1.out HE3.out) (by show w.heap.size ≤ w.heap.size + 1; omega) _)
  have HR5 := Lib.hid (show Rd (w3.setCell ⟨w.heap.size + 1, 1, none⟩ (.int .i64 N)) _ _ from rd_setBelow (B := w.heap.size + 1 + 1) hrd4 hob4 (by omega))
  have HO5 := Lib.hid hob4
  have HD5 := Lib.hid (show ∀ j u, ([.int .u8 0, .int .i64 0, .string ⟨#[]⟩] : List Value)[j]? = some u → (w3.setCell ⟨w.heap.size + 1, 1, none⟩ (.int .i64 N)).cell? ⟨w.heap.size, j, none⟩ = some u from fun j u hj => by
    rw [World.cell?_setCell_other]
    · exact kept_cell HZ0.out HE3.out j u hj
    · simp)
  clear hrd4 hob4
  go_wp2_with fail
  have hg := three_stored HD5.out (.int .u8 0) (.int .i64 0) (.string ⟨#[]⟩)
  have k0 := hg 0 _ rfl
  have k1 := hg 1 _ rfl
  have k2 := hg 2 _ rfl
  refine bodyPost_ret (v := .tuple #[.agg #[.int .u8 0, .int .i64 0, .string ⟨#[]⟩], .slice none 0 0, .int .i64 6]) (by simp [results, Try.results38, go_sem, k0, k1, k2]) rfl ⟨.inr ⟨HTV.out, rfl⟩, ?_⟩
  exact (show Ext w _ from Below.setCell (Below.setCell (Below.setCell HX5.out (Nat.le_refl _) _) (Nat.le_refl _) _) (Nat.le_refl _) _)

set_option maxRecDepth 100000 in
set_option maxHeartbeats 1000000 in
theorem refTake_1a_right (bb off L cap : Nat) (t : List UInt8) (w : World) (hc0 : w.cell? ⟨bb, off, none⟩ = some (.int .u8 1)) (hrt : Rd w (.slice (some ⟨bb, off + 1, none⟩) (L - 1) (cap - 1)) t) (hLd : L = t.length + 1) (hlt : bb < w.heap.size) (h2 : L ≤ cap) (_h3 : cap ≤ maxLen) (hcap : cap ≠ 1) (hl : t.length < 1000000)
    (N : Int) (m : List UInt8) (hcall : ∀ (B b : Nat) (W : World), RRef B W b t false → Calls Try.prog 39 #[.pointer (some ⟨b, 0, none⟩)] W fun e w' => e = .returned (.int .i64 N) ∧ RRef B w' b m false ∧ Only b W w') (hR : ∀ W, Calls Try.prog 61 #[(⟨1, N, []⟩ : V).val] W fun e w' => e = .returned (.bool true) ∧ Ext W w') (hTV : takeV (1 :: t) = some ((⟨1, N, []⟩ : V), m)) :
    Calls Try.prog 38 #[.slice (some ⟨bb, off, none⟩) L cap] w (RefTook w (1 :: t)) := by
  obtain ⟨i0, hi, hz0, hz1, hz2⟩ := info_parts Try.info5
  have HCALL := Lib.hid hcall
  have HTV := Lib.hid hTV
  have HRIGHT := Lib.hid hR
  clear hcall hTV hR
  have HTL := Lib.hid hLd
  have hlne : ((L : Int) == 0) = false := by rw [beq_eq_false_iff_ne]; omega
  have hnl : ¬ L < 1 := by omega
  have hcap1 : 1 ≤ cap := by omega
  unfold maxLen at _h3
  have hc1 : (w.alloc (.cells #[.int .u8 0, .int .i64 0, .string ⟨#[]⟩] 24)).cell? ⟨bb, off, none⟩ = some (.int .u8 1) := ((ext_one w _).cell hlt).trans hc0
  have EX1 := Lib.hid (show Ext w ((w.alloc (.cells #[.int .u8 0, .int .i64 0, .string ⟨#[]⟩] 24)).alloc (.cells #[.int .u8 1, .int .i64 0, .string ⟨#[]⟩] 24)) from ext_two w _ _)
  have hz : ((w.alloc (.cells #[.int .u8 0, .int .i64 0, .string ⟨#[]⟩] 24)).alloc (.cells #[.int .u8 1, .int .i64 0, .string ⟨#[]⟩] 24)).heap.size = w.heap.size + 1 + 1 := by simp
  have ho := empty_owned ((w.alloc (.cells #[.int .u8 0, .int .i64 0, .string ⟨#[]⟩] 24)).alloc (.cells #[.int .u8 1, .int .i64 0, .string ⟨#[]⟩] 24))
  rw [hz] at ho
  have HO1 := Lib.hid ho
  have HA1 := Lib.hid (show Below (w.heap.size + 1 + 1) ((w.alloc (.cells #[.int .u8 0, .int .i64 0, .string ⟨#[]⟩] 24)).alloc (.cells #[.int .u8 1, .int .i64 0, .string ⟨#[]⟩] 24)) (((w.alloc (.cells #[.int .u8 0, .int .i64 0, .string ⟨#[]⟩] 24)).alloc (.cells #[.int .u8 1, .int .i64 0, .string ⟨#[]⟩] 24)).alloc (.cells #[] 5)) from (Below.refl _ _).alloc (by simp) _)
  have HX1 := Lib.hid ((hrt.mono EX1.out).mono (show Ext _ _ from (Below.refl _ _).alloc (Nat.le_refl _) (.cells #[] 5)))
  have HBV := Lib.hid (bv_oneCell t)
  have HLM := Lib.hid (show (t.map bv).length = t.length from List.length_map _)
  have HZ0 := Lib.hid (cells_two0 w [.int .u8 0, .int .i64 0, .string ⟨#[]⟩] [.int .u8 1, .int .i64 0, .string ⟨#[]⟩] 24)
  have HZ5 := Lib.hid (cells_two1 w [.int .u8 0, .int .i64 0, .string ⟨#[]⟩] [.int .u8 1, .int .i64 0, .string ⟨#[]⟩] 24)
  have HL := Lib.hid hl
  have HW := Lib.hid (show ∀ W, W = ((w.alloc (.cells #[.int .u8 0, .int .i64 0, .string ⟨#[]⟩] 24)).alloc (.cells #[.int .u8 1, .int .i64 0, .string ⟨#[]⟩] 24)) → W.heap.size = w.heap.size + 1 + 1 from fun W h => by rw [h]; exact hz)
  clear hrt hz ho hLd hl hlt
  go_enter Try.func38, Try.ntmps38
  go_wp2_with (at_builtin; go_must (refine wpList_append_rd rfl (.tmp 15) (.tmp 17) 33 rfl (w.heap.size + 1 + 1) 5 i0 (.int .u8 0) 1 Try.underlying33 hi hz0 hz1 hz2 rfl _ _ _ rfl HO1.out _ _ rfl HX1.out HBV.out (by rw [HLM.out]; have := HL.out; unfold maxLen; omega) (by rw [HLM.out]; have := HL.out; omega) (by simp) ?_); intro v2 w2 hown2 hgrow2; have hrd : Rd w2 v2 t := (by have h := RdV.of_owns hown2; rwa [List.nil_append] at h); obtain ⟨a2, cap2, rfl, hx2, hy2⟩ := hrd.shape; have HRD := Lib.hid hrd; have HOB := Lib.hid (fun k hk => (hown2.lt k hk).1); have HB2 := Lib.hid (show Below (w.heap.size + 1 + 1) _ w2 from HA1.out.grown hgrow2 (by simp) (fun k hk => by cases hk; exact Nat.le_refl _)); have HP2 := Lib.hid (show Ext _ w2 from Below.mono HB2.out (by simp)); have c0 := kept_cell HZ5.out (Ext.trans HP2.out (ext_one w2 (.cells #[.slice a2 t.length cap2, .bool false] 59))) 0 _ rfl; have c1 := kept_cell HZ5.out (Ext.trans HP2.out (ext_one w2 (.cells #[.slice a2 t.length cap2, .bool false] 59))) 1 _ rfl; have c2 := kept_cell HZ5.out (Ext.trans HP2.out (ext_one w2 (.cells #[.slice a2 t.length cap2, .bool false] 59))) 2 _ rfl; clear hgrow2 hown2 hrd hx2 hy2)
  have HRF := Lib.hid (show RRef (w.heap.size + 1 + 1) (w2.alloc (.cells #[.slice a2 t.length cap2, .bool false] 59)) w2.heap.size t false from ⟨_, heap_alloc_new _ _, HRD.out.mono (ext_one w2 _), HOB.out⟩)
  refine (HCALL.out _ _ _ HRF.out).mono ?_
  rintro e w3 ⟨rfl, hr3, ho3⟩
  have hlt2 : w.heap.size + 1 < w2.heap.size := by have h1 := HP2.out.size; simp at h1; omega
  have hne2 : w.heap.size ≠ w2.heap.size := by omega
  have hne3 : w2.heap.size ≠ w.heap.size := by omega
  have hne4 : w.heap.size + 1 ≠ w2.heap.size := by omega
  have hne5 : w2.heap.size ≠ w.heap.size + 1 := by omega
  have HE3 := Lib.hid (show Ext _ w3 from Below.mono ((HB2.out.alloc (by omega) (.cells #[.slice a2 t.length cap2, .bool false] 59)).grown ho3 (by simp; omega) (fun k hk => by cases hk; omega)) (by simp))
  clear ho3
  obtain ⟨v4, hb4, hrd4, hob4⟩ := hr3
  obtain ⟨a4, cap4, rfl, _, _⟩ := hrd4.shape
  have e0 := Rdr.cell0 hb4
  have e1 := Rdr.cell1 hb4
  clear hb4
  have c0 := kept_cell HZ5.out HE3.out 0 _ rfl
  have c1 := kept_cell HZ5.out HE3.out 1 _ rfl
  have c2 := kept_cell HZ5.out HE3.out 2 _ rfl
  have d0 := kept_cell HZ0.out HE3.out 0 _ rfl
  have d1 := kept_cell HZ0.out HE3.out 1 _ rfl
  have d2 := kept_cell HZ0.out HE3.out 2 _ rfl
  have hf : ∀ j, w3.frozen? ⟨w.heap.size, j, none⟩ = false := fun j => by
    rw [frozen_ext (Ext.trans (ext_one _ _) HE3.out) (by simp)]
    unfold World.frozen?
    rw [heap_alloc_new]
    simp
  have f0 := hf 0
  have f1 := hf 1
  have f2 := hf 2
  have g0 : w3.frozen? ⟨w.heap.size + 1, 1, none⟩ = false := by
    rw [frozen_ext HE3.out (by simp)]
    unfold World.frozen?
    rw [show w.heap.size + 1 = (w.alloc (.cells #[.int .u8 0, .int .i64 0, .string ⟨#[]⟩] 24)).heap.size by simp, heap_alloc_new]
    simp
  clear hf
  have HX5 := Lib.hid (show Ext w (w3.setCell ⟨w.heap.size + 1, 1, none⟩ (.int .i64 N)) from Below.setCell (Ext.trans EX1.out HE3.out) (by show w.heap.size ≤ w.heap.size + 1; omega) _)
  have HR5 := Lib.hid (show Rd (w3.setCell ⟨w.heap.size + 1, 1, none⟩ (.int .i64 N)) _ _ from rd_setBelow (B := w.heap.size + 1 + 1) hrd4 hob4 (by omega))
  have HO5 := Lib.hid hob4
  have HX5s := Lib.hid (show Ext (w.alloc (.cells #[.int .u8 0, .int .i64 0, .string ⟨#[]⟩] 24)) (w3.setCell ⟨w.heap.size + 1, 1, none⟩ (.int .i64 N)) from Below.setCell (Ext.trans (ext_one _ _) HE3.out) (by simp) _)
  have HD5 := Lib.hid (show ∀ j u, ([.int .u8 0, .int .i64 0, .string ⟨#[]⟩] : List Value)[j]? = some u → (w3.setCell ⟨w.heap.size + 1, 1, none⟩ (.int .i64 N)).cell? ⟨w.heap.size, j, none⟩ = some u from fun j u hj => by
    rw [World.cell?_setCell_other]
    · exact kept_cell HZ0.out HE3.out j u hj
    · simp)
  clear hrd4 hob4
  have HC5 := Lib.hid (show ∀ j u, ([.int .u8 1, (.int .i64 N), .string ⟨#[]⟩] : List Value)[j]? = some u → (w3.setCell ⟨w.heap.size + 1, 1, none⟩ (.int .i64 N)).cell? ⟨w.heap.size + 1, j, none⟩ = some u from fun j u hj => by
    by_cases hji : j = 1
    · subst hji
      cases hj
      exact World.cell?_setCell_same _ _ _ (kept_cell HZ5.out HE3.out 1 _ rfl)
    · rw [World.cell?_setCell_other]
      · refine kept_cell HZ5.out HE3.out j u ?_
        match j, hj with
        | 0, hj => exact hj
        | 1, hj => first | exact hj | exact absurd rfl hji
        | 2, hj => first | exact hj | exact absurd rfl hji
      · intro hh
        simp at hh <;> omega)
  have HE5 := Lib.hid (show (w3.setCell ⟨w.heap.size + 1, 1, none⟩ (.int .i64 N)).cell? ⟨w2.heap.size, 0, none⟩ = some (.slice a4 m.length cap4) from by
    rw [World.cell?_setCell_other]
    · exact e0
    · intro hh
      simp at hh <;> omega)
  have HF5 := Lib.hid (show ∀ j, (w3.setCell ⟨w.heap.size + 1, 1, none⟩ (.int .i64 N)).frozen? ⟨w.heap.size, j, none⟩ = false from fun j => by
    rw [frozen_ext HX5s.out (by simp)]
    unfold World.frozen?
    rw [heap_alloc_new]
    simp)
  go_wp2_with fail
  refine (HRIGHT.out _).mono ?_
  rintro e w6 ⟨rfl, hb6⟩
  have c0 := kept_cell HC5.out hb6 0 _ rfl
  have c1 := kept_cell HC5.out hb6 1 _ rfl
  have c2 := kept_cell HC5.out hb6 2 _ rfl
  have HD0 := Lib.hid (kept_cell HD5.out hb6)
  have d0 := HD0.out 0 _ rfl
  have d1 := HD0.out 1 _ rfl
  have d2 := HD0.out 2 _ rfl
  have e0 := (hb6.cell (lt_of_cell HE5.out)).trans HE5.out
  have hf : ∀ j, w6.frozen? ⟨w.heap.size, j, none⟩ = false := fun j => by
    rw [frozen_ext hb6 (lt_of_cell (HD5.out 0 _ rfl))]
    exact HF5.out j
  have f0 := hf 0
  have f1 := hf 1
  have f2 := hf 2
  have HRR := Lib.hid (HR5.out.mono hb6)
  have HOB := HO5
  have HEX := Lib.hid (Ext.trans HX5.out hb6)
  clear hb6 hf
  go_wp2_with fail
  go_region
  go_wp2_with fail
  have hg := three_stored HD0.out (.int .u8 1) (.int .i64 N) (.string ⟨#[]⟩)
  have k0 := hg 0 _ rfl
  have k1 := hg 1 _ rfl
  have k2 := hg 2 _ rfl
  refine bodyPost_ret (v := .tuple #[.agg #[(.int .u8 1), (.int .i64 N), (.string ⟨#[]⟩)], .slice a4 m.length cap4, .int .i64 0]) (by simp [results, Try.results38, go_sem, k0, k1, k2]) rfl ⟨.inl ⟨(⟨1, N, []⟩ : V), m, _, HTV.out, rfl, ?_⟩, ?_⟩
  · exact Rd.mono (rd_setBelow (B := w.heap.size + 1 + 1) (rd_setBelow (B := w.heap.size + 1 + 1) (rd_setBelow (B := w.heap.size + 1 + 1) HRR.out HOB.out (by omega)) HOB.out (by omega)) HOB.out (by omega)) (Ext.drew _)
  · exact Ext.trans (show Ext w _ from Below.setCell (Below.setCell (Below.setCell HEX.out (Nat.le_refl _) _) (Nat.le_refl _) _) (Nat.le_refl _) _) (Ext.drew _)

set_option maxRecDepth 100000 in
set_option maxHeartbeats 1000000 in
theorem refTake_1a_wrong (bb off L cap : Nat) (t : List UInt8) (w : World) (hc0 : w.cell? ⟨bb, off, none⟩ = some (.int .u8 1)) (hrt : Rd w (.slice (some ⟨bb, off + 1, none⟩) (L - 1) (cap - 1)) t) (hLd : L = t.length + 1) (hlt : bb < w.heap.size) (h2 : L ≤ cap) (_h3 : cap ≤ maxLen) (hcap : cap ≠ 1) (hl : t.length < 1000000)
    (N : Int) (m : List UInt8) (hcall : ∀ (B b : Nat) (W : World), RRef B W b t false → Calls Try.prog 39 #[.pointer (some ⟨b, 0, none⟩)] W fun e w' => e = .returned (.int .i64 N) ∧ RRef B w' b m false ∧ Only b W w') (hR : ∀ W, Calls Try.prog 61 #[(⟨1, N, []⟩ : V).val] W fun e w' => e = .returned (.bool false) ∧ Ext W w') (hTV : takeV (1 :: t) = none) :
    Calls Try.prog 38 #[.slice (some ⟨bb, off, none⟩) L cap] w (RefTook w (1 :: t)) := by
  obtain ⟨i0, hi, hz0, hz1, hz2⟩ := info_parts Try.info5
  have HCALL := Lib.hid hcall
  have HTV := Lib.hid hTV
  have HRIGHT := Lib.hid hR
  clear hcall hTV hR
  have HTL := Lib.hid hLd
  have hlne : ((L : Int) == 0) = false := by rw [beq_eq_false_iff_ne]; omega
  have hnl : ¬ L < 1 := by omega
  have hcap1 : 1 ≤ cap := by omega
  unfold maxLen at _h3
  have hc1 : (w.alloc (.cells #[.int .u8 0, .int .i64 0, .string ⟨#[]⟩] 24)).cell? ⟨bb, off, none⟩ = some (.int .u8 1) := ((ext_one w _).cell hlt).trans hc0
  have EX1 := Lib.hid (show Ext w ((w.alloc (.cells #[.int .u8 0, .int .i64 0, .string ⟨#[]⟩] 24)).alloc (.cells #[.int .u8 1, .int .i64 0, .string ⟨#[]⟩] 24)) from ext_two w _ _)
  have hz : ((w.alloc (.cells #[.int .u8 0, .int .i64 0, .string ⟨#[]⟩] 24)).alloc (.cells #[.int .u8 1, .int .i64 0, .string ⟨#[]⟩] 24)).heap.size = w.heap.size + 1 + 1 := by simp
  have ho := empty_owned ((w.alloc (.cells #[.int .u8 0, .int .i64 0, .string ⟨#[]⟩] 24)).alloc (.cells #[.int .u8 1, .int .i64 0, .string ⟨#[]⟩] 24))
  rw [hz] at ho
  have HO1 := Lib.hid ho
  have HA1 := Lib.hid (show Below (w.heap.size + 1 + 1) ((w.alloc (.cells #[.int .u8 0, .int .i64 0, .string ⟨#[]⟩] 24)).alloc (.cells #[.int .u8 1, .int .i64 0, .string ⟨#[]⟩] 24)) (((w.alloc (.cells #[.int .u8 0, .int .i64 0, .string ⟨#[]⟩] 24)).alloc (.cells #[.int .u8 1, .int .i64 0, .string ⟨#[]⟩] 24)).alloc (.cells #[] 5)) from (Below.refl _ _).alloc (by simp) _)
  have HX1 := Lib.hid ((hrt.mono EX1.out).mono (show Ext _ _ from (Below.refl _ _).alloc (Nat.le_refl _) (.cells #[] 5)))
  have HBV := Lib.hid (bv_oneCell t)
  have HLM := Lib.hid (show (t.map bv).length = t.length from List.length_map _)
  have HZ0 := Lib.hid (cells_two0 w [.int .u8 0, .int .i64 0, .string ⟨#[]⟩] [.int .u8 1, .int .i64 0, .string ⟨#[]⟩] 24)
  have HZ5 := Lib.hid (cells_two1 w [.int .u8 0, .int .i64 0, .string ⟨#[]⟩] [.int .u8 1, .int .i64 0, .string ⟨#[]⟩] 24)
  have HL := Lib.hid hl
  have HW := Lib.hid (show ∀ W, W = ((w.alloc (.cells #[.int .u8 0, .int .i64 0, .string ⟨#[]⟩] 24)).alloc (.cells #[.int .u8 1, .int .i64 0, .string ⟨#[]⟩] 24)) → W.heap.size = w.heap.size + 1 + 1 from fun W h => by rw [h]; exact hz)
  clear hrt hz ho hLd hl hlt
  go_enter Try.func38, Try.ntmps38
  go_wp2_with (at_builtin; go_must (refine wpList_append_rd rfl (.tmp 15) (.tmp 17) 33 rfl (w.heap.size + 1 + 1) 5 i0 (.int .u8 0) 1 Try.underlying33 hi hz0 hz1 hz2 rfl _ _ _ rfl HO1.out _ _ rfl HX1.out HBV.out (by rw [HLM.out]; have := HL.out; unfold maxLen; omega) (by rw [HLM.out]; have := HL.out; omega) (by simp) ?_); intro v2 w2 hown2 hgrow2; have hrd : Rd w2 v2 t := (by have h := RdV.of_owns hown2; rwa [List.nil_append] at h); obtain ⟨a2, cap2, rfl, hx2, hy2⟩ := hrd.shape; have HRD := Lib.hid hrd; have HOB := Lib.hid (fun k hk => (hown2.lt k hk).1); have HB2 := Lib.hid (show Below (w.heap.size + 1 + 1) _ w2 from HA1.out.grown hgrow2 (by simp) (fun k hk => by cases hk; exact Nat.le_refl _)); have HP2 := Lib.hid (show Ext _ w2 from Below.mono HB2.out (by simp)); have c0 := kept_cell HZ5.out (Ext.trans HP2.out (ext_one w2 (.cells #[.slice a2 t.length cap2, .bool false] 59))) 0 _ rfl; have c1 := kept_cell HZ5.out (Ext.trans HP2.out (ext_one w2 (.cells #[.slice a2 t.length cap2, .bool false] 59))) 1 _ rfl; have c2 := kept_cell HZ5.out (Ext.trans HP2.out (ext_one w2 (.cells #[.slice a2 t.length cap2, .bool false] 59))) 2 _ rfl; clear hgrow2 hown2 hrd hx2 hy2)
  have HRF := Lib.hid (show RRef (w.heap.size + 1 + 1) (w2.alloc (.cells #[.slice a2 t.length cap2, .bool false] 59)) w2.heap.size t false from ⟨_, heap_alloc_new _ _, HRD.out.mono (ext_one w2 _), HOB.out⟩)
  refine (HCALL.out _ _ _ HRF.out).mono ?_
  rintro e w3 ⟨rfl, hr3, ho3⟩
  have hlt2 : w.heap.size + 1 < w2.heap.size := by have h1 := HP2.out.size; simp at h1; omega
  have hne2 : w.heap.size ≠ w2.heap.size := by omega
  have hne3 : w2.heap.size ≠ w.heap.size := by omega
  have hne4 : w.heap.size + 1 ≠ w2.heap.size := by omega
  have hne5 : w2.heap.size ≠ w.heap.size + 1 := by omega
  have HE3 := Lib.hid (show Ext _ w3 from Below.mono ((HB2.out.alloc (by omega) (.cells #[.slice a2 t.length cap2, .bool false] 59)).grown ho3 (by simp; omega) (fun k hk => by cases hk; omega)) (by simp))
  clear ho3
  obtain ⟨v4, hb4, hrd4, hob4⟩ := hr3
  obtain ⟨a4, cap4, rfl, _, _⟩ := hrd4.shape
  have e0 := Rdr.cell0 hb4
  have e1 := Rdr.cell1 hb4
  clear hb4
  have c0 := kept_cell HZ5.out HE3.out 0 _ rfl
  have c1 := kept_cell HZ5.out HE3.out 1 _ rfl
  have c2 := kept_cell HZ5.out HE3.out 2 _ rfl
  have d0 := kept_cell HZ0.out HE3.out 0 _ rfl
  have d1 := kept_cell HZ0.out HE3.out 1 _ rfl
  have d2 := kept_cell HZ0.out HE3.out 2 _ rfl
  have hf : ∀ j, w3.frozen? ⟨w.heap.size, j, none⟩ = false := fun j => by
    rw [frozen_ext (Ext.trans (ext_one _ _) HE3.out) (by simp)]
    unfold World.frozen?
    rw [heap_alloc_new]
    simp
  have f0 := hf 0
  have f1 := hf 1
  have f2 := hf 2
  have g0 : w3.frozen? ⟨w.heap.size + 1, 1, none⟩ = false := by
    rw [frozen_ext HE3.out (by simp)]
    unfold World.frozen?
    rw [show w.heap.size + 1 = (w.alloc (.cells #[.int .u8 0, .int .i64 0, .string ⟨#[]⟩] 24)).heap.size by simp, heap_alloc_new]
    simp
  clear hf
  have HX5 := Lib.hid (show Ext w (w3.setCell ⟨w.heap.size + 1, 1, none⟩ (.int .i64 N)) from Below.setCell (Ext.trans EX1.out HE3.out) (by show w.heap.size ≤ w.heap.size + 1; omega) _)
  have HR5 := Lib.hid (show Rd (w3.setCell ⟨w.heap.size + 1, 1, none⟩ (.int .i64 N)) _ _ from rd_setBelow (B := w.heap.size + 1 + 1) hrd4 hob4 (by omega))
  have HO5 := Lib.hid hob4
  have HX5s := Lib.hid (show Ext (w.alloc (.cells #[.int .u8 0, .int .i64 0, .string ⟨#[]⟩] 24)) (w3.setCell ⟨w.heap.size + 1, 1, none⟩ (.int .i64 N)) from Below.setCell (Ext.trans (ext_one _ _) HE3.out) (by simp) _)
  have HD5 := Lib.hid (show ∀ j u, ([.int .u8 0, .int .i64 0, .string ⟨#[]⟩] : List Value)[j]? = some u → (w3.setCell ⟨w.heap.size + 1, 1, none⟩ (.int .i64 N)).cell? ⟨w.heap.size, j, none⟩ = some u from fun j u hj => by
    rw [World.cell?_setCell_other]
    · exact kept_cell HZ0.out HE3.out j u hj
    · simp)
  clear hrd4 hob4
  have HC5 := Lib.hid (show ∀ j u, ([.int .u8 1, (.int .i64 N), .string ⟨#[]⟩] : List Value)[j]? = some u → (w3.setCell ⟨w.heap.size + 1, 1, none⟩ (.int .i64 N)).cell? ⟨w.heap.size + 1, j, none⟩ = some u from fun j u hj => by
    by_cases hji : j = 1
    · subst hji
      cases hj
      exact World.cell?_setCell_same _ _ _ (kept_cell HZ5.out HE3.out 1 _ rfl)
    · rw [World.cell?_setCell_other]
      · refine kept_cell HZ5.out HE3.out j u ?_
        match j, hj with
        | 0, hj => exact hj
        | 1, hj => first | exact hj | exact absurd rfl hji
        | 2, hj => first | exact hj | exact absurd rfl hji
      · intro hh
        simp at hh <;> omega)
  have HE5 := Lib.hid (show (w3.setCell ⟨w.heap.size + 1, 1, none⟩ (.int .i64 N)).cell? ⟨w2.heap.size, 0, none⟩ = some (.slice a4 m.length cap4) from by
    rw [World.cell?_setCell_other]
    · exact e0
    · intro hh
      simp at hh <;> omega)
  have HF5 := Lib.hid (show ∀ j, (w3.setCell ⟨w.heap.size + 1, 1, none⟩ (.int .i64 N)).frozen? ⟨w.heap.size, j, none⟩ = false from fun j => by
    rw [frozen_ext HX5s.out (by simp)]
    unfold World.frozen?
    rw [heap_alloc_new]
    simp)
  go_wp2_with fail
  refine (HRIGHT.out _).mono ?_
  rintro e w6 ⟨rfl, hb6⟩
  have c0 := kept_cell HC5.out hb6 0 _ rfl
  have c1 := kept_cell HC5.out hb6 1 _ rfl
  have c2 := kept_cell HC5.out hb6 2 _ rfl
  have HD0 := Lib.hid (kept_cell HD5.out hb6)
  have d0 := HD0.out 0 _ rfl
  have d1 := HD0.out 1 _ rfl
  have d2 := HD0.out 2 _ rfl
  have e0 := (hb6.cell (lt_of_cell HE5.out)).trans HE5.out
  have hf : ∀ j, w6.frozen? ⟨w.heap.size, j, none⟩ = false := fun j => by
    rw [frozen_ext hb6 (lt_of_cell (HD5.out 0 _ rfl))]
    exact HF5.out j
  have f0 := hf 0
  have f1 := hf 1
  have f2 := hf 2
  have HRR := Lib.hid (HR5.out.mono hb6)
  have HOB := HO5
  have HEX := Lib.hid (Ext.trans HX5.out hb6)
  clear hb6 hf
  go_wp2_with fail
  have hg := three_stored HD0.out (.int .u8 0) (.int .i64 0) (.string ⟨#[]⟩)
  have k0 := hg 0 _ rfl
  have k1 := hg 1 _ rfl
  have k2 := hg 2 _ rfl
  refine bodyPost_ret (v := .tuple #[.agg #[.int .u8 0, .int .i64 0, .string ⟨#[]⟩], .slice none 0 0, .int .i64 6]) (by simp [results, Try.results38, go_sem, k0, k1, k2]) rfl ⟨.inr ⟨HTV.out, rfl⟩, ?_⟩
  exact (show Ext w _ from Below.setCell (Below.setCell (Below.setCell HEX.out (Nat.le_refl _) _) (Nat.le_refl _) _) (Nat.le_refl _) _)

set_option maxRecDepth 100000 in
set_option maxHeartbeats 1000000 in
theorem refTake_2a_bad (bb off L cap : Nat) (t : List UInt8) (w : World) (hc0 : w.cell? ⟨bb, off, none⟩ = some (.int .u8 2)) (hrt : Rd w (.slice (some ⟨bb, off + 1, none⟩) (L - 1) (cap - 1)) t) (hLd : L = t.length + 1) (hlt : bb < w.heap.size) (h2 : L ≤ cap) (_h3 : cap ≤ maxLen) (hcap : cap ≠ 1) (hl : t.length < 1000000)
    (N : Int) (hcall : ∀ (B b : Nat) (W : World), RRef B W b t false → Calls Try.prog 39 #[.pointer (some ⟨b, 0, none⟩)] W fun e w' => e = .returned (.int .i64 N) ∧ RRef B w' b [] true ∧ Only b W w') (hTV : takeV (2 :: t) = none) :
    Calls Try.prog 38 #[.slice (some ⟨bb, off, none⟩) L cap] w (RefTook w (2 :: t)) := by
  obtain ⟨i0, hi, hz0, hz1, hz2⟩ := info_parts Try.info5
  have HCALL := Lib.hid hcall
  have HTV := Lib.hid hTV
  clear hcall hTV
  have HTL := Lib.hid hLd
  have hlne : ((L : Int) == 0) = false := by rw [beq_eq_false_iff_ne]; omega
  have hnl : ¬ L < 1 := by omega
  have hcap1 : 1 ≤ cap := by omega
  unfold maxLen at _h3
  have hc1 : (w.alloc (.cells #[.int .u8 0, .int .i64 0, .string ⟨#[]⟩] 24)).cell? ⟨bb, off, none⟩ = some (.int .u8 2) := ((ext_one w _).cell hlt).trans hc0
  have EX1 := Lib.hid (show Ext w ((w.alloc (.cells #[.int .u8 0, .int .i64 0, .string ⟨#[]⟩] 24)).alloc (.cells #[.int .u8 2, .int .i64 0, .string ⟨#[]⟩] 24)) from ext_two w _ _)
  have hz : ((w.alloc (.cells #[.int .u8 0, .int .i64 0, .string ⟨#[]⟩] 24)).alloc (.cells #[.int .u8 2, .int .i64 0, .string ⟨#[]⟩] 24)).heap.size = w.heap.size + 1 + 1 := by simp
  have ho := empty_owned ((w.alloc (.cells #[.int .u8 0, .int .i64 0, .string ⟨#[]⟩] 24)).alloc (.cells #[.int .u8 2, .int .i64 0, .string ⟨#[]⟩] 24))
  rw [hz] at ho
  have HO1 := Lib.hid ho
  have HA1 := Lib.hid (show Below (w.heap.size + 1 + 1) ((w.alloc (.cells #[.int .u8 0, .int .i64 0, .string ⟨#[]⟩] 24)).alloc (.cells #[.int .u8 2, .int .i64 0, .string ⟨#[]⟩] 24)) (((w.alloc (.cells #[.int .u8 0, .int .i64 0, .string ⟨#[]⟩] 24)).alloc (.cells #[.int .u8 2, .int .i64 0, .string ⟨#[]⟩] 24)).alloc (.cells #[] 5)) from (Below.refl _ _).alloc (by simp) _)
  have HX1 := Lib.hid ((hrt.mono EX1.out).mono (show Ext _ _ from (Below.refl _ _).alloc (Nat.le_refl _) (.cells #[] 5)))
  have HBV := Lib.hid (bv_oneCell t)
  have HLM := Lib.hid (show (t.map bv).length = t.length from List.length_map _)
  have HZ0 := Lib.hid (cells_two0 w [.int .u8 0, .int .i64 0, .string ⟨#[]⟩] [.int .u8 2, .int .i64 0, .string ⟨#[]⟩] 24)
  have HZ5 := Lib.hid (cells_two1 w [.int .u8 0, .int .i64 0, .string ⟨#[]⟩] [.int .u8 2, .int .i64 0, .string ⟨#[]⟩] 24)
  have HL := Lib.hid hl
  have HW := Lib.hid (show ∀ W, W = ((w.alloc (.cells #[.int .u8 0, .int .i64 0, .string ⟨#[]⟩] 24)).alloc (.cells #[.int .u8 2, .int .i64 0, .string ⟨#[]⟩] 24)) → W.heap.size = w.heap.size + 1 + 1 from fun W h => by rw [h]; exact hz)
  clear hrt hz ho hLd hl hlt
  go_enter Try.func38, Try.ntmps38
  go_wp2_with (at_builtin; go_must (refine wpList_append_rd rfl (.tmp 15) (.tmp 17) 33 rfl (w.heap.size + 1 + 1) 5 i0 (.int .u8 0) 1 Try.underlying33 hi hz0 hz1 hz2 rfl _ _ _ rfl HO1.out _ _ rfl HX1.out HBV.out (by rw [HLM.out]; have := HL.out; unfold maxLen; omega) (by rw [HLM.out]; have := HL.out; omega) (by simp) ?_); intro v2 w2 hown2 hgrow2; have hrd : Rd w2 v2 t := (by have h := RdV.of_owns hown2; rwa [List.nil_append] at h); obtain ⟨a2, cap2, rfl, hx2, hy2⟩ := hrd.shape; have HRD := Lib.hid hrd; have HOB := Lib.hid (fun k hk => (hown2.lt k hk).1); have HB2 := Lib.hid (show Below (w.heap.size + 1 + 1) _ w2 from HA1.out.grown hgrow2 (by simp) (fun k hk => by cases hk; exact Nat.le_refl _)); have HP2 := Lib.hid (show Ext _ w2 from Below.mono HB2.out (by simp)); have c0 := kept_cell HZ5.out (Ext.trans HP2.out (ext_one w2 (.cells #[.slice a2 t.length cap2, .bool false] 59))) 0 _ rfl; have c1 := kept_cell HZ5.out (Ext.trans HP2.out (ext_one w2 (.cells #[.slice a2 t.length cap2, .bool false] 59))) 1 _ rfl; have c2 := kept_cell HZ5.out (Ext.trans HP2.out (ext_one w2 (.cells #[.slice a2 t.length cap2, .bool false] 59))) 2 _ rfl; clear hgrow2 hown2 hrd hx2 hy2)
  have HRF := Lib.hid (show RRef (w.heap.size + 1 + 1) (w2.alloc (.cells #[.slice a2 t.length cap2, .bool false] 59)) w2.heap.size t false from ⟨_, heap_alloc_new _ _, HRD.out.mono (ext_one w2 _), HOB.out⟩)
  refine (HCALL.out _ _ _ HRF.out).mono ?_
  rintro e w3 ⟨rfl, hr3, ho3⟩
  have hlt2 : w.heap.size + 1 < w2.heap.size := by have h1 := HP2.out.size; simp at h1; omega
  have hne2 : w.heap.size ≠ w2.heap.size := by omega
  have hne3 : w2.heap.size ≠ w.heap.size := by omega
  have hne4 : w.heap.size + 1 ≠ w2.heap.size := by omega
  have hne5 : w2.heap.size ≠ w.heap.size + 1 := by omega
  have HE3 := Lib.hid (show Ext _ w3 from Below.mono ((HB2.out.alloc (by omega) (.cells #[.slice a2 t.length cap2, .bool false] 59)).grown ho3 (by simp; omega) (fun k hk => by cases hk; omega)) (by simp))
  clear ho3
  obtain ⟨v4, hb4, hrd4, hob4⟩ := hr3
  obtain ⟨a4, cap4, rfl, _, _⟩ := hrd4.shape
  have e0 := Rdr.cell0 hb4
  have e1 := Rdr.cell1 hb4
  clear hb4
  have c0 := kept_cell HZ5.out HE3.out 0 _ rfl
  have c1 := kept_cell HZ5.out HE3.out 1 _ rfl
  have c2 := kept_cell HZ5.out HE3.out 2 _ rfl
  have d0 := kept_cell HZ0.out HE3.out 0 _ rfl
  have d1 := kept_cell HZ0.out HE3.out 1 _ rfl
  have d2 := kept_cell HZ0.out HE3.out 2 _ rfl
  have hf : ∀ j, w3.frozen? ⟨w.heap.size, j, none⟩ = false := fun j => by
    rw [frozen_ext (Ext.trans (ext_one _ _) HE3.out) (by simp)]
    unfold World.frozen?
    rw [heap_alloc_new]
    simp
  have f0 := hf 0
  have f1 := hf 1
  have f2 := hf 2
  have g0 : w3.frozen? ⟨w.heap.size + 1, 1, none⟩ = false := by
    rw [frozen_ext HE3.out (by simp)]
    unfold World.frozen?
    rw [show w.heap.size + 1 = (w.alloc (.cells #[.int .u8 0, .int .i64 0, .string ⟨#[]⟩] 24)).heap.size by simp, heap_alloc_new]
    simp
  clear hf
  have HX5 := Lib.hid (show Ext w (w3.setCell ⟨w.heap.size + 1, 1, none⟩ (.int .i64 N)) from Below.setCell (Ext.trans EX1.out HE3.out) (by show w.heap.size ≤ w.heap.size + 1; omega) _)
  have HR5 := Lib.hid (show Rd (w3.setCell ⟨w.heap.size + 1, 1, none⟩ (.int .i64 N)) _ _ from rd_setBelow (B := w.heap.size + 1 + 1) hrd4 hob4 (by omega))
  have HO5 := Lib.hid hob4
  have HD5 := Lib.hid (show ∀ j u, ([.int .u8 0, .int .i64 0, .string ⟨#[]⟩] : List Value)[j]? = some u → (w3.setCell ⟨w.heap.size + 1, 1, none⟩ (.int .i64 N)).cell? ⟨w.heap.size, j, none⟩ = some u from fun j u hj => by
    rw [World.cell?_setCell_other]
    · exact kept_cell HZ0.out HE3.out j u hj
    · simp)
  clear hrd4 hob4
  go_wp2_with fail
  have hg := three_stored HD5.out (.int .u8 0) (.int .i64 0) (.string ⟨#[]⟩)
  have k0 := hg 0 _ rfl
  have k1 := hg 1 _ rfl
  have k2 := hg 2 _ rfl
  refine bodyPost_ret (v := .tuple #[.agg #[.int .u8 0, .int .i64 0, .string ⟨#[]⟩], .slice none 0 0, .int .i64 6]) (by simp [results, Try.results38, go_sem, k0, k1, k2]) rfl ⟨.inr ⟨HTV.out, rfl⟩, ?_⟩
  exact (show Ext w _ from Below.setCell (Below.setCell (Below.setCell HX5.out (Nat.le_refl _) _) (Nat.le_refl _) _) (Nat.le_refl _) _)

set_option maxRecDepth 100000 in
set_option maxHeartbeats 1000000 in
theorem refTake_2a_right (bb off L cap : Nat) (t : List UInt8) (w : World) (hc0 : w.cell? ⟨bb, off, none⟩ = some (.int .u8 2)) (hrt : Rd w (.slice (some ⟨bb, off + 1, none⟩) (L - 1) (cap - 1)) t) (hLd : L = t.length + 1) (hlt : bb < w.heap.size) (h2 : L ≤ cap) (_h3 : cap ≤ maxLen) (hcap : cap ≠ 1) (hl : t.length < 1000000)
    (N : Int) (m : List UInt8) (hcall : ∀ (B b : Nat) (W : World), RRef B W b t false → Calls Try.prog 39 #[.pointer (some ⟨b, 0, none⟩)] W fun e w' => e = .returned (.int .i64 N) ∧ RRef B w' b m false ∧ Only b W w') (hR : ∀ W, Calls Try.prog 61 #[(⟨2, N, []⟩ : V).val] W fun e w' => e = .returned (.bool true) ∧ Ext W w') (hTV : takeV (2 :: t) = some ((⟨2, N, []⟩ : V), m)) :
    Calls Try.prog 38 #[.slice (some ⟨bb, off, none⟩) L cap] w (RefTook w (2 :: t)) := by
  obtain ⟨i0, hi, hz0, hz1, hz2⟩ := info_parts Try.info5
  have HCALL := Lib.hid hcall
  have HTV := Lib.hid hTV
  have HRIGHT := Lib.hid hR
  clear hcall hTV hR
  have HTL := Lib.hid hLd
  have hlne : ((L : Int) == 0) = false := by rw [beq_eq_false_iff_ne]; omega
  have hnl : ¬ L < 1 := by omega
  have hcap1 : 1 ≤ cap := by omega
  unfold maxLen at _h3
  have hc1 : (w.alloc (.cells #[.int .u8 0, .int .i64 0, .string ⟨#[]⟩] 24)).cell? ⟨bb, off, none⟩ = some (.int .u8 2) := ((ext_one w _).cell hlt).trans hc0
  have EX1 := Lib.hid (show Ext w ((w.alloc (.cells #[.int .u8 0, .int .i64 0, .string ⟨#[]⟩] 24)).alloc (.cells #[.int .u8 2, .int .i64 0, .string ⟨#[]⟩] 24)) from ext_two w _ _)
  have hz : ((w.alloc (.cells #[.int .u8 0, .int .i64 0, .string ⟨#[]⟩] 24)).alloc (.cells #[.int .u8 2, .int .i64 0, .string ⟨#[]⟩] 24)).heap.size = w.heap.size + 1 + 1 := by simp
  have ho := empty_owned ((w.alloc (.cells #[.int .u8 0, .int .i64 0, .string ⟨#[]⟩] 24)).alloc (.cells #[.int .u8 2, .int .i64 0, .string ⟨#[]⟩] 24))
  rw [hz] at ho
  have HO1 := Lib.hid ho
  have HA1 := Lib.hid (show Below (w.heap.size + 1 + 1) ((w.alloc (.cells #[.int .u8 0, .int .i64 0, .string ⟨#[]⟩] 24)).alloc (.cells #[.int .u8 2, .int .i64 0, .string ⟨#[]⟩] 24)) (((w.alloc (.cells #[.int .u8 0, .int .i64 0, .string ⟨#[]⟩] 24)).alloc (.cells #[.int .u8 2, .int .i64 0, .string ⟨#[]⟩] 24)).alloc (.cells #[] 5)) from (Below.refl _ _).alloc (by simp) _)
  have HX1 := Lib.hid ((hrt.mono EX1.out).mono (show Ext _ _ from (Below.refl _ _).alloc (Nat.le_refl _) (.cells #[] 5)))
  have HBV := Lib.hid (bv_oneCell t)
  have HLM := Lib.hid (show (t.map bv).length = t.length from List.length_map _)
  have HZ0 := Lib.hid (cells_two0 w [.int .u8 0, .int .i64 0, .string ⟨#[]⟩] [.int .u8 2, .int .i64 0, .string ⟨#[]⟩] 24)
  have HZ5 := Lib.hid (cells_two1 w [.int .u8 0, .int .i64 0, .string ⟨#[]⟩] [.int .u8 2, .int .i64 0, .string ⟨#[]⟩] 24)
  have HL := Lib.hid hl
  have HW := Lib.hid (show ∀ W, W = ((w.alloc (.cells #[.int .u8 0, .int .i64 0, .string ⟨#[]⟩] 24)).alloc (.cells #[.int .u8 2, .int .i64 0, .string ⟨#[]⟩] 24)) → W.heap.size = w.heap.size + 1 + 1 from fun W h => by rw [h]; exact hz)
  clear hrt hz ho hLd hl hlt
  go_enter Try.func38, Try.ntmps38
  go_wp2_with (at_builtin; go_must (refine wpList_append_rd rfl (.tmp 15) (.tmp 17) 33 rfl (w.heap.size + 1 + 1) 5 i0 (.int .u8 0) 1 Try.underlying33 hi hz0 hz1 hz2 rfl _ _ _ rfl HO1.out _ _ rfl HX1.out HBV.out (by rw [HLM.out]; have := HL.out; unfold maxLen; omega) (by rw [HLM.out]; have := HL.out; omega) (by simp) ?_); intro v2 w2 hown2 hgrow2; have hrd : Rd w2 v2 t := (by have h := RdV.of_owns hown2; rwa [List.nil_append] at h); obtain ⟨a2, cap2, rfl, hx2, hy2⟩ := hrd.shape; have HRD := Lib.hid hrd; have HOB := Lib.hid (fun k hk => (hown2.lt k hk).1); have HB2 := Lib.hid (show Below (w.heap.size + 1 + 1) _ w2 from HA1.out.grown hgrow2 (by simp) (fun k hk => by cases hk; exact Nat.le_refl _)); have HP2 := Lib.hid (show Ext _ w2 from Below.mono HB2.out (by simp)); have c0 := kept_cell HZ5.out (Ext.trans HP2.out (ext_one w2 (.cells #[.slice a2 t.length cap2, .bool false] 59))) 0 _ rfl; have c1 := kept_cell HZ5.out (Ext.trans HP2.out (ext_one w2 (.cells #[.slice a2 t.length cap2, .bool false] 59))) 1 _ rfl; have c2 := kept_cell HZ5.out (Ext.trans HP2.out (ext_one w2 (.cells #[.slice a2 t.length cap2, .bool false] 59))) 2 _ rfl; clear hgrow2 hown2 hrd hx2 hy2)
  have HRF := Lib.hid (show RRef (w.heap.size + 1 + 1) (w2.alloc (.cells #[.slice a2 t.length cap2, .bool false] 59)) w2.heap.size t false from ⟨_, heap_alloc_new _ _, HRD.out.mono (ext_one w2 _), HOB.out⟩)
  refine (HCALL.out _ _ _ HRF.out).mono ?_
  rintro e w3 ⟨rfl, hr3, ho3⟩
  have hlt2 : w.heap.size + 1 < w2.heap.size := by have h1 := HP2.out.size; simp at h1; omega
  have hne2 : w.heap.size ≠ w2.heap.size := by omega
  have hne3 : w2.heap.size ≠ w.heap.size := by omega
  have hne4 : w.heap.size + 1 ≠ w2.heap.size := by omega
  have hne5 : w2.heap.size ≠ w.heap.size + 1 := by omega
  have HE3 := Lib.hid (show Ext _ w3 from Below.mono ((HB2.out.alloc (by omega) (.cells #[.slice a2 t.length cap2, .bool false] 59)).grown ho3 (by simp; omega) (fun k hk => by cases hk; omega)) (by simp))
  clear ho3
  obtain ⟨v4, hb4, hrd4, hob4⟩ := hr3
  obtain ⟨a4, cap4, rfl, _, _⟩ := hrd4.shape
  have e0 := Rdr.cell0 hb4
  have e1 := Rdr.cell1 hb4
  clear hb4
  have c0 := kept_cell HZ5.out HE3.out 0 _ rfl
  have c1 := kept_cell HZ5.out HE3.out 1 _ rfl
  have c2 := kept_cell HZ5.out HE3.out 2 _ rfl
  have d0 := kept_cell HZ0.out HE3.out 0 _ rfl
  have d1 := kept_cell HZ0.out HE3.out 1 _ rfl
  have d2 := kept_cell HZ0.out HE3.out 2 _ rfl
  have hf : ∀ j, w3.frozen? ⟨w.heap.size, j, none⟩ = false := fun j => by
    rw [frozen_ext (Ext.trans (ext_one _ _) HE3.out) (by simp)]
    unfold World.frozen?
    rw [heap_alloc_new]
    simp
  have f0 := hf 0
  have f1 := hf 1
  have f2 := hf 2
  have g0 : w3.frozen? ⟨w.heap.size + 1, 1, none⟩ = false := by
    rw [frozen_ext HE3.out (by simp)]
    unfold World.frozen?
    rw [show w.heap.size + 1 = (w.alloc (.cells #[.int .u8 0, .int .i64 0, .string ⟨#[]⟩] 24)).heap.size by simp, heap_alloc_new]
    simp
  clear hf
  have HX5 := Lib.hid (show Ext w (w3.setCell ⟨w.heap.size + 1, 1, none⟩ (.int .i64 N)) from Below.setCell (Ext.trans EX1.out HE3.out) (by show w.heap.size ≤ w.heap.size + 1; omega) _)
  have HR5 := Lib.hid (show Rd (w3.setCell ⟨w.heap.size + 1, 1, none⟩ (.int .i64 N)) _ _ from rd_setBelow (B := w.heap.size + 1 + 1) hrd4 hob4 (by omega))
  have HO5 := Lib.hid hob4
  have HX5s := Lib.hid (show Ext (w.alloc (.cells #[.int .u8 0, .int .i64 0, .string ⟨#[]⟩] 24)) (w3.setCell ⟨w.heap.size + 1, 1, none⟩ (.int .i64 N)) from Below.setCell (Ext.trans (ext_one _ _) HE3.out) (by simp) _)
  have HD5 := Lib.hid (show ∀ j u, ([.int .u8 0, .int .i64 0, .string ⟨#[]⟩] : List Value)[j]? = some u → (w3.setCell ⟨w.heap.size + 1, 1, none⟩ (.int .i64 N)).cell? ⟨w.heap.size, j, none⟩ = some u from fun j u hj => by
    rw [World.cell?_setCell_other]
    · exact kept_cell HZ0.out HE3.out j u hj
    · simp)
  clear hrd4 hob4
  have HC5 := Lib.hid (show ∀ j u, ([.int .u8 2, (.int .i64 N), .string ⟨#[]⟩] : List Value)[j]? = some u → (w3.setCell ⟨w.heap.size + 1, 1, none⟩ (.int .i64 N)).cell? ⟨w.heap.size + 1, j, none⟩ = some u from fun j u hj => by
    by_cases hji : j = 1
    · subst hji
      cases hj
      exact World.cell?_setCell_same _ _ _ (kept_cell HZ5.out HE3.out 1 _ rfl)
    · rw [World.cell?_setCell_other]
      · refine kept_cell HZ5.out HE3.out j u ?_
        match j, hj with
        | 0, hj => exact hj
        | 1, hj => first | exact hj | exact absurd rfl hji
        | 2, hj => first | exact hj | exact absurd rfl hji
      · intro hh
        simp at hh <;> omega)
  have HE5 := Lib.hid (show (w3.setCell ⟨w.heap.size + 1, 1, none⟩ (.int .i64 N)).cell? ⟨w2.heap.size, 0, none⟩ = some (.slice a4 m.length cap4) from by
    rw [World.cell?_setCell_other]
    · exact e0
    · intro hh
      simp at hh <;> omega)
  have HF5 := Lib.hid (show ∀ j, (w3.setCell ⟨w.heap.size + 1, 1, none⟩ (.int .i64 N)).frozen? ⟨w.heap.size, j, none⟩ = false from fun j => by
    rw [frozen_ext HX5s.out (by simp)]
    unfold World.frozen?
    rw [heap_alloc_new]
    simp)
  go_wp2_with fail
  refine (HRIGHT.out _).mono ?_
  rintro e w6 ⟨rfl, hb6⟩
  have c0 := kept_cell HC5.out hb6 0 _ rfl
  have c1 := kept_cell HC5.out hb6 1 _ rfl
  have c2 := kept_cell HC5.out hb6 2 _ rfl
  have HD0 := Lib.hid (kept_cell HD5.out hb6)
  have d0 := HD0.out 0 _ rfl
  have d1 := HD0.out 1 _ rfl
  have d2 := HD0.out 2 _ rfl
  have e0 := (hb6.cell (lt_of_cell HE5.out)).trans HE5.out
  have hf : ∀ j, w6.frozen? ⟨w.heap.size, j, none⟩ = false := fun j => by
    rw [frozen_ext hb6 (lt_of_cell (HD5.out 0 _ rfl))]
    exact HF5.out j
  have f0 := hf 0
  have f1 := hf 1
  have f2 := hf 2
  have HRR := Lib.hid (HR5.out.mono hb6)
  have HOB := HO5
  have HEX := Lib.hid (Ext.trans HX5.out hb6)
  clear hb6 hf
  go_wp2_with fail
  go_region
  go_wp2_with fail
  have hg := three_stored HD0.out (.int .u8 2) (.int .i64 N) (.string ⟨#[]⟩)
  have k0 := hg 0 _ rfl
  have k1 := hg 1 _ rfl
  have k2 := hg 2 _ rfl
  refine bodyPost_ret (v := .tuple #[.agg #[(.int .u8 2), (.int .i64 N), (.string ⟨#[]⟩)], .slice a4 m.length cap4, .int .i64 0]) (by simp [results, Try.results38, go_sem, k0, k1, k2]) rfl ⟨.inl ⟨(⟨2, N, []⟩ : V), m, _, HTV.out, rfl, ?_⟩, ?_⟩
  · exact Rd.mono (rd_setBelow (B := w.heap.size + 1 + 1) (rd_setBelow (B := w.heap.size + 1 + 1) (rd_setBelow (B := w.heap.size + 1 + 1) HRR.out HOB.out (by omega)) HOB.out (by omega)) HOB.out (by omega)) (Ext.drew _)
  · exact Ext.trans (show Ext w _ from Below.setCell (Below.setCell (Below.setCell HEX.out (Nat.le_refl _) _) (Nat.le_refl _) _) (Nat.le_refl _) _) (Ext.drew _)

set_option maxRecDepth 100000 in
set_option maxHeartbeats 1000000 in
theorem refTake_3a_bad (bb off L cap : Nat) (t : List UInt8) (w : World) (hc0 : w.cell? ⟨bb, off, none⟩ = some (.int .u8 3)) (hrt : Rd w (.slice (some ⟨bb, off + 1, none⟩) (L - 1) (cap - 1)) t) (hLd : L = t.length + 1) (hlt : bb < w.heap.size) (h2 : L ≤ cap) (_h3 : cap ≤ maxLen) (hcap : cap ≠ 1) (hl : t.length < 1000000)
    (S : List UInt8) (hcall : ∀ (B b : Nat) (W : World), RRef B W b t false → Calls Try.prog 60 #[.pointer (some ⟨b, 0, none⟩)] W fun e w' => e = .returned (.string ⟨S.toArray⟩) ∧ RRef B w' b [] true ∧ Only b W w') (hTV : takeV (3 :: t) = none) :
    Calls Try.prog 38 #[.slice (some ⟨bb, off, none⟩) L cap] w (RefTook w (3 :: t)) := by
  obtain ⟨i0, hi, hz0, hz1, hz2⟩ := info_parts Try.info5
  have HCALL := Lib.hid hcall
  have HTV := Lib.hid hTV
  clear hcall hTV
  have HTL := Lib.hid hLd
  have hlne : ((L : Int) == 0) = false := by rw [beq_eq_false_iff_ne]; omega
  have hnl : ¬ L < 1 := by omega
  have hcap1 : 1 ≤ cap := by omega
  unfold maxLen at _h3
  have hc1 : (w.alloc (.cells #[.int .u8 0, .int .i64 0, .string ⟨#[]⟩] 24)).cell? ⟨bb, off, none⟩ = some (.int .u8 3) := ((ext_one w _).cell hlt).trans hc0
  have EX1 := Lib.hid (show Ext w ((w.alloc (.cells #[.int .u8 0, .int .i64 0, .string ⟨#[]⟩] 24)).alloc (.cells #[.int .u8 3, .int .i64 0, .string ⟨#[]⟩] 24)) from ext_two w _ _)
  have hz : ((w.alloc (.cells #[.int .u8 0, .int .i64 0, .string ⟨#[]⟩] 24)).alloc (.cells #[.int .u8 3, .int .i64 0, .string ⟨#[]⟩] 24)).heap.size = w.heap.size + 1 + 1 := by simp
  have ho := empty_owned ((w.alloc (.cells #[.int .u8 0, .int .i64 0, .string ⟨#[]⟩] 24)).alloc (.cells #[.int .u8 3, .int .i64 0, .string ⟨#[]⟩] 24))
  rw [hz] at ho
  have HO1 := Lib.hid ho
  have HA1 := Lib.hid (show Below (w.heap.size + 1 + 1) ((w.alloc (.cells #[.int .u8 0, .int .i64 0, .string ⟨#[]⟩] 24)).alloc (.cells #[.int .u8 3, .int .i64 0, .string ⟨#[]⟩] 24)) (((w.alloc (.cells #[.int .u8 0, .int .i64 0, .string ⟨#[]⟩] 24)).alloc (.cells #[.int .u8 3, .int .i64 0, .string ⟨#[]⟩] 24)).alloc (.cells #[] 5)) from (Below.refl _ _).alloc (by simp) _)
  have HX1 := Lib.hid ((hrt.mono EX1.out).mono (show Ext _ _ from (Below.refl _ _).alloc (Nat.le_refl _) (.cells #[] 5)))
  have HBV := Lib.hid (bv_oneCell t)
  have HLM := Lib.hid (show (t.map bv).length = t.length from List.length_map _)
  have HZ0 := Lib.hid (cells_two0 w [.int .u8 0, .int .i64 0, .string ⟨#[]⟩] [.int .u8 3, .int .i64 0, .string ⟨#[]⟩] 24)
  have HZ5 := Lib.hid (cells_two1 w [.int .u8 0, .int .i64 0, .string ⟨#[]⟩] [.int .u8 3, .int .i64 0, .string ⟨#[]⟩] 24)
  have HL := Lib.hid hl
  have HW := Lib.hid (show ∀ W, W = ((w.alloc (.cells #[.int .u8 0, .int .i64 0, .string ⟨#[]⟩] 24)).alloc (.cells #[.int .u8 3, .int .i64 0, .string ⟨#[]⟩] 24)) → W.heap.size = w.heap.size + 1 + 1 from fun W h => by rw [h]; exact hz)
  clear hrt hz ho hLd hl hlt
  go_enter Try.func38, Try.ntmps38
  go_wp2_with (at_builtin; go_must (refine wpList_append_rd rfl (.tmp 15) (.tmp 17) 33 rfl (w.heap.size + 1 + 1) 5 i0 (.int .u8 0) 1 Try.underlying33 hi hz0 hz1 hz2 rfl _ _ _ rfl HO1.out _ _ rfl HX1.out HBV.out (by rw [HLM.out]; have := HL.out; unfold maxLen; omega) (by rw [HLM.out]; have := HL.out; omega) (by simp) ?_); intro v2 w2 hown2 hgrow2; have hrd : Rd w2 v2 t := (by have h := RdV.of_owns hown2; rwa [List.nil_append] at h); obtain ⟨a2, cap2, rfl, hx2, hy2⟩ := hrd.shape; have HRD := Lib.hid hrd; have HOB := Lib.hid (fun k hk => (hown2.lt k hk).1); have HB2 := Lib.hid (show Below (w.heap.size + 1 + 1) _ w2 from HA1.out.grown hgrow2 (by simp) (fun k hk => by cases hk; exact Nat.le_refl _)); have HP2 := Lib.hid (show Ext _ w2 from Below.mono HB2.out (by simp)); have c0 := kept_cell HZ5.out (Ext.trans HP2.out (ext_one w2 (.cells #[.slice a2 t.length cap2, .bool false] 59))) 0 _ rfl; have c1 := kept_cell HZ5.out (Ext.trans HP2.out (ext_one w2 (.cells #[.slice a2 t.length cap2, .bool false] 59))) 1 _ rfl; have c2 := kept_cell HZ5.out (Ext.trans HP2.out (ext_one w2 (.cells #[.slice a2 t.length cap2, .bool false] 59))) 2 _ rfl; clear hgrow2 hown2 hrd hx2 hy2)
  have HRF := Lib.hid (show RRef (w.heap.size + 1 + 1) (w2.alloc (.cells #[.slice a2 t.length cap2, .bool false] 59)) w2.heap.size t false from ⟨_, heap_alloc_new _ _, HRD.out.mono (ext_one w2 _), HOB.out⟩)
  refine (HCALL.out _ _ _ HRF.out).mono ?_
  rintro e w3 ⟨rfl, hr3, ho3⟩
  have hlt2 : w.heap.size + 1 < w2.heap.size := by have h1 := HP2.out.size; simp at h1; omega
  have hne2 : w.heap.size ≠ w2.heap.size := by omega
  have hne3 : w2.heap.size ≠ w.heap.size := by omega
  have hne4 : w.heap.size + 1 ≠ w2.heap.size := by omega
  have hne5 : w2.heap.size ≠ w.heap.size + 1 := by omega
  have HE3 := Lib.hid (show Ext _ w3 from Below.mono ((HB2.out.alloc (by omega) (.cells #[.slice a2 t.length cap2, .bool false] 59)).grown ho3 (by simp; omega) (fun k hk => by cases hk; omega)) (by simp))
  clear ho3
  obtain ⟨v4, hb4, hrd4, hob4⟩ := hr3
  obtain ⟨a4, cap4, rfl, _, _⟩ := hrd4.shape
  have e0 := Rdr.cell0 hb4
  have e1 := Rdr.cell1 hb4
  clear hb4
  have c0 := kept_cell HZ5.out HE3.out 0 _ rfl
  have c1 := kept_cell HZ5.out HE3.out 1 _ rfl
  have c2 := kept_cell HZ5.out HE3.out 2 _ rfl
  have d0 := kept_cell HZ0.out HE3.out 0 _ rfl
  have d1 := kept_cell HZ0.out HE3.out 1 _ rfl
  have d2 := kept_cell HZ0.out HE3.out 2 _ rfl
  have hf : ∀ j, w3.frozen? ⟨w.heap.size, j, none⟩ = false := fun j => by
    rw [frozen_ext (Ext.trans (ext_one _ _) HE3.out) (by simp)]
    unfold World.frozen?
    rw [heap_alloc_new]
    simp
  have f0 := hf 0
  have f1 := hf 1
  have f2 := hf 2
  have g0 : w3.frozen? ⟨w.heap.size + 1, 2, none⟩ = false := by
    rw [frozen_ext HE3.out (by simp)]
    unfold World.frozen?
    rw [show w.heap.size + 1 = (w.alloc (.cells #[.int .u8 0, .int .i64 0, .string ⟨#[]⟩] 24)).heap.size by simp, heap_alloc_new]
    simp
  clear hf
  have HX5 := Lib.hid (show Ext w (w3.setCell ⟨w.heap.size + 1, 2, none⟩ (.string ⟨S.toArray⟩)) from Below.setCell (Ext.trans EX1.out HE3.out) (by show w.heap.size ≤ w.heap.size + 1; omega) _)
  have HR5 := Lib.hid (show Rd (w3.setCell ⟨w.heap.size + 1, 2, none⟩ (.string ⟨S.toArray⟩)) _ _ from rd_setBelow (B := w.heap.size + 1 + 1) hrd4 hob4 (by omega))
  have HO5 := Lib.hid hob4
  have HD5 := Lib.hid (show ∀ j u, ([.int .u8 0, .int .i64 0, .string ⟨#[]⟩] : List Value)[j]? = some u → (w3.setCell ⟨w.heap.size + 1, 2, none⟩ (.string ⟨S.toArray⟩)).cell? ⟨w.heap.size, j, none⟩ = some u from fun j u hj => by
    rw [World.cell?_setCell_other]
    · exact kept_cell HZ0.out HE3.out j u hj
    · simp)
  clear hrd4 hob4
  go_wp2_with fail
  have hg := three_stored HD5.out (.int .u8 0) (.int .i64 0) (.string ⟨#[]⟩)
  have k0 := hg 0 _ rfl
  have k1 := hg 1 _ rfl
  have k2 := hg 2 _ rfl
  refine bodyPost_ret (v := .tuple #[.agg #[.int .u8 0, .int .i64 0, .string ⟨#[]⟩], .slice none 0 0, .int .i64 6]) (by simp [results, Try.results38, go_sem, k0, k1, k2]) rfl ⟨.inr ⟨HTV.out, rfl⟩, ?_⟩
  exact (show Ext w _ from Below.setCell (Below.setCell (Below.setCell HX5.out (Nat.le_refl _) _) (Nat.le_refl _) _) (Nat.le_refl _) _)

set_option maxRecDepth 100000 in
set_option maxHeartbeats 1000000 in
theorem refTake_3a_right (bb off L cap : Nat) (t : List UInt8) (w : World) (hc0 : w.cell? ⟨bb, off, none⟩ = some (.int .u8 3)) (hrt : Rd w (.slice (some ⟨bb, off + 1, none⟩) (L - 1) (cap - 1)) t) (hLd : L = t.length + 1) (hlt : bb < w.heap.size) (h2 : L ≤ cap) (_h3 : cap ≤ maxLen) (hcap : cap ≠ 1) (hl : t.length < 1000000)
    (S : List UInt8) (m : List UInt8) (hcall : ∀ (B b : Nat) (W : World), RRef B W b t false → Calls Try.prog 60 #[.pointer (some ⟨b, 0, none⟩)] W fun e w' => e = .returned (.string ⟨S.toArray⟩) ∧ RRef B w' b m false ∧ Only b W w') (hR : ∀ W, Calls Try.prog 61 #[(⟨3, 0, S⟩ : V).val] W fun e w' => e = .returned (.bool true) ∧ Ext W w') (hTV : takeV (3 :: t) = some ((⟨3, 0, S⟩ : V), m)) :
    Calls Try.prog 38 #[.slice (some ⟨bb, off, none⟩) L cap] w (RefTook w (3 :: t)) := by
  obtain ⟨i0, hi, hz0, hz1, hz2⟩ := info_parts Try.info5
  have HCALL := Lib.hid hcall
  have HTV := Lib.hid hTV
  have HRIGHT := Lib.hid hR
  clear hcall hTV hR
  have HTL := Lib.hid hLd
  have hlne : ((L : Int) == 0) = false := by rw [beq_eq_false_iff_ne]; omega
  have hnl : ¬ L < 1 := by omega
  have hcap1 : 1 ≤ cap := by omega
  unfold maxLen at _h3
  have hc1 : (w.alloc (.cells #[.int .u8 0, .int .i64 0, .string ⟨#[]⟩] 24)).cell? ⟨bb, off, none⟩ = some (.int .u8 3) := ((ext_one w _).cell hlt).trans hc0
  have EX1 := Lib.hid (show Ext w ((w.alloc (.cells #[.int .u8 0, .int .i64 0, .string ⟨#[]⟩] 24)).alloc (.cells #[.int .u8 3, .int .i64 0, .string ⟨#[]⟩] 24)) from ext_two w _ _)
  have hz : ((w.alloc (.cells #[.int .u8 0, .int .i64 0, .string ⟨#[]⟩] 24)).alloc (.cells #[.int .u8 3, .int .i64 0, .string ⟨#[]⟩] 24)).heap.size = w.heap.size + 1 + 1 := by simp
  have ho := empty_owned ((w.alloc (.cells #[.int .u8 0, .int .i64 0, .string ⟨#[]⟩] 24)).alloc (.cells #[.int .u8 3, .int .i64 0, .string ⟨#[]⟩] 24))
  rw [hz] at ho
  have HO1 := Lib.hid ho
  have HA1 := Lib.hid (show Below (w.heap.size + 1 + 1) ((w.alloc (.cells #[.int .u8 0, .int .i64 0, .string ⟨#[]⟩] 24)).alloc (.cells #[.int .u8 3, .int .i64 0, .string ⟨#[]⟩] 24)) (((w.alloc (.cells #[.int .u8 0, .int .i64 0, .string ⟨#[]⟩] 24)).alloc (.cells #[.int .u8 3, .int .i64 0, .string ⟨#[]⟩] 24)).alloc (.cells #[] 5)) from (Below.refl _ _).alloc (by simp) _)
  have HX1 := Lib.hid ((hrt.mono EX1.out).mono (show Ext _ _ from (Below.refl _ _).alloc (Nat.le_refl _) (.cells #[] 5)))
  have HBV := Lib.hid (bv_oneCell t)
  have HLM := Lib.hid (show (t.map bv).length = t.length from List.length_map _)
  have HZ0 := Lib.hid (cells_two0 w [.int .u8 0, .int .i64 0, .string ⟨#[]⟩] [.int .u8 3, .int .i64 0, .string ⟨#[]⟩] 24)
  have HZ5 := Lib.hid (cells_two1 w [.int .u8 0, .int .i64 0, .string ⟨#[]⟩] [.int .u8 3, .int .i64 0, .string ⟨#[]⟩] 24)
  have HL := Lib.hid hl
  have HW := Lib.hid (show ∀ W, W = ((w.alloc (.cells #[.int .u8 0, .int .i64 0, .string ⟨#[]⟩] 24)).alloc (.cells #[.int .u8 3, .int .i64 0, .string ⟨#[]⟩] 24)) → W.heap.size = w.heap.size + 1 + 1 from fun W h => by rw [h]; exact hz)
  clear hrt hz ho hLd hl hlt
  go_enter Try.func38, Try.ntmps38
  go_wp2_with (at_builtin; go_must (refine wpList_append_rd rfl (.tmp 15) (.tmp 17) 33 rfl (w.heap.size + 1 + 1) 5 i0 (.int .u8 0) 1 Try.underlying33 hi hz0 hz1 hz2 rfl _ _ _ rfl HO1.out _ _ rfl HX1.out HBV.out (by rw [HLM.out]; have := HL.out; unfold maxLen; omega) (by rw [HLM.out]; have := HL.out; omega) (by simp) ?_); intro v2 w2 hown2 hgrow2; have hrd : Rd w2 v2 t := (by have h := RdV.of_owns hown2; rwa [List.nil_append] at h); obtain ⟨a2, cap2, rfl, hx2, hy2⟩ := hrd.shape; have HRD := Lib.hid hrd; have HOB := Lib.hid (fun k hk => (hown2.lt k hk).1); have HB2 := Lib.hid (show Below (w.heap.size + 1 + 1) _ w2 from HA1.out.grown hgrow2 (by simp) (fun k hk => by cases hk; exact Nat.le_refl _)); have HP2 := Lib.hid (show Ext _ w2 from Below.mono HB2.out (by simp)); have c0 := kept_cell HZ5.out (Ext.trans HP2.out (ext_one w2 (.cells #[.slice a2 t.length cap2, .bool false] 59))) 0 _ rfl; have c1 := kept_cell HZ5.out (Ext.trans HP2.out (ext_one w2 (.cells #[.slice a2 t.length cap2, .bool false] 59))) 1 _ rfl; have c2 := kept_cell HZ5.out (Ext.trans HP2.out (ext_one w2 (.cells #[.slice a2 t.length cap2, .bool false] 59))) 2 _ rfl; clear hgrow2 hown2 hrd hx2 hy2)
  have HRF := Lib.hid (show RRef (w.heap.size + 1 + 1) (w2.alloc (.cells #[.slice a2 t.length cap2, .bool false] 59)) w2.heap.size t false from ⟨_, heap_alloc_new _ _, HRD.out.mono (ext_one w2 _), HOB.out⟩)
  refine (HCALL.out _ _ _ HRF.out).mono ?_
  rintro e w3 ⟨rfl, hr3, ho3⟩
  have hlt2 : w.heap.size + 1 < w2.heap.size := by have h1 := HP2.out.size; simp at h1; omega
  have hne2 : w.heap.size ≠ w2.heap.size := by omega
  have hne3 : w2.heap.size ≠ w.heap.size := by omega
  have hne4 : w.heap.size + 1 ≠ w2.heap.size := by omega
  have hne5 : w2.heap.size ≠ w.heap.size + 1 := by omega
  have HE3 := Lib.hid (show Ext _ w3 from Below.mono ((HB2.out.alloc (by omega) (.cells #[.slice a2 t.length cap2, .bool false] 59)).grown ho3 (by simp; omega) (fun k hk => by cases hk; omega)) (by simp))
  clear ho3
  obtain ⟨v4, hb4, hrd4, hob4⟩ := hr3
  obtain ⟨a4, cap4, rfl, _, _⟩ := hrd4.shape
  have e0 := Rdr.cell0 hb4
  have e1 := Rdr.cell1 hb4
  clear hb4
  have c0 := kept_cell HZ5.out HE3.out 0 _ rfl
  have c1 := kept_cell HZ5.out HE3.out 1 _ rfl
  have c2 := kept_cell HZ5.out HE3.out 2 _ rfl
  have d0 := kept_cell HZ0.out HE3.out 0 _ rfl
  have d1 := kept_cell HZ0.out HE3.out 1 _ rfl
  have d2 := kept_cell HZ0.out HE3.out 2 _ rfl
  have hf : ∀ j, w3.frozen? ⟨w.heap.size, j, none⟩ = false := fun j => by
    rw [frozen_ext (Ext.trans (ext_one _ _) HE3.out) (by simp)]
    unfold World.frozen?
    rw [heap_alloc_new]
    simp
  have f0 := hf 0
  have f1 := hf 1
  have f2 := hf 2
  have g0 : w3.frozen? ⟨w.heap.size + 1, 2, none⟩ = false := by
    rw [frozen_ext HE3.out (by simp)]
    unfold World.frozen?
    rw [show w.heap.size + 1 = (w.alloc (.cells #[.int .u8 0, .int .i64 0, .string ⟨#[]⟩] 24)).heap.size by simp, heap_alloc_new]
    simp
  clear hf
  have HX5 := Lib.hid (show Ext w (w3.setCell ⟨w.heap.size + 1, 2, none⟩ (.string ⟨S.toArray⟩)) from Below.setCell (Ext.trans EX1.out HE3.out) (by show w.heap.size ≤ w.heap.size + 1; omega) _)
  have HR5 := Lib.hid (show Rd (w3.setCell ⟨w.heap.size + 1, 2, none⟩ (.string ⟨S.toArray⟩)) _ _ from rd_setBelow (B := w.heap.size + 1 + 1) hrd4 hob4 (by omega))
  have HO5 := Lib.hid hob4
  have HX5s := Lib.hid (show Ext (w.alloc (.cells #[.int .u8 0, .int .i64 0, .string ⟨#[]⟩] 24)) (w3.setCell ⟨w.heap.size + 1, 2, none⟩ (.string ⟨S.toArray⟩)) from Below.setCell (Ext.trans (ext_one _ _) HE3.out) (by simp) _)
  have HD5 := Lib.hid (show ∀ j u, ([.int .u8 0, .int .i64 0, .string ⟨#[]⟩] : List Value)[j]? = some u → (w3.setCell ⟨w.heap.size + 1, 2, none⟩ (.string ⟨S.toArray⟩)).cell? ⟨w.heap.size, j, none⟩ = some u from fun j u hj => by
    rw [World.cell?_setCell_other]
    · exact kept_cell HZ0.out HE3.out j u hj
    · simp)
  clear hrd4 hob4
  have HC5 := Lib.hid (show ∀ j u, ([.int .u8 3, .int .i64 0, (.string ⟨S.toArray⟩)] : List Value)[j]? = some u → (w3.setCell ⟨w.heap.size + 1, 2, none⟩ (.string ⟨S.toArray⟩)).cell? ⟨w.heap.size + 1, j, none⟩ = some u from fun j u hj => by
    by_cases hji : j = 2
    · subst hji
      cases hj
      exact World.cell?_setCell_same _ _ _ (kept_cell HZ5.out HE3.out 2 _ rfl)
    · rw [World.cell?_setCell_other]
      · refine kept_cell HZ5.out HE3.out j u ?_
        match j, hj with
        | 0, hj => exact hj
        | 1, hj => first | exact hj | exact absurd rfl hji
        | 2, hj => first | exact hj | exact absurd rfl hji
      · intro hh
        simp at hh <;> omega)
  have HE5 := Lib.hid (show (w3.setCell ⟨w.heap.size + 1, 2, none⟩ (.string ⟨S.toArray⟩)).cell? ⟨w2.heap.size, 0, none⟩ = some (.slice a4 m.length cap4) from by
    rw [World.cell?_setCell_other]
    · exact e0
    · intro hh
      simp at hh <;> omega)
  have HF5 := Lib.hid (show ∀ j, (w3.setCell ⟨w.heap.size + 1, 2, none⟩ (.string ⟨S.toArray⟩)).frozen? ⟨w.heap.size, j, none⟩ = false from fun j => by
    rw [frozen_ext HX5s.out (by simp)]
    unfold World.frozen?
    rw [heap_alloc_new]
    simp)
  go_wp2_with fail
  refine (HRIGHT.out _).mono ?_
  rintro e w6 ⟨rfl, hb6⟩
  have c0 := kept_cell HC5.out hb6 0 _ rfl
  have c1 := kept_cell HC5.out hb6 1 _ rfl
  have c2 := kept_cell HC5.out hb6 2 _ rfl
  have HD0 := Lib.hid (kept_cell HD5.out hb6)
  have d0 := HD0.out 0 _ rfl
  have d1 := HD0.out 1 _ rfl
  have d2 := HD0.out 2 _ rfl
  have e0 := (hb6.cell (lt_of_cell HE5.out)).trans HE5.out
  have hf : ∀ j, w6.frozen? ⟨w.heap.size, j, none⟩ = false := fun j => by
    rw [frozen_ext hb6 (lt_of_cell (HD5.out 0 _ rfl))]
    exact HF5.out j
  have f0 := hf 0
  have f1 := hf 1
  have f2 := hf 2
  have HRR := Lib.hid (HR5.out.mono hb6)
  have HOB := HO5
  have HEX := Lib.hid (Ext.trans HX5.out hb6)
  clear hb6 hf
  go_wp2_with fail
  go_region
  go_wp2_with fail
  have hg := three_stored HD0.out (.int .u8 3) (.int .i64 0) (.string ⟨S.toArray⟩)
  have k0 := hg 0 _ rfl
  have k1 := hg 1 _ rfl
  have k2 := hg 2 _ rfl
  refine bodyPost_ret (v := .tuple #[.agg #[(.int .u8 3), (.int .i64 0), (.string ⟨S.toArray⟩)], .slice a4 m.length cap4, .int .i64 0]) (by simp [results, Try.results38, go_sem, k0, k1, k2]) rfl ⟨.inl ⟨(⟨3, 0, S⟩ : V), m, _, HTV.out, rfl, ?_⟩, ?_⟩
  · exact Rd.mono (rd_setBelow (B := w.heap.size + 1 + 1) (rd_setBelow (B := w.heap.size + 1 + 1) (rd_setBelow (B := w.heap.size + 1 + 1) HRR.out HOB.out (by omega)) HOB.out (by omega)) HOB.out (by omega)) (Ext.drew _)
  · exact Ext.trans (show Ext w _ from Below.setCell (Below.setCell (Below.setCell HEX.out (Nat.le_refl _) _) (Nat.le_refl _) _) (Nat.le_refl _) _) (Ext.drew _)

set_option maxRecDepth 100000 in
set_option maxHeartbeats 1000000 in
theorem refTake_0b (bb off L cap : Nat) (t : List UInt8) (w : World) (hc0 : w.cell? ⟨bb, off, none⟩ = some (.int .u8 0)) (hrt : Rd w (.slice (some ⟨bb, off, none⟩) 0 0) t) (hLd : L = t.length + 1) (hlt : bb < w.heap.size) (h2 : L ≤ cap) (_h3 : cap ≤ maxLen) (hcap : cap = 1) (hl : t.length < 1000000) :
    Calls Try.prog 38 #[.slice (some ⟨bb, off, none⟩) L cap] w (RefTook w (0 :: t)) := by
  obtain ⟨i0, hi, hz0, hz1, hz2⟩ := info_parts Try.info5
  have HTL := Lib.hid hLd
  have hlne : ((L : Int) == 0) = false := by rw [beq_eq_false_iff_ne]; omega
  have hnl : ¬ L < 1 := by omega
  have hcap1 : 1 ≤ cap := by omega
  unfold maxLen at _h3
  have hc1 : (w.alloc (.cells #[.int .u8 0, .int .i64 0, .string ⟨#[]⟩] 24)).cell? ⟨bb, off, none⟩ = some (.int .u8 0) := ((ext_one w _).cell hlt).trans hc0
  have EX1 := Lib.hid (show Ext w ((w.alloc (.cells #[.int .u8 0, .int .i64 0, .string ⟨#[]⟩] 24)).alloc (.cells #[.int .u8 0, .int .i64 0, .string ⟨#[]⟩] 24)) from ext_two w _ _)
  have hz : ((w.alloc (.cells #[.int .u8 0, .int .i64 0, .string ⟨#[]⟩] 24)).alloc (.cells #[.int .u8 0, .int .i64 0, .string ⟨#[]⟩] 24)).heap.size = w.heap.size + 1 + 1 := by simp
  have ho := empty_owned ((w.alloc (.cells #[.int .u8 0, .int .i64 0, .string ⟨#[]⟩] 24)).alloc (.cells #[.int .u8 0, .int .i64 0, .string ⟨#[]⟩] 24))
  rw [hz] at ho
  have HO1 := Lib.hid ho
  have HA1 := Lib.hid (show Below (w.heap.size + 1 + 1) ((w.alloc (.cells #[.int .u8 0, .int .i64 0, .string ⟨#[]⟩] 24)).alloc (.cells #[.int .u8 0, .int .i64 0, .string ⟨#[]⟩] 24)) (((w.alloc (.cells #[.int .u8 0, .int .i64 0, .string ⟨#[]⟩] 24)).alloc (.cells #[.int .u8 0, .int .i64 0, .string ⟨#[]⟩] 24)).alloc (.cells #[] 5)) from (Below.refl _ _).alloc (by simp) _)
  have HX1 := Lib.hid ((hrt.mono EX1.out).mono (show Ext _ _ from (Below.refl _ _).alloc (Nat.le_refl _) (.cells #[] 5)))
  have HBV := Lib.hid (bv_oneCell t)
  have HLM := Lib.hid (show (t.map bv).length = t.length from List.length_map _)
  have HZ0 := Lib.hid (cells_two0 w [.int .u8 0, .int .i64 0, .string ⟨#[]⟩] [.int .u8 0, .int .i64 0, .string ⟨#[]⟩] 24)
  have HZ5 := Lib.hid (cells_two1 w [.int .u8 0, .int .i64 0, .string ⟨#[]⟩] [.int .u8 0, .int .i64 0, .string ⟨#[]⟩] 24)
  have HL := Lib.hid hl
  have HW := Lib.hid (show ∀ W, W = ((w.alloc (.cells #[.int .u8 0, .int .i64 0, .string ⟨#[]⟩] 24)).alloc (.cells #[.int .u8 0, .int .i64 0, .string ⟨#[]⟩] 24)) → W.heap.size = w.heap.size + 1 + 1 from fun W h => by rw [h]; exact hz)
  clear hrt hz ho hLd hl hlt
  subst hcap
  have hL1 : L = 1 := by omega
  subst hL1
  go_enter Try.func38, Try.ntmps38
  go_wp2_with (at_builtin; go_must (refine wpList_append_rd rfl (.tmp 15) (.tmp 17) 33 rfl (w.heap.size + 1 + 1) 5 i0 (.int .u8 0) 1 Try.underlying33 hi hz0 hz1 hz2 rfl _ _ _ rfl HO1.out _ _ rfl HX1.out HBV.out (by rw [HLM.out]; have := HL.out; unfold maxLen; omega) (by rw [HLM.out]; have := HL.out; omega) (by simp) ?_); intro v2 w2 hown2 hgrow2; have hrd : Rd w2 v2 t := (by have h := RdV.of_owns hown2; rwa [List.nil_append] at h); obtain ⟨a2, cap2, rfl, hx2, hy2⟩ := hrd.shape; have HRD := Lib.hid hrd; have HOB := Lib.hid (fun k hk => (hown2.lt k hk).1); have HB2 := Lib.hid (show Below (w.heap.size + 1 + 1) _ w2 from HA1.out.grown hgrow2 (by simp) (fun k hk => by cases hk; exact Nat.le_refl _)); have HP2 := Lib.hid (show Ext _ w2 from Below.mono HB2.out (by simp)); have c0 := kept_cell HZ5.out (Ext.trans HP2.out (ext_one w2 (.cells #[.slice a2 t.length cap2, .bool false] 59))) 0 _ rfl; have c1 := kept_cell HZ5.out (Ext.trans HP2.out (ext_one w2 (.cells #[.slice a2 t.length cap2, .bool false] 59))) 1 _ rfl; have c2 := kept_cell HZ5.out (Ext.trans HP2.out (ext_one w2 (.cells #[.slice a2 t.length cap2, .bool false] 59))) 2 _ rfl; clear hgrow2 hown2 hrd hx2 hy2)
  refine ((show ∀ w, Calls Try.prog 61 #[V.zero.val] w fun e w' => e = .returned (.bool true) ∧ Ext w w' from fun w => refRight_any V.zero ⟨by decide, by decide, by decide, by decide⟩ (by decide) w) _).mono ?_
  rintro e w3 ⟨rfl, hb3⟩
  have HE3 := Lib.hid (Ext.trans HP2.out (Ext.trans (ext_one w2 (.cells #[.slice a2 t.length cap2, .bool false] 59)) hb3))
  have c0 := kept_cell HZ5.out HE3.out 0 _ rfl
  have c1 := kept_cell HZ5.out HE3.out 1 _ rfl
  have c2 := kept_cell HZ5.out HE3.out 2 _ rfl
  have d0 := kept_cell HZ0.out HE3.out 0 _ rfl
  have d1 := kept_cell HZ0.out HE3.out 1 _ rfl
  have d2 := kept_cell HZ0.out HE3.out 2 _ rfl
  have HD0 := Lib.hid (kept_cell HZ0.out HE3.out)
  have hf : ∀ j, w3.frozen? ⟨w.heap.size, j, none⟩ = false := fun j => by
    rw [frozen_ext (Ext.trans (ext_one _ _) HE3.out) (by simp)]
    unfold World.frozen?
    rw [heap_alloc_new]
    simp
  have f0 := hf 0
  have f1 := hf 1
  have f2 := hf 2
  have e0 : w3.cell? ⟨w2.heap.size, 0, none⟩ = some (.slice a2 t.length cap2) := kept_cell (xs := [.slice a2 t.length cap2, .bool false]) (new_cell w2 [.slice a2 t.length cap2, .bool false] 59) hb3 0 _ rfl
  have HR3 := Lib.hid (HRD.out.mono (Ext.trans (ext_one w2 (.cells #[.slice a2 t.length cap2, .bool false] 59)) hb3))
  have hlt2 : w.heap.size + 1 < w2.heap.size := by have h1 := HP2.out.size; simp at h1; omega
  have hne2 : w.heap.size ≠ w2.heap.size := by omega
  have hne3 : w2.heap.size ≠ w.heap.size := by omega
  clear hb3 hf
  go_wp2_with fail
  go_region
  go_wp2_with fail
  have HRR := HR3
  have HEX := Lib.hid (Ext.trans EX1.out HE3.out)
  have hg := three_stored HD0.out (.int .u8 0) (.int .i64 0) (.string ⟨#[]⟩)
  have k0 := hg 0 _ rfl
  have k1 := hg 1 _ rfl
  have k2 := hg 2 _ rfl
  refine bodyPost_ret (v := .tuple #[.agg #[(.int .u8 0), (.int .i64 0), (.string ⟨#[]⟩)], .slice a2 t.length cap2, .int .i64 0]) (by simp [results, Try.results38, go_sem, k0, k1, k2]) rfl ⟨.inl ⟨V.zero, t, _, rfl, rfl, ?_⟩, ?_⟩
  · exact Rd.mono (rd_setBelow (B := w.heap.size + 1 + 1) (rd_setBelow (B := w.heap.size + 1 + 1) (rd_setBelow (B := w.heap.size + 1 + 1) HRR.out HOB.out (by omega)) HOB.out (by omega)) HOB.out (by omega)) (Ext.drew _)
  · exact Ext.trans (show Ext w _ from Below.setCell (Below.setCell (Below.setCell HEX.out (Nat.le_refl _) _) (Nat.le_refl _) _) (Nat.le_refl _) _) (Ext.drew _)

set_option maxRecDepth 100000 in
set_option maxHeartbeats 1000000 in
theorem refTake_ob (c : UInt8) (k : Int) (bb off L cap : Nat) (t : List UInt8) (w : World) (hc0 : w.cell? ⟨bb, off, none⟩ = some (.int .u8 k)) (hrt : Rd w (.slice (some ⟨bb, off, none⟩) 0 0) t) (hLd : L = t.length + 1) (hlt : bb < w.heap.size) (h2 : L ≤ cap) (_h3 : cap ≤ maxLen) (hcap : cap = 1) (hl : t.length < 1000000)
    (q1 : (k == 1) = false) (q2 : (k == 2) = false) (q3 : (k == 3) = false) (hR : ∀ W, Calls Try.prog 61 #[(⟨k, 0, []⟩ : V).val] W fun e w' => e = .returned (.bool false) ∧ Ext W w') (hTV : takeV (c :: t) = none) :
    Calls Try.prog 38 #[.slice (some ⟨bb, off, none⟩) L cap] w (RefTook w (c :: t)) := by
  obtain ⟨i0, hi, hz0, hz1, hz2⟩ := info_parts Try.info5
  have HTV := Lib.hid hTV
  have HRIGHT := Lib.hid hR
  clear hTV hR
  have HTL := Lib.hid hLd
  have hlne : ((L : Int) == 0) = false := by rw [beq_eq_false_iff_ne]; omega
  have hnl : ¬ L < 1 := by omega
  have hcap1 : 1 ≤ cap := by omega
  unfold maxLen at _h3
  have hc1 : (w.alloc (.cells #[.int .u8 0, .int .i64 0, .string ⟨#[]⟩] 24)).cell? ⟨bb, off, none⟩ = some (.int .u8 k) := ((ext_one w _).cell hlt).trans hc0
  have EX1 := Lib.hid (show Ext w ((w.alloc (.cells #[.int .u8 0, .int .i64 0, .string ⟨#[]⟩] 24)).alloc (.cells #[.int .u8 k, .int .i64 0, .string ⟨#[]⟩] 24)) from ext_two w _ _)
  have hz : ((w.alloc (.cells #[.int .u8 0, .int .i64 0, .string ⟨#[]⟩] 24)).alloc (.cells #[.int .u8 k, .int .i64 0, .string ⟨#[]⟩] 24)).heap.size = w.heap.size + 1 + 1 := by simp
  have ho := empty_owned ((w.alloc (.cells #[.int .u8 0, .int .i64 0, .string ⟨#[]⟩] 24)).alloc (.cells #[.int .u8 k, .int .i64 0, .string ⟨#[]⟩] 24))
  rw [hz] at ho
  have HO1 := Lib.hid ho
  have HA1 := Lib.hid (show Below (w.heap.size + 1 + 1) ((w.alloc (.cells #[.int .u8 0, .int .i64 0, .string ⟨#[]⟩] 24)).alloc (.cells #[.int .u8 k, .int .i64 0, .string ⟨#[]⟩] 24)) (((w.alloc (.cells #[.int .u8 0, .int .i64 0, .string ⟨#[]⟩] 24)).alloc (.cells #[.int .u8 k, .int .i64 0, .string ⟨#[]⟩] 24)).alloc (.cells #[] 5)) from (Below.refl _ _).alloc (by simp) _)
  have HX1 := Lib.hid ((hrt.mono EX1.out).mono (show Ext _ _ from (Below.refl _ _).alloc (Nat.le_refl _) (.cells #[] 5)))
  have HBV := Lib.hid (bv_oneCell t)
  have HLM := Lib.hid (show (t.map bv).length = t.length from List.length_map _)
  have HZ0 := Lib.hid (cells_two0 w [.int .u8 0, .int .i64 0, .string ⟨#[]⟩] [.int .u8 k, .int .i64 0, .string ⟨#[]⟩] 24)
  have HZ5 := Lib.hid (cells_two1 w [.int .u8 0, .int .i64 0, .string ⟨#[]⟩] [.int .u8 k, .int .i64 0, .string ⟨#[]⟩] 24)
  have HL := Lib.hid hl
  have HW := Lib.hid (show ∀ W, W = ((w.alloc (.cells #[.int .u8 0, .int .i64 0, .string ⟨#[]⟩] 24)).alloc (.cells #[.int .u8 k, .int .i64 0, .string ⟨#[]⟩] 24)) → W.heap.size = w.heap.size + 1 + 1 from fun W h => by rw [h]; exact hz)
  clear hrt hz ho hLd hl hlt
  subst hcap
  have hL1 : L = 1 := by omega
  subst hL1
  go_enter Try.func38, Try.ntmps38
  go_wp2_with (at_builtin; go_must (refine wpList_append_rd rfl (.tmp 15) (.tmp 17) 33 rfl (w.heap.size + 1 + 1) 5 i0 (.int .u8 0) 1 Try.underlying33 hi hz0 hz1 hz2 rfl _ _ _ rfl HO1.out _ _ rfl HX1.out HBV.out (by rw [HLM.out]; have := HL.out; unfold maxLen; omega) (by rw [HLM.out]; have := HL.out; omega) (by simp) ?_); intro v2 w2 hown2 hgrow2; have hrd : Rd w2 v2 t := (by have h := RdV.of_owns hown2; rwa [List.nil_append] at h); obtain ⟨a2, cap2, rfl, hx2, hy2⟩ := hrd.shape; have HRD := Lib.hid hrd; have HOB := Lib.hid (fun k hk => (hown2.lt k hk).1); have HB2 := Lib.hid (show Below (w.heap.size + 1 + 1) _ w2 from HA1.out.grown hgrow2 (by simp) (fun k hk => by cases hk; exact Nat.le_refl _)); have HP2 := Lib.hid (show Ext _ w2 from Below.mono HB2.out (by simp)); have c0 := kept_cell HZ5.out (Ext.trans HP2.out (ext_one w2 (.cells #[.slice a2 t.length cap2, .bool false] 59))) 0 _ rfl; have c1 := kept_cell HZ5.out (Ext.trans HP2.out (ext_one w2 (.cells #[.slice a2 t.length cap2, .bool false] 59))) 1 _ rfl; have c2 := kept_cell HZ5.out (Ext.trans HP2.out (ext_one w2 (.cells #[.slice a2 t.length cap2, .bool false] 59))) 2 _ rfl; clear hgrow2 hown2 hrd hx2 hy2)
  refine (HRIGHT.out _).mono ?_
  rintro e w3 ⟨rfl, hb3⟩
  have HE3 := Lib.hid (Ext.trans HP2.out (Ext.trans (ext_one w2 (.cells #[.slice a2 t.length cap2, .bool false] 59)) hb3))
  have c0 := kept_cell HZ5.out HE3.out 0 _ rfl
  have c1 := kept_cell HZ5.out HE3.out 1 _ rfl
  have c2 := kept_cell HZ5.out HE3.out 2 _ rfl
  have d0 := kept_cell HZ0.out HE3.out 0 _ rfl
  have d1 := kept_cell HZ0.out HE3.out 1 _ rfl
  have d2 := kept_cell HZ0.out HE3.out 2 _ rfl
  have HD0 := Lib.hid (kept_cell HZ0.out HE3.out)
  have hf : ∀ j, w3.frozen? ⟨w.heap.size, j, none⟩ = false := fun j => by
    rw [frozen_ext (Ext.trans (ext_one _ _) HE3.out) (by simp)]
    unfold World.frozen?
    rw [heap_alloc_new]
    simp
  have f0 := hf 0
  have f1 := hf 1
  have f2 := hf 2
  have e0 : w3.cell? ⟨w2.heap.size, 0, none⟩ = some (.slice a2 t.length cap2) := kept_cell (xs := [.slice a2 t.length cap2, .bool false]) (new_cell w2 [.slice a2 t.length cap2, .bool false] 59) hb3 0 _ rfl
  have HR3 := Lib.hid (HRD.out.mono (Ext.trans (ext_one w2 (.cells #[.slice a2 t.length cap2, .bool false] 59)) hb3))
  have hlt2 : w.heap.size + 1 < w2.heap.size := by have h1 := HP2.out.size; simp at h1; omega
  have hne2 : w.heap.size ≠ w2.heap.size := by omega
  have hne3 : w2.heap.size ≠ w.heap.size := by omega
  clear hb3 hf
  have HEX := Lib.hid (Ext.trans EX1.out HE3.out)
  go_wp2_with fail
  have hg := three_stored HD0.out (.int .u8 0) (.int .i64 0) (.string ⟨#[]⟩)
  have k0 := hg 0 _ rfl
  have k1 := hg 1 _ rfl
  have k2 := hg 2 _ rfl
  refine bodyPost_ret (v := .tuple #[.agg #[.int .u8 0, .int .i64 0, .string ⟨#[]⟩], .slice none 0 0, .int .i64 6]) (by simp [results, Try.results38, go_sem, k0, k1, k2]) rfl ⟨.inr ⟨HTV.out, rfl⟩, ?_⟩
  exact (show Ext w _ from Below.setCell (Below.setCell (Below.setCell HEX.out (Nat.le_refl _) _) (Nat.le_refl _) _) (Nat.le_refl _) _)

set_option maxRecDepth 100000 in
set_option maxHeartbeats 1000000 in
theorem refTake_1b_bad (bb off L cap : Nat) (t : List UInt8) (w : World) (hc0 : w.cell? ⟨bb, off, none⟩ = some (.int .u8 1)) (hrt : Rd w (.slice (some ⟨bb, off, none⟩) 0 0) t) (hLd : L = t.length + 1) (hlt : bb < w.heap.size) (h2 : L ≤ cap) (_h3 : cap ≤ maxLen) (hcap : cap = 1) (hl : t.length < 1000000)
    (N : Int) (hcall : ∀ (B b : Nat) (W : World), RRef B W b t false → Calls Try.prog 39 #[.pointer (some ⟨b, 0, none⟩)] W fun e w' => e = .returned (.int .i64 N) ∧ RRef B w' b [] true ∧ Only b W w') (hTV : takeV (1 :: t) = none) :
    Calls Try.prog 38 #[.slice (some ⟨bb, off, none⟩) L cap] w (RefTook w (1 :: t)) := by
  obtain ⟨i0, hi, hz0, hz1, hz2⟩ := info_parts Try.info5
  have HCALL := Lib.hid hcall
  have HTV := Lib.hid hTV
  clear hcall hTV
  have HTL := Lib.hid hLd
  have hlne : ((L : Int) == 0) = false := by rw [beq_eq_false_iff_ne]; omega
  have hnl : ¬ L < 1 := by omega
  have hcap1 : 1 ≤ cap := by omega
  unfold maxLen at _h3
  have hc1 : (w.alloc (.cells #[.int .u8 0, .int .i64 0, .string ⟨#[]⟩] 24)).cell? ⟨bb, off, none⟩ = some (.int .u8 1) := ((ext_one w _).cell hlt).trans hc0
  have EX1 := Lib.hid (show Ext w ((w.alloc (.cells #[.int .u8 0, .int .i64 0, .string ⟨#[]⟩] 24)).alloc (.cells #[.int .u8 1, .int .i64 0, .string ⟨#[]⟩] 24)) from ext_two w _ _)
  have hz : ((w.alloc (.cells #[.int .u8 0, .int .i64 0, .string ⟨#[]⟩] 24)).alloc (.cells #[.int .u8 1, .int .i64 0, .string ⟨#[]⟩] 24)).heap.size = w.heap.size + 1 + 1 := by simp
  have ho := empty_owned ((w.alloc (.cells #[.int .u8 0, .int .i64 0, .string ⟨#[]⟩] 24)).alloc (.cells #[.int .u8 1, .int .i64 0, .string ⟨#[]⟩] 24))
  rw [hz] at ho
  have HO1 := Lib.hid ho
  have HA1 := Lib.hid (show Below (w.heap.size + 1 + 1) ((w.alloc (.cells #[.int .u8 0, .int .i64 0, .string ⟨#[]⟩] 24)).alloc (.cells #[.int .u8 1, .int .i64 0, .string ⟨#[]⟩] 24)) (((w.alloc (.cells #[.int .u8 0, .int .i64 0, .string ⟨#[]⟩] 24)).alloc (.cells #[.int .u8 1, .int .i64 0, .string ⟨#[]⟩] 24)).alloc (.cells #[] 5)) from (Below.refl _ _).alloc (by simp) _)
  have HX1 := Lib.hid ((hrt.mono EX1.out).mono (show Ext _ _ from (Below.refl _ _).alloc (Nat.le_refl _) (.cells #[] 5)))
  have HBV := Lib.hid (bv_oneCell t)
  have HLM := Lib.hid (show (t.map bv).length = t.length from List.length_map _)
  have HZ0 := Lib.hid (cells_two0 w [.int .u8 0, .int .i64 0, .string ⟨#[]⟩] [.int .u8 1, .int .i64 0, .string ⟨#[]⟩] 24)
  have HZ5 := Lib.hid (cells_two1 w [.int .u8 0, .int .i64 0, .string ⟨#[]⟩] [.int .u8 1, .int .i64 0, .string ⟨#[]⟩] 24)
  have HL := Lib.hid hl
  have HW := Lib.hid (show ∀ W, W = ((w.alloc (.cells #[.int .u8 0, .int .i64 0, .string ⟨#[]⟩] 24)).alloc (.cells #[.int .u8 1, .int .i64 0, .string ⟨#[]⟩] 24)) → W.heap.size = w.heap.size + 1 + 1 from fun W h => by rw [h]; exact hz)
  clear hrt hz ho hLd hl hlt
  subst hcap
  have hL1 : L = 1 := by omega
  subst hL1
  go_enter Try.func38, Try.ntmps38
  go_wp2_with (at_builtin; go_must (refine wpList_append_rd rfl (.tmp 15) (.tmp 17) 33 rfl (w.heap.size + 1 + 1) 5 i0 (.int .u8 0) 1 Try.underlying33 hi hz0 hz1 hz2 rfl _ _ _ rfl HO1.out _ _ rfl HX1.out HBV.out (by rw [HLM.out]; have := HL.out; unfold maxLen; omega) (by rw [HLM.out]; have := HL.out; omega) (by simp) ?_); intro v2 w2 hown2 hgrow2; have hrd : Rd w2 v2 t := (by have h := RdV.of_owns hown2; rwa [List.nil_append] at h); obtain ⟨a2, cap2, rfl, hx2, hy2⟩ := hrd.shape; have HRD := Lib.hid hrd; have HOB := Lib.hid (fun k hk => (hown2.lt k hk).1); have HB2 := Lib.hid (show Below (w.heap.size + 1 + 1) _ w2 from HA1.out.grown hgrow2 (by simp) (fun k hk => by cases hk; exact Nat.le_refl _)); have HP2 := Lib.hid (show Ext _ w2 from Below.mono HB2.out (by simp)); have c0 := kept_cell HZ5.out (Ext.trans HP2.out (ext_one w2 (.cells #[.slice a2 t.length cap2, .bool false] 59))) 0 _ rfl; have c1 := kept_cell HZ5.out (Ext.trans HP2.out (ext_one w2 (.cells #[.slice a2 t.length cap2, .bool false] 59))) 1 _ rfl; have c2 := kept_cell HZ5.out (Ext.trans HP2.out (ext_one w2 (.cells #[.slice a2 t.length cap2, .bool false] 59))) 2 _ rfl; clear hgrow2 hown2 hrd hx2 hy2)
  have HRF := Lib.hid (show RRef (w.heap.size + 1 + 1) (w2.alloc (.cells #[.slice a2 t.length cap2, .bool false] 59)) w2.heap.size t false from ⟨_, heap_alloc_new _ _, HRD.out.mono (ext_one w2 _), HOB.out⟩)
  refine (HCALL.out _ _ _ HRF.out).mono ?_
  rintro e w3 ⟨rfl, hr3, ho3⟩
  have hlt2 : w.heap.size + 1 < w2.heap.size := by have h1 := HP2.out.size; simp at h1; omega
  have hne2 : w.heap.size ≠ w2.heap.size := by omega
  have hne3 : w2.heap.size ≠ w.heap.size := by omega
  have hne4 : w.heap.size + 1 ≠ w2.heap.size := by omega
  have hne5 : w2.heap.size ≠ w.heap.size + 1 := by omega
  have HE3 := Lib.hid (show Ext _ w3 from Below.mono ((HB2.out.alloc (by omega) (.cells #[.slice a2 t.length cap2, .bool false] 59)).grown ho3 (by simp; omega) (fun k hk => by cases hk; omega)) (by simp))
  clear ho3
  obtain ⟨v4, hb4, hrd4, hob4⟩ := hr3
  obtain ⟨a4, cap4, rfl, _, _⟩ := hrd4.shape
  have e0 := Rdr.cell0 hb4
  have e1 := Rdr.cell1 hb4
  clear hb4
  have c0 := kept_cell HZ5.out HE3.out 0 _ rfl
  have c1 := kept_cell HZ5.out HE3.out 1 _ rfl
  have c2 := kept_cell HZ5.out HE3.out 2 _ rfl
  have d0 := kept_cell HZ0.out HE3.out 0 _ rfl
  have d1 := kept_cell HZ0.out HE3.out 1 _ rfl
  have d2 := kept_cell HZ0.out HE3.out 2 _ rfl
  have hf : ∀ j, w3.frozen? ⟨w.heap.size, j, none⟩ = false := fun j => by
    rw [frozen_ext (Ext.trans (ext_one _ _) HE3.out) (by simp)]
    unfold World.frozen?
    rw [heap_alloc_new]
    simp
  have f0 := hf 0
  have f1 := hf 1
  have f2 := hf 2
  have g0 : w3.frozen? ⟨w.heap.size + 1, 1, none⟩ = false := by
    rw [frozen_ext HE3.out (by simp)]
    unfold World.frozen?
    rw [show w.heap.size + 1 = (w.alloc (.cells #[.int .u8 0, .int .i64 0, .string ⟨#[]⟩] 24)).heap.size by simp, heap_alloc_new]
    simp
  clear hf
  have HX5 := Lib.hid (show Ext w (w3.setCell ⟨w.heap.size + 1, 1, none⟩ (.int .i64 N)) from Below.setCell (Ext.trans EX1.out HE3.out) (by show w.heap.size ≤ w.heap.size + 1; omega) _)
  have HR5 := Lib.hid (show Rd (w3.setCell ⟨w.heap.size + 1, 1, none⟩ (.int .i64 N)) _ _ from rd_setBelow (B := w.heap.size + 1 + 1) hrd4 hob4 (by omega))
  have HO5 := Lib.hid hob4
  have HD5 := Lib.hid (show ∀ j u, ([.int .u8 0, .int .i64 0, .string ⟨#[]⟩] : List Value)[j]? = some u → (w3.setCell ⟨w.heap.size + 1, 1, none⟩ (.int .i64 N)).cell? ⟨w.heap.size, j, none⟩ = some u from fun j u hj => by
    rw [World.cell?_setCell_other]
    · exact kept_cell HZ0.out HE3.out j u hj
    · simp)
  clear hrd4 hob4
  go_wp2_with fail
  have hg := three_stored HD5.out (.int .u8 0) (.int .i64 0) (.string ⟨#[]⟩)
  have k0 := hg 0 _ rfl
  have k1 := hg 1 _ rfl
  have k2 := hg 2 _ rfl
  refine bodyPost_ret (v := .tuple #[.agg #[.int .u8 0, .int .i64 0, .string ⟨#[]⟩], .slice none 0 0, .int .i64 6]) (by simp [results, Try.results38, go_sem, k0, k1, k2]) rfl ⟨.inr ⟨HTV.out, rfl⟩, ?_⟩
  exact (show Ext w _ from Below.setCell (Below.setCell (Below.setCell HX5.out (Nat.le_refl _) _) (Nat.le_refl _) _) (Nat.le_refl _) _)

set_option maxRecDepth 100000 in
set_option maxHeartbeats 1000000 in
theorem refTake_1b_right (bb off L cap : Nat) (t : List UInt8) (w : World) (hc0 : w.cell? ⟨bb, off, none⟩ = some (.int .u8 1)) (hrt : Rd w (.slice (some ⟨bb, off, none⟩) 0 0) t) (hLd : L = t.length + 1) (hlt : bb < w.heap.size) (h2 : L ≤ cap) (_h3 : cap ≤ maxLen) (hcap : cap = 1) (hl : t.length < 1000000)
    (N : Int) (m : List UInt8) (hcall : ∀ (B b : Nat) (W : World), RRef B W b t false → Calls Try.prog 39 #[.pointer (some ⟨b, 0, none⟩)] W fun e w' => e = .returned (.int .i64 N) ∧ RRef B w' b m false ∧ Only b W w') (hR : ∀ W, Calls Try.prog 61 #[(⟨1, N, []⟩ : V).val] W fun e w' => e = .returned (.bool true) ∧ Ext W w') (hTV : takeV (1 :: t) = some ((⟨1, N, []⟩ : V), m)) :
    Calls Try.prog 38 #[.slice (some ⟨bb, off, none⟩) L cap] w (RefTook w (1 :: t)) := by
  obtain ⟨i0, hi, hz0, hz1, hz2⟩ := info_parts Try.info5
  have HCALL := Lib.hid hcall
  have HTV := Lib.hid hTV
  have HRIGHT := Lib.hid hR
  clear hcall hTV hR
  have HTL := Lib.hid hLd
  have hlne : ((L : Int) == 0) = false := by rw [beq_eq_false_iff_ne]; omega
  have hnl : ¬ L < 1 := by omega
  have hcap1 : 1 ≤ cap := by omega
  unfold maxLen at _h3
  have hc1 : (w.alloc (.cells #[.int .u8 0, .int .i64 0, .string ⟨#[]⟩] 24)).cell? ⟨bb, off, none⟩ = some (.int .u8 1) := ((ext_one w _).cell hlt).trans hc0
  have EX1 := Lib.hid (show Ext w ((w.alloc (.cells #[.int .u8 0, .int .i64 0, .string ⟨#[]⟩] 24)).alloc (.cells #[.int .u8 1, .int .i64 0, .string ⟨#[]⟩] 24)) from ext_two w _ _)
  have hz : ((w.alloc (.cells #[.int .u8 0, .int .i64 0, .string ⟨#[]⟩] 24)).alloc (.cells #[.int .u8 1, .int .i64 0, .string ⟨#[]⟩] 24)).heap.size = w.heap.size + 1 + 1 := by simp
  have ho := empty_owned ((w.alloc (.cells #[.int .u8 0, .int .i64 0, .string ⟨#[]⟩] 24)).alloc (.cells #[.int .u8 1, .int .i64 0, .string ⟨#[]⟩] 24))
  rw [hz] at ho
  have HO1 := Lib.hid ho
  have HA1 := Lib.hid (show Below (w.heap.size + 1 + 1) ((w.alloc (.cells #[.int .u8 0, .int .i64 0, .string ⟨#[]⟩] 24)).alloc (.cells #[.int .u8 1, .int .i64 0, .string ⟨#[]⟩] 24)) (((w.alloc (.cells #[.int .u8 0, .int .i64 0, .string ⟨#[]⟩] 24)).alloc (.cells #[.int .u8 1, .int .i64 0, .string ⟨#[]⟩] 24)).alloc (.cells #[] 5)) from (Below.refl _ _).alloc (by simp) _)
  have HX1 := Lib.hid ((hrt.mono EX1.out).mono (show Ext _ _ from (Below.refl _ _).alloc (Nat.le_refl _) (.cells #[] 5)))
  have HBV := Lib.hid (bv_oneCell t)
  have HLM := Lib.hid (show (t.map bv).length = t.length from List.length_map _)
  have HZ0 := Lib.hid (cells_two0 w [.int .u8 0, .int .i64 0, .string ⟨#[]⟩] [.int .u8 1, .int .i64 0, .string ⟨#[]⟩] 24)
  have HZ5 := Lib.hid (cells_two1 w [.int .u8 0, .int .i64 0, .string ⟨#[]⟩] [.int .u8 1, .int .i64 0, .string ⟨#[]⟩] 24)
  have HL := Lib.hid hl
  have HW := Lib.hid (show ∀ W, W = ((w.alloc (.cells #[.int .u8 0, .int .i64 0, .string ⟨#[]⟩] 24)).alloc (.cells #[.int .u8 1, .int .i64 0, .string ⟨#[]⟩] 24)) → W.heap.size = w.heap.size + 1 + 1 from fun W h => by rw [h]; exact hz)
  clear hrt hz ho hLd hl hlt
  subst hcap
  have hL1 : L = 1 := by omega
  subst hL1
  go_enter Try.func38, Try.ntmps38
  go_wp2_with (at_builtin; go_must (refine wpList_append_rd rfl (.tmp 15) (.tmp 17) 33 rfl (w.heap.size + 1 + 1) 5 i0 (.int .u8 0) 1 Try.underlying33 hi hz0 hz1 hz2 rfl _ _ _ rfl HO1.out _ _ rfl HX1.out HBV.out (by rw [HLM.out]; have := HL.out; unfold maxLen; omega) (by rw [HLM.out]; have := HL.out; omega) (by simp) ?_); intro v2 w2 hown2 hgrow2; have hrd : Rd w2 v2 t := (by have h := RdV.of_owns hown2; rwa [List.nil_append] at h); obtain ⟨a2, cap2, rfl, hx2, hy2⟩ := hrd.shape; have HRD := Lib.hid hrd; have HOB := Lib.hid (fun k hk => (hown2.lt k hk).1); have HB2 := Lib.hid (show Below (w.heap.size + 1 + 1) _ w2 from HA1.out.grown hgrow2 (by simp) (fun k hk => by cases hk; exact Nat.le_refl _)); have HP2 := Lib.hid (show Ext _ w2 from Below.mono HB2.out (by simp)); have c0 := kept_cell HZ5.out (Ext.trans HP2.out (ext_one w2 (.cells #[.slice a2 t.length cap2, .bool false] 59))) 0 _ rfl; have c1 := kept_cell HZ5.out (Ext.trans HP2.out (ext_one w2 (.cells #[.slice a2 t.length cap2, .bool false] 59))) 1 _ rfl; have c2 := kept_cell HZ5.out (Ext.trans HP2.out (ext_one w2 (.cells #[.slice a2 t.length cap2, .bool false] 59))) 2 _ rfl; clear hgrow2 hown2 hrd hx2 hy2)
  have HRF := Lib.hid (show RRef (w.heap.size + 1 + 1) (w2.alloc (.cells #[.slice a2 t.length cap2, .bool false] 59)) w2.heap.size t false from ⟨_, heap_alloc_new _ _, HRD.out.mono (ext_one w2 _), HOB.out⟩)
  refine (HCALL.out _ _ _ HRF.out).mono ?_
  rintro e w3 ⟨rfl, hr3, ho3⟩
  have hlt2 : w.heap.size + 1 < w2.heap.size := by have h1 := HP2.out.size; simp at h1; omega
  have hne2 : w.heap.size ≠ w2.heap.size := by omega
  have hne3 : w2.heap.size ≠ w.heap.size := by omega
  have hne4 : w.heap.size + 1 ≠ w2.heap.size := by omega
  have hne5 : w2.heap.size ≠ w.heap.size + 1 := by omega
  have HE3 := Lib.hid (show Ext _ w3 from Below.mono ((HB2.out.alloc (by omega) (.cells #[.slice a2 t.length cap2, .bool false] 59)).grown ho3 (by simp; omega) (fun k hk => by cases hk; omega)) (by simp))
  clear ho3
  obtain ⟨v4, hb4, hrd4, hob4⟩ := hr3
  obtain ⟨a4, cap4, rfl, _, _⟩ := hrd4.shape
  have e0 := Rdr.cell0 hb4
  have e1 := Rdr.cell1 hb4
  clear hb4
  have c0 := kept_cell HZ5.out HE3.out 0 _ rfl
  have c1 := kept_cell HZ5.out HE3.out 1 _ rfl
  have c2 := kept_cell HZ5.out HE3.out 2 _ rfl
  have d0 := kept_cell HZ0.out HE3.out 0 _ rfl
  have d1 := kept_cell HZ0.out HE3.out 1 _ rfl
  have d2 := kept_cell HZ0.out HE3.out 2 _ rfl
  have hf : ∀ j, w3.frozen? ⟨w.heap.size, j, none⟩ = false := fun j => by
    rw [frozen_ext (Ext.trans (ext_one _ _) HE3.out) (by simp)]
    unfold World.frozen?
    rw [heap_alloc_new]
    simp
  have f0 := hf 0
  have f1 := hf 1
  have f2 := hf 2
  have g0 : w3.frozen? ⟨w.heap.size + 1, 1, none⟩ = false := by
    rw [frozen_ext HE3.out (by simp)]
    unfold World.frozen?
    rw [show w.heap.size + 1 = (w.alloc (.cells #[.int .u8 0, .int .i64 0, .string ⟨#[]⟩] 24)).heap.size by simp, heap_alloc_new]
    simp
  clear hf
  have HX5 := Lib.hid (show Ext w (w3.setCell ⟨w.heap.size + 1, 1, none⟩ (.int .i64 N)) from Below.setCell (Ext.trans EX1.out HE3.out) (by show w.heap.size ≤ w.heap.size + 1; omega) _)
  have HR5 := Lib.hid (show Rd (w3.setCell ⟨w.heap.size + 1, 1, none⟩ (.int .i64 N)) _ _ from rd_setBelow (B := w.heap.size + 1 + 1) hrd4 hob4 (by omega))
  have HO5 := Lib.hid hob4
  have HX5s := Lib.hid (show Ext (w.alloc (.cells #[.int .u8 0, .int .i64 0, .string ⟨#[]⟩] 24)) (w3.setCell ⟨w.heap.size + 1, 1, none⟩ (.int .i64 N)) from Below.setCell (Ext.trans (ext_one _ _) HE3.out) (by simp) _)
  have HD5 := Lib.hid (show ∀ j u, ([.int .u8 0, .int .i64 0, .string ⟨#[]⟩] : List Value)[j]? = some u → (w3.setCell ⟨w.heap.size + 1, 1, none⟩ (.int .i64 N)).cell? ⟨w.heap.size, j, none⟩ = some u from fun j u hj => by
    rw [World.cell?_setCell_other]
    · exact kept_cell HZ0.out HE3.out j u hj
    · simp)
  clear hrd4 hob4
  have HC5 := Lib.hid (show ∀ j u, ([.int .u8 1, (.int .i64 N), .string ⟨#[]⟩] : List Value)[j]? = some u → (w3.setCell ⟨w.heap.size + 1, 1, none⟩ (.int .i64 N)).cell? ⟨w.heap.size + 1, j, none⟩ = some u from fun j u hj => by
    by_cases hji : j = 1
    · subst hji
      cases hj
      exact World.cell?_setCell_same _ _ _ (kept_cell HZ5.out HE3.out 1 _ rfl)
    · rw [World.cell?_setCell_other]
      · refine kept_cell HZ5.out HE3.out j u ?_
        match j, hj with
        | 0, hj => exact hj
        | 1, hj => first | exact hj | exact absurd rfl hji
        | 2, hj => first | exact hj | exact absurd rfl hji
      · intro hh
        simp at hh <;> omega)
  have HE5 := Lib.hid (show (w3.setCell ⟨w.heap.size + 1, 1, none⟩ (.int .i64 N)).cell? ⟨w2.heap.size, 0, none⟩ = some (.slice a4 m.length cap4) from by
    rw [World.cell?_setCell_other]
    · exact e0
    · intro hh
      simp at hh <;> omega)
  have HF5 := Lib.hid (show ∀ j, (w3.setCell ⟨w.heap.size + 1, 1, none⟩ (.int .i64 N)).frozen? ⟨w.heap.size, j, none⟩ = false from fun j => by
    rw [frozen_ext HX5s.out (by simp)]
    unfold World.frozen?
    rw [heap_alloc_new]
    simp)
  go_wp2_with fail
  refine (HRIGHT.out _).mono ?_
  rintro e w6 ⟨rfl, hb6⟩
  have c0 := kept_cell HC5.out hb6 0 _ rfl
  have c1 := kept_cell HC5.out hb6 1 _ rfl
  have c2 := kept_cell HC5.out hb6 2 _ rfl
  have HD0 := Lib.hid (kept_cell HD5.out hb6)
  have d0 := HD0.out 0 _ rfl
  have d1 := HD0.out 1 _ rfl
  have d2 := HD0.out 2 _ rfl
  have e0 := (hb6.cell (lt_of_cell HE5.out)).trans HE5.out
  have hf : ∀ j, w6.frozen? ⟨w.heap.size, j, none⟩ = false := fun j => by
    rw [frozen_ext hb6 (lt_of_cell (HD5.out 0 _ rfl))]
    exact HF5.out j
  have f0 := hf 0
  have f1 := hf 1
  have f2 := hf 2
  have HRR := Lib.hid (HR5.out.mono hb6)
  have HOB := HO5
  have HEX := Lib.hid (Ext.trans HX5.out hb6)
  clear hb6 hf
  go_wp2_with fail
  go_region
  go_wp2_with fail
  have hg := three_stored HD0.out (.int .u8 1) (.int .i64 N) (.string ⟨#[]⟩)
  have k0 := hg 0 _ rfl
  have k1 := hg 1 _ rfl
  have k2 := hg 2 _ rfl
  refine bodyPost_ret (v := .tuple #[.agg #[(.int .u8 1), (.int .i64 N), (.string ⟨#[]⟩)], .slice a4 m.length cap4, .int .i64 0]) (by simp [results, Try.results38, go_sem, k0, k1, k2]) rfl ⟨.inl ⟨(⟨1, N, []⟩ : V), m, _, HTV.out, rfl, ?_⟩, ?_⟩
  · exact Rd.mono (rd_setBelow (B := w.heap.size + 1 + 1) (rd_setBelow (B := w.heap.size + 1 + 1) (rd_setBelow (B := w.heap.size + 1 + 1) HRR.out HOB.out (by omega)) HOB.out (by omega)) HOB.out (by omega)) (Ext.drew _)
  · exact Ext.trans (show Ext w _ from Below.setCell (Below.setCell (Below.setCell HEX.out (Nat.le_refl _) _) (Nat.le_refl _) _) (Nat.le_refl _) _) (Ext.drew _)

set_option maxRecDepth 100000 in
set_option maxHeartbeats 1000000 in
theorem refTake_1b_wrong (bb off L cap : Nat) (t : List UInt8) (w : World) (hc0 : w.cell? ⟨bb, off, none⟩ = some (.int .u8 1)) (hrt : Rd w (.slice (some ⟨bb, off, none⟩) 0 0) t) (hLd : L = t.length + 1) (hlt : bb < w.heap.size) (h2 : L ≤ cap) (_h3 : cap ≤ maxLen) (hcap : cap = 1) (hl : t.length < 1000000)
    (N : Int) (m : List UInt8) (hcall : ∀ (B b : Nat) (W : World), RRef B W b t false → Calls Try.prog 39 #[.pointer (some ⟨b, 0, none⟩)] W fun e w' => e = .returned (.int .i64 N) ∧ RRef B w' b m false ∧ Only b W w') (hR : ∀ W, Calls Try.prog 61 #[(⟨1, N, []⟩ : V).val] W fun e w' => e = .returned (.bool false) ∧ Ext W w') (hTV : takeV (1 :: t) = none) :
    Calls Try.prog 38 #[.slice (some ⟨bb, off, none⟩) L cap] w (RefTook w (1 :: t)) := by
  obtain ⟨i0, hi, hz0, hz1, hz2⟩ := info_parts Try.info5
  have HCALL := Lib.hid hcall
  have HTV := Lib.hid hTV
  have HRIGHT := Lib.hid hR
  clear hcall hTV hR
  have HTL := Lib.hid hLd
  have hlne : ((L : Int) == 0) = false := by rw [beq_eq_false_iff_ne]; omega
  have hnl : ¬ L < 1 := by omega
  have hcap1 : 1 ≤ cap := by omega
  unfold maxLen at _h3
  have hc1 : (w.alloc (.cells #[.int .u8 0, .int .i64 0, .string ⟨#[]⟩] 24)).cell? ⟨bb, off, none⟩ = some (.int .u8 1) := ((ext_one w _).cell hlt).trans hc0
  have EX1 := Lib.hid (show Ext w ((w.alloc (.cells #[.int .u8 0, .int .i64 0, .string ⟨#[]⟩] 24)).alloc (.cells #[.int .u8 1, .int .i64 0, .string ⟨#[]⟩] 24)) from ext_two w _ _)
  have hz : ((w.alloc (.cells #[.int .u8 0, .int .i64 0, .string ⟨#[]⟩] 24)).alloc (.cells #[.int .u8 1, .int .i64 0, .string ⟨#[]⟩] 24)).heap.size = w.heap.size + 1 + 1 := by simp
  have ho := empty_owned ((w.alloc (.cells #[.int .u8 0, .int .i64 0, .string ⟨#[]⟩] 24)).alloc (.cells #[.int .u8 1, .int .i64 0, .string ⟨#[]⟩] 24))
  rw [hz] at ho
  have HO1 := Lib.hid ho
  have HA1 := Lib.hid (show Below (w.heap.size + 1 + 1) ((w.alloc (.cells #[.int .u8 0, .int .i64 0, .string ⟨#[]⟩] 24)).alloc (.cells #[.int .u8 1, .int .i64 0, .string ⟨#[]⟩] 24)) (((w.alloc (.cells #[.int .u8 0, .int .i64 0, .string ⟨#[]⟩] 24)).alloc (.cells #[.int .u8 1, .int .i64 0, .string ⟨#[]⟩] 24)).alloc (.cells #[] 5)) from (Below.refl _ _).alloc (by simp) _)
  have HX1 := Lib.hid ((hrt.mono EX1.out).mono (show Ext _ _ from (Below.refl _ _).alloc (Nat.le_refl _) (.cells #[] 5)))
  have HBV := Lib.hid (bv_oneCell t)
  have HLM := Lib.hid (show (t.map bv).length = t.length from List.length_map _)
  have HZ0 := Lib.hid (cells_two0 w [.int .u8 0, .int .i64 0, .string ⟨#[]⟩] [.int .u8 1, .int .i64 0, .string ⟨#[]⟩] 24)
  have HZ5 := Lib.hid (cells_two1 w [.int .u8 0, .int .i64 0, .string ⟨#[]⟩] [.int .u8 1, .int .i64 0, .string ⟨#[]⟩] 24)
  have HL := Lib.hid hl
  have HW := Lib.hid (show ∀ W, W = ((w.alloc (.cells #[.int .u8 0, .int .i64 0, .string ⟨#[]⟩] 24)).alloc (.cells #[.int .u8 1, .int .i64 0, .string ⟨#[]⟩] 24)) → W.heap.size = w.heap.size + 1 + 1 from fun W h => by rw [h]; exact hz)
  clear hrt hz ho hLd hl hlt
  subst hcap
  have hL1 : L = 1 := by omega
  subst hL1
  go_enter Try.func38, Try.ntmps38
  go_wp2_with (at_builtin; go_must (refine wpList_append_rd rfl (.tmp 15) (.tmp 17) 33 rfl (w.heap.size + 1 + 1) 5 i0 (.int .u8 0) 1 Try.underlying33 hi hz0 hz1 hz2 rfl _ _ _ rfl HO1.out _ _ rfl HX1.out HBV.out (by rw [HLM.out]; have := HL.out; unfold maxLen; omega) (by rw [HLM.out]; have := HL.out; omega) (by simp) ?_); intro v2 w2 hown2 hgrow2; have hrd : Rd w2 v2 t := (by have h := RdV.of_owns hown2; rwa [List.nil_append] at h); obtain ⟨a2, cap2, rfl, hx2, hy2⟩ := hrd.shape; have HRD := Lib.hid hrd; have HOB := Lib.hid (fun k hk => (hown2.lt k hk).1); have HB2 := Lib.hid (show Below (w.heap.size + 1 + 1) _ w2 from HA1.out.grown hgrow2 (by simp) (fun k hk => by cases hk; exact Nat.le_refl _)); have HP2 := Lib.hid (show Ext _ w2 from Below.mono HB2.out (by simp)); have c0 := kept_cell HZ5.out (Ext.trans HP2.out (ext_one w2 (.cells #[.slice a2 t.length cap2, .bool false] 59))) 0 _ rfl; have c1 := kept_cell HZ5.out (Ext.trans HP2.out (ext_one w2 (.cells #[.slice a2 t.length cap2, .bool false] 59))) 1 _ rfl; have c2 := kept_cell HZ5.out (Ext.trans HP2.out (ext_one w2 (.cells #[.slice a2 t.length cap2, .bool false] 59))) 2 _ rfl; clear hgrow2 hown2 hrd hx2 hy2)
  have HRF := Lib.hid (show RRef (w.heap.size + 1 + 1) (w2.alloc (.cells #[.slice a2 t.length cap2, .bool false] 59)) w2.heap.size t false from ⟨_, heap_alloc_new _ _, HRD.out.mono (ext_one w2 _), HOB.out⟩)
  refine (HCALL.out _ _ _ HRF.out).mono ?_
  rintro e w3 ⟨rfl, hr3, ho3⟩
  have hlt2 : w.heap.size + 1 < w2.heap.size := by have h1 := HP2.out.size; simp at h1; omega
  have hne2 : w.heap.size ≠ w2.heap.size := by omega
  have hne3 : w2.heap.size ≠ w.heap.size := by omega
  have hne4 : w.heap.size + 1 ≠ w2.heap.size := by omega
  have hne5 : w2.heap.size ≠ w.heap.size + 1 := by omega
  have HE3 := Lib.hid (show Ext _ w3 from Below.mono ((HB2.out.alloc (by omega) (.cells #[.slice a2 t.length cap2, .bool false] 59)).grown ho3 (by simp; omega) (fun k hk => by cases hk; omega)) (by simp))
  clear ho3
  obtain ⟨v4, hb4, hrd4, hob4⟩ := hr3
  obtain ⟨a4, cap4, rfl, _, _⟩ := hrd4.shape
  have e0 := Rdr.cell0 hb4
  have e1 := Rdr.cell1 hb4
  clear hb4
  have c0 := kept_cell HZ5.out HE3.out 0 _ rfl
  have c1 := kept_cell HZ5.out HE3.out 1 _ rfl
  have c2 := kept_cell HZ5.out HE3.out 2 _ rfl
  have d0 := kept_cell HZ0.out HE3.out 0 _ rfl
  have d1 := kept_cell HZ0.out HE3.out 1 _ rfl
  have d2 := kept_cell HZ0.out HE3.out 2 _ rfl
  have hf : ∀ j, w3.frozen? ⟨w.heap.size, j, none⟩ = false := fun j => by
    rw [frozen_ext (Ext.trans (ext_one _ _) HE3.out) (by simp)]
    unfold World.frozen?
    rw [heap_alloc_new]
    simp
  have f0 := hf 0
  have f1 := hf 1
  have f2 := hf 2
  have g0 : w3.frozen? ⟨w.heap.size + 1, 1, none⟩ = false := by
    rw [frozen_ext HE3.out (by simp)]
    unfold World.frozen?
    rw [show w.heap.size + 1 = (w.alloc (.cells #[.int .u8 0, .int .i64 0, .string ⟨#[]⟩] 24)).heap.size by simp, heap_alloc_new]
    simp
  clear hf
  have HX5 := Lib.hid (show Ext w (w3.setCell ⟨w.heap.size + 1, 1, none⟩ (.int .i64 N)) from Below.setCell (Ext.trans EX1.out HE3.out) (by show w.heap.size ≤ w.heap.size + 1; omega) _)
  have HR5 := Lib.hid (show Rd (w3.setCell ⟨w.heap.size + 1, 1, none⟩ (.int .i64 N)) _ _ from rd_setBelow (B := w.heap.size + 1 + 1) hrd4 hob4 (by omega))
  have HO5 := Lib.hid hob4
  have HX5s := Lib.hid (show Ext (w.alloc (.cells #[.int .u8 0, .int .i64 0, .string ⟨#[]⟩] 24)) (w3.setCell ⟨w.heap.size + 1, 1, none⟩ (.int .i64 N)) from Below.setCell (Ext.trans (ext_one _ _) HE3.out) (by simp) _)
  have HD5 := Lib.hid (show ∀ j u, ([.int .u8 0, .int .i64 0, .string ⟨#[]⟩] : List Value)[j]? = some u → (w3.setCell ⟨w.heap.size + 1, 1, none⟩ (.int .i64 N)).cell? ⟨w.heap.size, j, none⟩ = some u from fun j u hj => by
    rw [World.cell?_setCell_other]
    · exact kept_cell HZ0.out HE3.out j u hj
    · simp)
  clear hrd4 hob4
  have HC5 := Lib.hid (show ∀ j u, ([.int .u8 1, (.int .i64 N), .string ⟨#[]⟩] : List Value)[j]? = some u → (w3.setCell ⟨w.heap.size + 1, 1, none⟩ (.int .i64 N)).cell? ⟨w.heap.size + 1, j, none⟩ = some u from fun j u hj => by
    by_cases hji : j = 1
    · subst hji
      cases hj
      exact World.cell?_setCell_same _ _ _ (kept_cell HZ5.out HE3.out 1 _ rfl)
    · rw [World.cell?_setCell_other]
      · refine kept_cell HZ5.out HE3.out j u ?_
        match j, hj with
        | 0, hj => exact hj
        | 1, hj => first | exact hj | exact absurd rfl hji
        | 2, hj => first | exact hj | exact absurd rfl hji
      · intro hh
        simp at hh <;> omega)
  have HE5 := Lib.hid (show (w3.setCell ⟨w.heap.size + 1, 1, none⟩ (.int .i64 N)).cell? ⟨w2.heap.size, 0, none⟩ = some (.slice a4 m.length cap4) from by
    rw [World.cell?_setCell_other]
    · exact e0
    · intro hh
      simp at hh <;> omega)
  have HF5 := Lib.hid (show ∀ j, (w3.setCell ⟨w.heap.size + 1, 1, none⟩ (.int .i64 N)).frozen? ⟨w.heap.size, j, none⟩ = false from fun j => by
    rw [frozen_ext HX5s.out (by simp)]
    unfold World.frozen?
    rw [heap_alloc_new]
    simp)
  go_wp2_with fail
  refine (HRIGHT.out _).mono ?_
  rintro e w6 ⟨rfl, hb6⟩
  have c0 := kept_cell HC5.out hb6 0 _ rfl
  have c1 := kept_cell HC5.out hb6 1 _ rfl
  have c2 := kept_cell HC5.out hb6 2 _ rfl
  have HD0 := Lib.hid (kept_cell HD5.out hb6)
  have d0 := HD0.out 0 _ rfl
  have d1 := HD0.out 1 _ rfl
  have d2 := HD0.out 2 _ rfl
  have e0 := (hb6.cell (lt_of_cell HE5.out)).trans HE5.out
  have hf : ∀ j, w6.frozen? ⟨w.heap.size, j, none⟩ = false := fun j => by
    rw [frozen_ext hb6 (lt_of_cell (HD5.out 0 _ rfl))]
    exact HF5.out j
  have f0 := hf 0
  have f1 := hf 1
  have f2 := hf 2
  have HRR := Lib.hid (HR5.out.mono hb6)
  have HOB := HO5
  have HEX := Lib.hid (Ext.trans HX5.out hb6)
  clear hb6 hf
  go_wp2_with fail
  have hg := three_stored HD0.out (.int .u8 0) (.int .i64 0) (.string ⟨#[]⟩)
  have k0 := hg 0 _ rfl
  have k1 := hg 1 _ rfl
  have k2 := hg 2 _ rfl
  refine bodyPost_ret (v := .tuple #[.agg #[.int .u8 0, .int .i64 0, .string ⟨#[]⟩], .slice none 0 0, .int .i64 6]) (by simp [results, Try.results38, go_sem, k0, k1, k2]) rfl ⟨.inr ⟨HTV.out, rfl⟩, ?_⟩
  exact (show Ext w _ from Below.setCell (Below.setCell (Below.setCell HEX.out (Nat.le_refl _) _) (Nat.le_refl _) _) (Nat.le_refl _) _)

set_option maxRecDepth 100000 in
set_option maxHeartbeats 1000000 in
theorem refTake_2b_bad (bb off L cap : Nat) (t : List UInt8) (w : World) (hc0 : w.cell? ⟨bb, off, none⟩ = some (.int .u8 2)) (hrt : Rd w (.slice (some ⟨bb, off, none⟩) 0 0) t) (hLd : L = t.length + 1) (hlt : bb < w.heap.size) (h2 : L ≤ cap) (_h3 : cap ≤ maxLen) (hcap : cap = 1) (hl : t.length < 1000000)
    (N : Int) (hcall : ∀ (B b : Nat) (W : World), RRef B W b t false → Calls Try.prog 39 #[.pointer (some ⟨b, 0, none⟩)] W fun e w' => e = .returned (.int .i64 N) ∧ RRef B w' b [] true ∧ Only b W w') (hTV : takeV (2 :: t) = none) :
    Calls Try.prog 38 #[.slice (some ⟨bb, off, none⟩) L cap] w (RefTook w (2 :: t)) := by
  obtain ⟨i0, hi, hz0, hz1, hz2⟩ := info_parts Try.info5
  have HCALL := Lib.hid hcall
  have HTV := Lib.hid hTV
  clear hcall hTV
  have HTL := Lib.hid hLd
  have hlne : ((L : Int) == 0) = false := by rw [beq_eq_false_iff_ne]; omega
  have hnl : ¬ L < 1 := by omega
  have hcap1 : 1 ≤ cap := by omega
  unfold maxLen at _h3
  have hc1 : (w.alloc (.cells #[.int .u8 0, .int .i64 0, .string ⟨#[]⟩] 24)).cell? ⟨bb, off, none⟩ = some (.int .u8 2) := ((ext_one w _).cell hlt).trans hc0
  have EX1 := Lib.hid (show Ext w ((w.alloc (.cells #[.int .u8 0, .int .i64 0, .string ⟨#[]⟩] 24)).alloc (.cells #[.int .u8 2, .int .i64 0, .string ⟨#[]⟩] 24)) from ext_two w _ _)
  have hz : ((w.alloc (.cells #[.int .u8 0, .int .i64 0, .string ⟨#[]⟩] 24)).alloc (.cells #[.int .u8 2, .int .i64 0, .string ⟨#[]⟩] 24)).heap.size = w.heap.size + 1 + 1 := by simp
  have ho := empty_owned ((w.alloc (.cells #[.int .u8 0, .int .i64 0, .string ⟨#[]⟩] 24)).alloc (.cells #[.int .u8 2, .int .i64 0, .string ⟨#[]⟩] 24))
  rw [hz] at ho
  have HO1 := Lib.hid ho
  have HA1 := Lib.hid (show Below (w.heap.size + 1 + 1) ((w.alloc (.cells #[.int .u8 0, .int .i64 0, .string ⟨#[]⟩] 24)).alloc (.cells #[.int .u8 2, .int .i64 0, .string ⟨#[]⟩] 24)) (((w.alloc (.cells #[.int .u8 0, .int .i64 0, .string ⟨#[]⟩] 24)).alloc (.cells #[.int .u8 2, .int .i64 0, .string ⟨#[]⟩] 24)).alloc (.cells #[] 5)) from (Below.refl _ _).alloc (by simp) _)
  have HX1 := Lib.hid ((hrt.mono EX1.out).mono (show Ext _ _ from (Below.refl _ _).alloc (Nat.le_refl _) (.cells #[] 5)))
  have HBV := Lib.hid (bv_oneCell t)
  have HLM := Lib.hid (show (t.map bv).length = t.length from List.length_map _)
  have HZ0 := Lib.hid (cells_two0 w [.int .u8 0, .int .i64 0, .string ⟨#[]⟩] [.int .u8 2, .int .i64 0, .string ⟨#[]⟩] 24)
  have HZ5 := Lib.hid (cells_two1 w [.int .u8 0, .int .i64 0, .string ⟨#[]⟩] [.int .u8 2, .int .i64 0, .string ⟨#[]⟩] 24)
  have HL := Lib.hid hl
  have HW := Lib.hid (show ∀ W, W = ((w.alloc (.cells #[.int .u8 0, .int .i64 0, .string ⟨#[]⟩] 24)).alloc (.cells #[.int .u8 2, .int .i64 0, .string ⟨#[]⟩] 24)) → W.heap.size = w.heap.size + 1 + 1 from fun W h => by rw [h]; exact hz)
  clear hrt hz ho hLd hl hlt
  subst hcap
  have hL1 : L = 1 := by omega
  subst hL1
  go_enter Try.func38, Try.ntmps38
  go_wp2_with (at_builtin; go_must (refine wpList_append_rd rfl (.tmp 15) (.tmp 17) 33 rfl (w.heap.size + 1 + 1) 5 i0 (.int .u8 0) 1 Try.underlying33 hi hz0 hz1 hz2 rfl _ _ _ rfl HO1.out _ _ rfl HX1.out HBV.out (by rw [HLM.out]; have := HL.out; unfold maxLen; omega) (by rw [HLM.out]; have := HL.out; omega) (by simp) ?_); intro v2 w2 hown2 hgrow2; have hrd : Rd w2 v2 t := (by have h := RdV.of_owns hown2; rwa [List.nil_append] at h); obtain ⟨a2, cap2, rfl, hx2, hy2⟩ := hrd.shape; have HRD := Lib.hid hrd; have HOB := Lib.hid (fun k hk => (hown2.lt k hk).1); have HB2 := Lib.hid (show Below (w.heap.size + 1 + 1) _ w2 from HA1.out.grown hgrow2 (by simp) (fun k hk => by cases hk; exact Nat.le_refl _)); have HP2 := Lib.hid (show Ext _ w2 from Below.mono HB2.out (by simp)); have c0 := kept_cell HZ5.out (Ext.trans HP2.out (ext_one w2 (.cells #[.slice a2 t.length cap2, .bool false] 59))) 0 _ rfl; have c1 := kept_cell HZ5.out (Ext.trans HP2.out (ext_one w2 (.cells #[.slice a2 t.length cap2, .bool false] 59))) 1 _ rfl; have c2 := kept_cell HZ5.out (Ext.trans HP2.out (ext_one w2 (.cells #[.slice a2 t.length cap2, .bool false] 59))) 2 _ rfl; clear hgrow2 hown2 hrd hx2 hy2)
  have HRF := Lib.hid (show RRef (w.heap.size + 1 + 1) (w2.alloc (.cells #[.slice a2 t.length cap2, .bool false] 59)) w2.heap.size t false from ⟨_, heap_alloc_new _ _, HRD.out.mono (ext_one w2 _), HOB.out⟩)
  refine (HCALL.out _ _ _ HRF.out).mono ?_
  rintro e w3 ⟨rfl, hr3, ho3⟩
  have hlt2 : w.heap.size + 1 < w2.heap.size := by have h1 := HP2.out.size; simp at h1; omega
  have hne2 : w.heap.size ≠ w2.heap.size := by omega
  have hne3 : w2.heap.size ≠ w.heap.size := by omega
  have hne4 : w.heap.size + 1 ≠ w2.heap.size := by omega
  have hne5 : w2.heap.size ≠ w.heap.size + 1 := by omega
  have HE3 := Lib.hid (show Ext _ w3 from Below.mono ((HB2.out.alloc (by omega) (.cells #[.slice a2 t.length cap2, .bool false] 59)).grown ho3 (by simp; omega) (fun k hk => by cases hk; omega)) (by simp))
  clear ho3
  obtain ⟨v4, hb4, hrd4, hob4⟩ := hr3
  obtain ⟨a4, cap4, rfl, _, _⟩ := hrd4.shape
  have e0 := Rdr.cell0 hb4
  have e1 := Rdr.cell1 hb4
  clear hb4
  have c0 := kept_cell HZ5.out HE3.out 0 _ rfl
  have c1 := kept_cell HZ5.out HE3.out 1 _ rfl
  have c2 := kept_cell HZ5.out HE3.out 2 _ rfl
  have d0 := kept_cell HZ0.out HE3.out 0 _ rfl
  have d1 := kept_cell HZ0.out HE3.out 1 _ rfl
  have d2 := kept_cell HZ0.out HE3.out 2 _ rfl
  have hf : ∀ j, w3.frozen? ⟨w.heap.size, j, none⟩ = false := fun j => by
    rw [frozen_ext (Ext.trans (ext_one _ _) HE3.out) (by simp)]
    unfold World.frozen?
    rw [heap_alloc_new]
    simp
  have f0 := hf 0
  have f1 := hf 1
  have f2 := hf 2
  have g0 : w3.frozen? ⟨w.heap.size + 1, 1, none⟩ = false := by
    rw [frozen_ext HE3.out (by simp)]
    unfold World.frozen?
    rw [show w.heap.size + 1 = (w.alloc (.cells #[.int .u8 0, .int .i64 0, .string ⟨#[]⟩] 24)).heap.size by simp, heap_alloc_new]
    simp
  clear hf
  have HX5 := Lib.hid (show Ext w (w3.setCell ⟨w.heap.size + 1, 1, none⟩ (.int .i64 N)) from Below.setCell (Ext.trans EX1.out HE3.out) (by show w.heap.size ≤ w.heap.size + 1; omega) _)
  have HR5 := Lib.hid (show Rd (w3.setCell ⟨w.heap.size + 1, 1, none⟩ (.int .i64 N)) _ _ from rd_setBelow (B := w.heap.size + 1 + 1) hrd4 hob4 (by omega))
  have HO5 := Lib.hid hob4
  have HD5 := Lib.hid (show ∀ j u, ([.int .u8 0, .int .i64 0, .string ⟨#[]⟩] : List Value)[j]? = some u → (w3.setCell ⟨w.heap.size + 1, 1, none⟩ (.int .i64 N)).cell? ⟨w.heap.size, j, none⟩ = some u from fun j u hj => by
    rw [World.cell?_setCell_other]
    · exact kept_cell HZ0.out HE3.out j u hj
    · simp)
  clear hrd4 hob4
  go_wp2_with fail
  have hg := three_stored HD5.out (.int .u8 0) (.int .i64 0) (.string ⟨#[]⟩)
  have k0 := hg 0 _ rfl
  have k1 := hg 1 _ rfl
  have k2 := hg 2 _ rfl
  refine bodyPost_ret (v := .tuple #[.agg #[.int .u8 0, .int .i64 0, .string ⟨#[]⟩], .slice none 0 0, .int .i64 6]) (by simp [results, Try.results38, go_sem, k0, k1, k2]) rfl ⟨.inr ⟨HTV.out, rfl⟩, ?_⟩
  exact (show Ext w _ from Below.setCell (Below.setCell (Below.setCell HX5.out (Nat.le_refl _) _) (Nat.le_refl _) _) (Nat.le_refl _) _)

set_option maxRecDepth 100000 in
set_option maxHeartbeats 1000000 in
theorem refTake_2b_right (bb off L cap : Nat) (t : List UInt8) (w : World) (hc0 : w.cell? ⟨bb, off, none⟩ = some (.int .u8 2)) (hrt : Rd w (.slice (some ⟨bb, off, none⟩) 0 0) t) (hLd : L = t.length + 1) (hlt : bb < w.heap.size) (h2 : L ≤ cap) (_h3 : cap ≤ maxLen) (hcap : cap = 1) (hl : t.length < 1000000)
    (N : Int) (m : List UInt8) (hcall : ∀ (B b : Nat) (W : World), RRef B W b t false → Calls Try.prog 39 #[.pointer (some ⟨b, 0, none⟩)] W fun e w' => e = .returned (.int .i64 N) ∧ RRef B w' b m false ∧ Only b W w') (hR : ∀ W, Calls Try.prog 61 #[(⟨2, N, []⟩ : V).val] W fun e w' => e = .returned (.bool true) ∧ Ext W w') (hTV : takeV (2 :: t) = some ((⟨2, N, []⟩ : V), m)) :
    Calls Try.prog 38 #[.slice (some ⟨bb, off, none⟩) L cap] w (RefTook w (2 :: t)) := by
  obtain ⟨i0, hi, hz0, hz1, hz2⟩ := info_parts Try.info5
  have HCALL := Lib.hid hcall
  have HTV := Lib.hid hTV
  have HRIGHT := Lib.hid hR
  clear hcall hTV hR
  have HTL := Lib.hid hLd
  have hlne : ((L : Int) == 0) = false := by rw [beq_eq_false_iff_ne]; omega
  have hnl : ¬ L < 1 := by omega
  have hcap1 : 1 ≤ cap := by omega
  unfold maxLen at _h3
  have hc1 : (w.alloc (.cells #[.int .u8 0, .int .i64 0, .string ⟨#[]⟩] 24)).cell? ⟨bb, off, none⟩ = some (.int .u8 2) := ((ext_one w _).cell hlt).trans hc0
  have EX1 := Lib.hid (show Ext w ((w.alloc (.cells #[.int .u8 0, .int .i64 0, .string ⟨#[]⟩] 24)).alloc (.cells #[.int .u8 2, .int .i64 0, .string ⟨#[]⟩] 24)) from ext_two w _ _)
  have hz : ((w.alloc (.cells #[.int .u8 0, .int .i64 0, .string ⟨#[]⟩] 24)).alloc (.cells #[.int .u8 2, .int .i64 0, .string ⟨#[]⟩] 24)).heap.size = w.heap.size + 1 + 1 := by simp
  have ho := empty_owned ((w.alloc (.cells #[.int .u8 0, .int .i64 0, .string ⟨#[]⟩] 24)).alloc (.cells #[.int .u8 2, .int .i64 0, .string ⟨#[]⟩] 24))
  rw [hz] at ho
  have HO1 := Lib.hid ho
  have HA1 := Lib.hid (show Below (w.heap.size + 1 + 1) ((w.alloc (.cells #[.int .u8 0, .int .i64 0, .string ⟨#[]⟩] 24)).alloc (.cells #[.int .u8 2, .int .i64 0, .string ⟨#[]⟩] 24)) (((w.alloc (.cells #[.int .u8 0, .int .i64 0, .string ⟨#[]⟩] 24)).alloc (.cells #[.int .u8 2, .int .i64 0, .string ⟨#[]⟩] 24)).alloc (.cells #[] 5)) from (Below.refl _ _).alloc (by simp) _)
  have HX1 := Lib.hid ((hrt.mono EX1.out).mono (show Ext _ _ from (Below.refl _ _).alloc (Nat.le_refl _) (.cells #[] 5)))
  have HBV := Lib.hid (bv_oneCell t)
  have HLM := Lib.hid (show (t.map bv).length = t.length from List.length_map _)
  have HZ0 := Lib.hid (cells_two0 w [.int .u8 0, .int .i64 0, .string ⟨#[]⟩] [.int .u8 2, .int .i64 0, .string ⟨#[]⟩] 24)
  have HZ5 := Lib.hid (cells_two1 w [.int .u8 0, .int .i64 0, .string ⟨#[]⟩] [.int .u8 2, .int .i64 0, .string ⟨#[]⟩] 24)
  have HL := Lib.hid hl
  have HW := Lib.hid (show ∀ W, W = ((w.alloc (.cells #[.int .u8 0, .int .i64 0, .string ⟨#[]⟩] 24)).alloc (.cells #[.int .u8 2, .int .i64 0, .string ⟨#[]⟩] 24)) → W.heap.size = w.heap.size + 1 + 1 from fun W h => by rw [h]; exact hz)
  clear hrt hz ho hLd hl hlt
  subst hcap
  have hL1 : L = 1 := by omega
  subst hL1
  go_enter Try.func38, Try.ntmps38
  go_wp2_with (at_builtin; go_must (refine wpList_append_rd rfl (.tmp 15) (.tmp 17) 33 rfl (w.heap.size + 1 + 1) 5 i0 (.int .u8 0) 1 Try.underlying33 hi hz0 hz1 hz2 rfl _ _ _ rfl HO1.out _ _ rfl HX1.out HBV.out (by rw [HLM.out]; have := HL.out; unfold maxLen; omega) (by rw [HLM.out]; have := HL.out; omega) (by simp) ?_); intro v2 w2 hown2 hgrow2; have hrd : Rd w2 v2 t := (by have h := RdV.of_owns hown2; rwa [List.nil_append] at h); obtain ⟨a2, cap2, rfl, hx2, hy2⟩ := hrd.shape; have HRD := Lib.hid hrd; have HOB := Lib.hid (fun k hk => (hown2.lt k hk).1); have HB2 := Lib.hid (show Below (w.heap.size + 1 + 1) _ w2 from HA1.out.grown hgrow2 (by simp) (fun k hk => by cases hk; exact Nat.le_refl _)); have HP2 := Lib.hid (show Ext _ w2 from Below.mono HB2.out (by simp)); have c0 := kept_cell HZ5.out (Ext.trans HP2.out (ext_one w2 (.cells #[.slice a2 t.length cap2, .bool false] 59))) 0 _ rfl; have c1 := kept_cell HZ5.out (Ext.trans HP2.out (ext_one w2 (.cells #[.slice a2 t.length cap2, .bool false] 59))) 1 _ rfl; have c2 := kept_cell HZ5.out (Ext.trans HP2.out (ext_one w2 (.cells #[.slice a2 t.length cap2, .bool false] 59))) 2 _ rfl; clear hgrow2 hown2 hrd hx2 hy2)
  have HRF := Lib.hid (show RRef (w.heap.size + 1 + 1) (w2.alloc (.cells #[.slice a2 t.length cap2, .bool false] 59)) w2.heap.size t false from ⟨_, heap_alloc_new _ _, HRD.out.mono (ext_one w2 _), HOB.out⟩)
  refine (HCALL.out _ _ _ HRF.out).mono ?_
  rintro e w3 ⟨rfl, hr3, ho3⟩
  have hlt2 : w.heap.size + 1 < w2.heap.size := by have h1 := HP2.out.size; simp at h1; omega
  have hne2 : w.heap.size ≠ w2.heap.size := by omega
  have hne3 : w2.heap.size ≠ w.heap.size := by omega
  have hne4 : w.heap.size + 1 ≠ w2.heap.size := by omega
  have hne5 : w2.heap.size ≠ w.heap.size + 1 := by omega
  have HE3 := Lib.hid (show Ext _ w3 from Below.mono ((HB2.out.alloc (by omega) (.cells #[.slice a2 t.length cap2, .bool false] 59)).grown ho3 (by simp; omega) (fun k hk => by cases hk; omega)) (by simp))
  clear ho3
  obtain ⟨v4, hb4, hrd4, hob4⟩ := hr3
  obtain ⟨a4, cap4, rfl, _, _⟩ := hrd4.shape
  have e0 := Rdr.cell0 hb4
  have e1 := Rdr.cell1 hb4
  clear hb4
  have c0 := kept_cell HZ5.out HE3.out 0 _ rfl
  have c1 := kept_cell HZ5.out HE3.out 1 _ rfl
  have c2 := kept_cell HZ5.out HE3.out 2 _ rfl
  have d0 := kept_cell HZ0.out HE3.out 0 _ rfl
  have d1 := kept_cell HZ0.out HE3.out 1 _ rfl
  have d2 := kept_cell HZ0.out HE3.out 2 _ rfl
  have hf : ∀ j, w3.frozen? ⟨w.heap.size, j, none⟩ = false := fun j => by
    rw [frozen_ext (Ext.trans (ext_one _ _) HE3.out) (by simp)]
    unfold World.frozen?
    rw [heap_alloc_new]
    simp
  have f0 := hf 0
  have f1 := hf 1
  have f2 := hf 2
  have g0 : w3.frozen? ⟨w.heap.size + 1, 1, none⟩ = false := by
    rw [frozen_ext HE3.out (by simp)]
    unfold World.frozen?
    rw [show w.heap.size + 1 = (w.alloc (.cells #[.int .u8 0, .int .i64 0, .string ⟨#[]⟩] 24)).heap.size by simp, heap_alloc_new]
    simp
  clear hf
  have HX5 := Lib.hid (show Ext w (w3.setCell ⟨w.heap.size + 1, 1, none⟩ (.int .i64 N)) from Below.setCell (Ext.trans EX1.out HE3.out) (by show w.heap.size ≤ w.heap.size + 1; omega) _)
  have HR5 := Lib.hid (show Rd (w3.setCell ⟨w.heap.size + 1, 1, none⟩ (.int .i64 N)) _ _ from rd_setBelow (B := w.heap.size + 1 + 1) hrd4 hob4 (by omega))
  have HO5 := Lib.hid hob4
  have HX5s := Lib.hid (show Ext (w.alloc (.cells #[.int .u8 0, .int .i64 0, .string ⟨#[]⟩] 24)) (w3.setCell ⟨w.heap.size + 1, 1, none⟩ (.int .i64 N)) from Below.setCell (Ext.trans (ext_one _ _) HE3.out) (by simp) _)
  have HD5 := Lib.hid (show ∀ j u, ([.int .u8 0, .int .i64 0, .string ⟨#[]⟩] : List Value)[j]? = some u → (w3.setCell ⟨w.heap.size + 1, 1, none⟩ (.int .i64 N)).cell? ⟨w.heap.size, j, none⟩ = some u from fun j u hj => by
    rw [World.cell?_setCell_other]
    · exact kept_cell HZ0.out HE3.out j u hj
    · simp)
  clear hrd4 hob4
  have HC5 := Lib.hid (show ∀ j u, ([.int .u8 2, (.int .i64 N), .string ⟨#[]⟩] : List Value)[j]? = some u → (w3.setCell ⟨w.heap.size + 1, 1, none⟩ (.int .i64 N)).cell? ⟨w.heap.size + 1, j, none⟩ = some u from fun j u hj => by
    by_cases hji : j = 1
    · subst hji
      cases hj
      exact World.cell?_setCell_same _ _ _ (kept_cell HZ5.out HE3.out 1 _ rfl)
    · rw [World.cell?_setCell_other]
      · refine kept_cell HZ5.out HE3.out j u ?_
        match j, hj with
        | 0, hj => exact hj
        | 1, hj => first | exact hj | exact absurd rfl hji
        | 2, hj => first | exact hj | exact absurd rfl hji
      · intro hh
        simp at hh <;> omega)
  have HE5 := Lib.hid (show (w3.setCell ⟨w.heap.size + 1, 1, none⟩ (.int .i64 N)).cell? ⟨w2.heap.size, 0, none⟩ = some (.slice a4 m.length cap4) from by
    rw [World.cell?_setCell_other]
    · exact e0
    · intro hh
      simp at hh <;> omega)
  have HF5 := Lib.hid (show ∀ j, (w3.setCell ⟨w.heap.size + 1, 1, none⟩ (.int .i64 N)).frozen? ⟨w.heap.size, j, none⟩ = false from fun j => by
    rw [frozen_ext HX5s.out (by simp)]
    unfold World.frozen?
    rw [heap_alloc_new]
    simp)
  go_wp2_with fail
  refine (HRIGHT.out _).mono ?_
  rintro e w6 ⟨rfl, hb6⟩
  have c0 := kept_cell HC5.out hb6 0 _ rfl
  have c1 := kept_cell HC5.out hb6 1 _ rfl
  have c2 := kept_cell HC5.out hb6 2 _ rfl
  have HD0 := Lib.hid (kept_cell HD5.out hb6)
  have d0 := HD0.out 0 _ rfl
  have d1 := HD0.out 1 _ rfl
  have d2 := HD0.out 2 _ rfl
  have e0 := (hb6.cell (lt_of_cell HE5.out)).trans HE5.out
  have hf : ∀ j, w6.frozen? ⟨w.heap.size, j, none⟩ = false := fun j => by
    rw [frozen_ext hb6 (lt_of_cell (HD5.out 0 _ rfl))]
    exact HF5.out j
  have f0 := hf 0
  have f1 := hf 1
  have f2 := hf 2
  have HRR := Lib.hid (HR5.out.mono hb6)
  have HOB := HO5
  have HEX := Lib.hid (Ext.trans HX5.out hb6)
  clear hb6 hf
  go_wp2_with fail
  go_region
  go_wp2_with fail
  have hg := three_stored HD0.out (.int .u8 2) (.int .i64 N) (.string ⟨#[]⟩)
  have k0 := hg 0 _ rfl
  have k1 := hg 1 _ rfl
  have k2 := hg 2 _ rfl
  refine bodyPost_ret (v := .tuple #[.agg #[(.int .u8 2), (.int .i64 N), (.string ⟨#[]⟩)], .slice a4 m.length cap4, .int .i64 0]) (by simp [results, Try.results38, go_sem, k0, k1, k2]) rfl ⟨.inl ⟨(⟨2, N, []⟩ : V), m, _, HTV.out, rfl, ?_⟩, ?_⟩
  · exact Rd.mono (rd_setBelow (B := w.heap.size + 1 + 1) (rd_setBelow (B := w.heap.size + 1 + 1) (rd_setBelow (B := w.heap.size + 1 + 1) HRR.out HOB.out (by omega)) HOB.out (by omega)) HOB.out (by omega)) (Ext.drew _)
  · exact Ext.trans (show Ext w _ from Below.setCell (Below.setCell (Below.setCell HEX.out (Nat.le_refl _) _) (Nat.le_refl _) _) (Nat.le_refl _) _) (Ext.drew _)

set_option maxRecDepth 100000 in
set_option maxHeartbeats 1000000 in
theorem refTake_3b_bad (bb off L cap : Nat) (t : List UInt8) (w : World) (hc0 : w.cell? ⟨bb, off, none⟩ = some (.int .u8 3)) (hrt : Rd w (.slice (some ⟨bb, off, none⟩) 0 0) t) (hLd : L = t.length + 1) (hlt : bb < w.heap.size) (h2 : L ≤ cap) (_h3 : cap ≤ maxLen) (hcap : cap = 1) (hl : t.length < 1000000)
    (S : List UInt8) (hcall : ∀ (B b : Nat) (W : World), RRef B W b t false → Calls Try.prog 60 #[.pointer (some ⟨b, 0, none⟩)] W fun e w' => e = .returned (.string ⟨S.toArray⟩) ∧ RRef B w' b [] true ∧ Only b W w') (hTV : takeV (3 :: t) = none) :
    Calls Try.prog 38 #[.slice (some ⟨bb, off, none⟩) L cap] w (RefTook w (3 :: t)) := by
  obtain ⟨i0, hi, hz0, hz1, hz2⟩ := info_parts Try.info5
  have HCALL := Lib.hid hcall
  have HTV := Lib.hid hTV
  clear hcall hTV
  have HTL := Lib.hid hLd
  have hlne : ((L : Int) == 0) = false := by rw [beq_eq_false_iff_ne]; omega
  have hnl : ¬ L < 1 := by omega
  have hcap1 : 1 ≤ cap := by omega
  unfold maxLen at _h3
  have hc1 : (w.alloc (.cells #[.int .u8 0, .int .i64 0, .string ⟨#[]⟩] 24)).cell? ⟨bb, off, none⟩ = some (.int .u8 3) := ((ext_one w _).cell hlt).trans hc0
  have EX1 := Lib.hid (show Ext w ((w.alloc (.cells #[.int .u8 0, .int .i64 0, .string ⟨#[]⟩] 24)).alloc (.cells #[.int .u8 3, .int .i64 0, .string ⟨#[]⟩] 24)) from ext_two w _ _)
  have hz : ((w.alloc (.cells #[.int .u8 0, .int .i64 0, .string ⟨#[]⟩] 24)).alloc (.cells #[.int .u8 3, .int .i64 0, .string ⟨#[]⟩] 24)).heap.size = w.heap.size + 1 + 1 := by simp
  have ho := empty_owned ((w.alloc (.cells #[.int .u8 0, .int .i64 0, .string ⟨#[]⟩] 24)).alloc (.cells #[.int .u8 3, .int .i64 0, .string ⟨#[]⟩] 24))
  rw [hz] at ho
  have HO1 := Lib.hid ho
  have HA1 := Lib.hid (show Below (w.heap.size + 1 + 1) ((w.alloc (.cells #[.int .u8 0, .int .i64 0, .string ⟨#[]⟩] 24)).alloc (.cells #[.int .u8 3, .int .i64 0, .string ⟨#[]⟩] 24)) (((w.alloc (.cells #[.int .u8 0, .int .i64 0, .string ⟨#[]⟩] 24)).alloc (.cells #[.int .u8 3, .int .i64 0, .string ⟨#[]⟩] 24)).alloc (.cells #[] 5)) from (Below.refl _ _).alloc (by simp) _)
  have HX1 := Lib.hid ((hrt.mono EX1.out).mono (show Ext _ _ from (Below.refl _ _).alloc (Nat.le_refl _) (.cells #[] 5)))
  have HBV := Lib.hid (bv_oneCell t)
  have HLM := Lib.hid (show (t.map bv).length = t.length from List.length_map _)
  have HZ0 := Lib.hid (cells_two0 w [.int .u8 0, .int .i64 0, .string ⟨#[]⟩] [.int .u8 3, .int .i64 0, .string ⟨#[]⟩] 24)
  have HZ5 := Lib.hid (cells_two1 w [.int .u8 0, .int .i64 0, .string ⟨#[]⟩] [.int .u8 3, .int .i64 0, .string ⟨#[]⟩] 24)
  have HL := Lib.hid hl
  have HW := Lib.hid (show ∀ W, W = ((w.alloc (.cells #[.int .u8 0, .int .i64 0, .string ⟨#[]⟩] 24)).alloc (.cells #[.int .u8 3, .int .i64 0, .string ⟨#[]⟩] 24)) → W.heap.size = w.heap.size + 1 + 1 from fun W h => by rw [h]; exact hz)
  clear hrt hz ho hLd hl hlt
  subst hcap
  have hL1 : L = 1 := by omega
  subst hL1
  go_enter Try.func38, Try.ntmps38
  go_wp2_with (at_builtin; go_must (refine wpList_append_rd rfl (.tmp 15) (.tmp 17) 33 rfl (w.heap.size + 1 + 1) 5 i0 (.int .u8 0) 1 Try.underlying33 hi hz0 hz1 hz2 rfl _ _ _ rfl HO1.out _ _ rfl HX1.out HBV.out (by rw [HLM.out]; have := HL.out; unfold maxLen; omega) (by rw [HLM.out]; have := HL.out; omega) (by simp) ?_); intro v2 w2 hown2 hgrow2; have hrd : Rd w2 v2 t := (by have h := RdV.of_owns hown2; rwa [List.nil_append] at h); obtain ⟨a2, cap2, rfl, hx2, hy2⟩ := hrd.shape; have HRD := Lib.hid hrd; have HOB := Lib.hid (fun k hk => (hown2.lt k hk).1); have HB2 := Lib.hid (show Below (w.heap.size + 1 + 1) _ w2 from HA1.out.grown hgrow2 (by simp) (fun k hk => by cases hk; exact Nat.le_refl _)); have HP2 := Lib.hid (show Ext _ w2 from Below.mono HB2.out (by simp)); have c0 := kept_cell HZ5.out (Ext.trans HP2.out (ext_one w2 (.cells #[.slice a2 t.length cap2, .bool false] 59))) 0 _ rfl; have c1 := kept_cell HZ5.out (Ext.trans HP2.out (ext_one w2 (.cells #[.slice a2 t.length cap2, .bool false] 59))) 1 _ rfl; have c2 := kept_cell HZ5.out (Ext.trans HP2.out (ext_one w2 (.cells #[.slice a2 t.length cap2, .bool false] 59))) 2 _ rfl; clear hgrow2 hown2 hrd hx2 hy2)
  have HRF := Lib.hid (show RRef (w.heap.size + 1 + 1) (w2.alloc (.cells #[.slice a2 t.length cap2, .bool false] 59)) w2.heap.size t false from ⟨_, heap_alloc_new _ _, HRD.out.mono (ext_one w2 _), HOB.out⟩)
  refine (HCALL.out _ _ _ HRF.out).mono ?_
  rintro e w3 ⟨rfl, hr3, ho3⟩
  have hlt2 : w.heap.size + 1 < w2.heap.size := by have h1 := HP2.out.size; simp at h1; omega
  have hne2 : w.heap.size ≠ w2.heap.size := by omega
  have hne3 : w2.heap.size ≠ w.heap.size := by omega
  have hne4 : w.heap.size + 1 ≠ w2.heap.size := by omega
  have hne5 : w2.heap.size ≠ w.heap.size + 1 := by omega
  have HE3 := Lib.hid (show Ext _ w3 from Below.mono ((HB2.out.alloc (by omega) (.cells #[.slice a2 t.length cap2, .bool false] 59)).grown ho3 (by simp; omega) (fun k hk => by cases hk; omega)) (by simp))
  clear ho3
  obtain ⟨v4, hb4, hrd4, hob4⟩ := hr3
  obtain ⟨a4, cap4, rfl, _, _⟩ := hrd4.shape
  have e0 := Rdr.cell0 hb4
  have e1 := Rdr.cell1 hb4
  clear hb4
  have c0 := kept_cell HZ5.out HE3.out 0 _ rfl
  have c1 := kept_cell HZ5.out HE3.out 1 _ rfl
  have c2 := kept_cell HZ5.out HE3.out 2 _ rfl
  have d0 := kept_cell HZ0.out HE3.out 0 _ rfl
  have d1 := kept_cell HZ0.out HE3.out 1 _ rfl
  have d2 := kept_cell HZ0.out HE3.out 2 _ rfl
  have hf : ∀ j, w3.frozen? ⟨w.heap.size, j, none⟩ = false := fun j => by
    rw [frozen_ext (Ext.trans (ext_one _ _) HE3.out) (by simp)]
    unfold World.frozen?
    rw [heap_alloc_new]
    simp
  have f0 := hf 0
  have f1 := hf 1
  have f2 := hf 2
  have g0 : w3.frozen? ⟨w.heap.size + 1, 2, none⟩ = false := by
    rw [frozen_ext HE3.out (by simp)]
    unfold World.frozen?
    rw [show w.heap.size + 1 = (w.alloc (.cells #[.int .u8 0, .int .i64 0, .string ⟨#[]⟩] 24)).heap.size by simp, heap_alloc_new]
    simp
  clear hf
  have HX5 := Lib.hid (show Ext w (w3.setCell ⟨w.heap.size + 1, 2, none⟩ (.string ⟨S.toArray⟩)) from Below.setCell (Ext.trans EX1.out HE3.out) (by show w.heap.size ≤ w.heap.size + 1; omega) _)
  have HR5 := Lib.hid (show Rd (w3.setCell ⟨w.heap.size + 1, 2, none⟩ (.string ⟨S.toArray⟩)) _ _ from rd_setBelow (B := w.heap.size + 1 + 1) hrd4 hob4 (by omega))
  have HO5 := Lib.hid hob4
  have HD5 := Lib.hid (show ∀ j u, ([.int .u8 0, .int .i64 0, .string ⟨#[]⟩] : List Value)[j]? = some u → (w3.setCell ⟨w.heap.size + 1, 2, none⟩ (.string ⟨S.toArray⟩)).cell? ⟨w.heap.size, j, none⟩ = some u from fun j u hj => by
    rw [World.cell?_setCell_other]
    · exact kept_cell HZ0.out HE3.out j u hj
    · simp)
  clear hrd4 hob4
  go_wp2_with fail
  have hg := three_stored HD5.out (.int .u8 0) (.int .i64 0) (.string ⟨#[]⟩)
  have k0 := hg 0 _ rfl
  have k1 := hg 1 _ rfl
  have k2 := hg 2 _ rfl
  refine bodyPost_ret (v := .tuple #[.agg #[.int .u8 0, .int .i64 0, .string ⟨#[]⟩], .slice none 0 0, .int .i64 6]) (by simp [results, Try.results38, go_sem, k0, k1, k2]) rfl ⟨.inr ⟨HTV.out, rfl⟩, ?_⟩
  exact (show Ext w _ from Below.setCell (Below.setCell (Below.setCell HX5.out (Nat.le_refl _) _) (Nat.le_refl _) _) (Nat.le_refl _) _)

set_option maxRecDepth 100000 in
set_option maxHeartbeats 1000000 in
theorem refTake_3b_right (bb off L cap : Nat) (t : List UInt8) (w : World) (hc0 : w.cell? ⟨bb, off, none⟩ = some (.int .u8 3)) (hrt : Rd w (.slice (some ⟨bb, off, none⟩) 0 0) t) (hLd : L = t.length + 1) (hlt : bb < w.heap.size) (h2 : L ≤ cap) (_h3 : cap ≤ maxLen) (hcap : cap = 1) (hl : t.length < 1000000)
    (S : List UInt8) (m : List UInt8) (hcall : ∀ (B b : Nat) (W : World), RRef B W b t false → Calls Try.prog 60 #[.pointer (some ⟨b, 0, none⟩)] W fun e w' => e = .returned (.string ⟨S.toArray⟩) ∧ RRef B w' b m false ∧ Only b W w') (hR : ∀ W, Calls Try.prog 61 #[(⟨3, 0, S⟩ : V).val] W fun e w' => e = .returned (.bool true) ∧ Ext W w') (hTV : takeV (3 :: t) = some ((⟨3, 0, S⟩ : V), m)) :
    Calls Try.prog 38 #[.slice (some ⟨bb, off, none⟩) L cap] w (RefTook w (3 :: t)) := by
  obtain ⟨i0, hi, hz0, hz1, hz2⟩ := info_parts Try.info5
  have HCALL := Lib.hid hcall
  have HTV := Lib.hid hTV
  have HRIGHT := Lib.hid hR
  clear hcall hTV hR
  have HTL := Lib.hid hLd
  have hlne : ((L : Int) == 0) = false := by rw [beq_eq_false_iff_ne]; omega
  have hnl : ¬ L < 1 := by omega
  have hcap1 : 1 ≤ cap := by omega
  unfold maxLen at _h3
  have hc1 : (w.alloc (.cells #[.int .u8 0, .int .i64 0, .string ⟨#[]⟩] 24)).cell? ⟨bb, off, none⟩ = some (.int .u8 3) := ((ext_one w _).cell hlt).trans hc0
  have EX1 := Lib.hid (show Ext w ((w.alloc (.cells #[.int .u8 0, .int .i64 0, .string ⟨#[]⟩] 24)).alloc (.cells #[.int .u8 3, .int .i64 0, .string ⟨#[]⟩] 24)) from ext_two w _ _)
  have hz : ((w.alloc (.cells #[.int .u8 0, .int .i64 0, .string ⟨#[]⟩] 24)).alloc (.cells #[.int .u8 3, .int .i64 0, .string ⟨#[]⟩] 24)).heap.size = w.heap.size + 1 + 1 := by simp
  have ho := empty_owned ((w.alloc (.cells #[.int .u8 0, .int .i64 0, .string ⟨#[]⟩] 24)).alloc (.cells #[.int .u8 3, .int .i64 0, .string ⟨#[]⟩] 24))
  rw [hz] at ho
  have HO1 := Lib.hid ho
  have HA1 := Lib.hid (show Below (w.heap.size + 1 + 1) ((w.alloc (.cells #[.int .u8 0, .int .i64 0, .string ⟨#[]⟩] 24)).alloc (.cells #[.int .u8 3, .int .i64 0, .string ⟨#[]⟩] 24)) (((w.alloc (.cells #[.int .u8 0, .int .i64 0, .string ⟨#[]⟩] 24)).alloc (.cells #[.int .u8 3, .int .i64 0, .string ⟨#[]⟩] 24)).alloc (.cells #[] 5)) from (Below.refl _ _).alloc (by simp) _)
  have HX1 := Lib.hid ((hrt.mono EX1.out).mono (show Ext _ _ from (Below.refl _ _).alloc (Nat.le_refl _) (.cells #[] 5)))
  have HBV := Lib.hid (bv_oneCell t)
  have HLM := Lib.hid (show (t.map bv).length = t.length from List.length_map _)
  have HZ0 := Lib.hid (cells_two0 w [.int .u8 0, .int .i64 0, .string ⟨#[]⟩] [.int .u8 3, .int .i64 0, .string ⟨#[]⟩] 24)
  have HZ5 := Lib.hid (cells_two1 w [.int .u8 0, .int .i64 0, .string ⟨#[]⟩] [.int .u8 3, .int .i64 0, .string ⟨#[]⟩] 24)
  have HL := Lib.hid hl
  have HW := Lib.hid (show ∀ W, W = ((w.alloc (.cells #[.int .u8 0, .int .i64 0, .string ⟨#[]⟩] 24)).alloc (.cells #[.int .u8 3, .int .i64 0, .string ⟨#[]⟩] 24)) → W.heap.size = w.heap.size + 1 + 1 from fun W h => by rw [h]; exact hz)
  clear hrt hz ho hLd hl hlt
  subst hcap
  have hL1 : L = 1 := by omega
  subst hL1
  go_enter Try.func38, Try.ntmps38
  go_wp2_with (at_builtin; go_must (refine wpList_append_rd rfl (.tmp 15) (.tmp 17) 33 rfl (w.heap.size + 1 + 1) 5 i0 (.int .u8 0) 1 Try.underlying33 hi hz0 hz1 hz2 rfl _ _ _ rfl HO1.out _ _ rfl HX1.out HBV.out (by rw [HLM.out]; have := HL.out; unfold maxLen; omega) (by rw [HLM.out]; have := HL.out; omega) (by simp) ?_); intro v2 w2 hown2 hgrow2; have hrd : Rd w2 v2 t := (by have h := RdV.of_owns hown2; rwa [List.nil_append] at h); obtain ⟨a2, cap2, rfl, hx2, hy2⟩ := hrd.shape; have HRD := Lib.hid hrd; have HOB := Lib.hid (fun k hk => (hown2.lt k hk).1); have HB2 := Lib.hid (show Below (w.heap.size + 1 + 1) _ w2 from HA1.out.grown hgrow2 (by simp) (fun k hk => by cases hk; exact Nat.le_refl _)); have HP2 := Lib.hid (show Ext _ w2 from Below.mono HB2.out (by simp)); have c0 := kept_cell HZ5.out (Ext.trans HP2.out (ext_one w2 (.cells #[.slice a2 t.length cap2, .bool false] 59))) 0 _ rfl; have c1 := kept_cell HZ5.out (Ext.trans HP2.out (ext_one w2 (.cells #[.slice a2 t.length cap2, .bool false] 59))) 1 _ rfl; have c2 := kept_cell HZ5.out (Ext.trans HP2.out (ext_one w2 (.cells #[.slice a2 t.length cap2, .bool false] 59))) 2 _ rfl; clear hgrow2 hown2 hrd hx2 hy2)
  have HRF := Lib.hid (show RRef (w.heap.size + 1 + 1) (w2.alloc (.cells #[.slice a2 t.length cap2, .bool false] 59)) w2.heap.size t false from ⟨_, heap_alloc_new _ _, HRD.out.mono (ext_one w2 _), HOB.out⟩)
  refine (HCALL.out _ _ _ HRF.out).mono ?_
  rintro e w3 ⟨rfl, hr3, ho3⟩
  have hlt2 : w.heap.size + 1 < w2.heap.size := by have h1 := HP2.out.size; simp at h1; omega
  have hne2 : w.heap.size ≠ w2.heap.size := by omega
  have hne3 : w2.heap.size ≠ w.heap.size := by omega
  have hne4 : w.heap.size + 1 ≠ w2.heap.size := by omega
  have hne5 : w2.heap.size ≠ w.heap.size + 1 := by omega
  have HE3 := Lib.hid (show Ext _ w3 from Below.mono ((HB2.out.alloc (by omega) (.cells #[.slice a2 t.length cap2, .bool false] 59)).grown ho3 (by simp; omega) (fun k hk => by cases hk; omega)) (by simp))
  clear ho3
  obtain ⟨v4, hb4, hrd4, hob4⟩ := hr3
  obtain ⟨a4, cap4, rfl, _, _⟩ := hrd4.shape
  have e0 := Rdr.cell0 hb4
  have e1 := Rdr.cell1 hb4
  clear hb4
  have c0 := kept_cell HZ5.out HE3.out 0 _ rfl
  have c1 := kept_cell HZ5.out HE3.out 1 _ rfl
  have c2 := kept_cell HZ5.out HE3.out 2 _ rfl
  have d0 := kept_cell HZ0.out HE3.out 0 _ rfl
  have d1 := kept_cell HZ0.out HE3.out 1 _ rfl
  have d2 := kept_cell HZ0.out HE3.out 2 _ rfl
  have hf : ∀ j, w3.frozen? ⟨w.heap.size, j, none⟩ = false := fun j => by
    rw [frozen_ext (Ext.trans (ext_one _ _) HE3.out) (by simp)]
    unfold World.frozen?
    rw [heap_alloc_new]
    simp
  have f0 := hf 0
  have f1 := hf 1
  have f2 := hf 2
  have g0 : w3.frozen? ⟨w.heap.size + 1, 2, none⟩ = false := by
    rw [frozen_ext HE3.out (by simp)]
    unfold World.frozen?
    rw [show w.heap.size + 1 = (w.alloc (.cells #[.int .u8 0, .int .i64 0, .string ⟨#[]⟩] 24)).heap.size by simp, heap_alloc_new]
    simp
  clear hf
  have HX5 := Lib.hid (show Ext w (w3.setCell ⟨w.heap.size + 1, 2, none⟩ (.string ⟨S.toArray⟩)) from Below.setCell (Ext.trans EX1.out HE3.out) (by show w.heap.size ≤ w.heap.size + 1; omega) _)
  have HR5 := Lib.hid (show Rd (w3.setCell ⟨w.heap.size + 1, 2, none⟩ (.string ⟨S.toArray⟩)) _ _ from rd_setBelow (B := w.heap.size + 1 + 1) hrd4 hob4 (by omega))
  have HO5 := Lib.hid hob4
  have HX5s := Lib.hid (show Ext (w.alloc (.cells #[.int .u8 0, .int .i64 0, .string ⟨#[]⟩] 24)) (w3.setCell ⟨w.heap.size + 1, 2, none⟩ (.string ⟨S.toArray⟩)) from Below.setCell (Ext.trans (ext_one _ _) HE3.out) (by simp) _)
  have HD5 := Lib.hid (show ∀ j u, ([.int .u8 0, .int .i64 0, .string ⟨#[]⟩] : List Value)[j]? = some u → (w3.setCell ⟨w.heap.size + 1, 2, none⟩ (.string ⟨S.toArray⟩)).cell? ⟨w.heap.size, j, none⟩ = some u from fun j u hj => by
    rw [World.cell?_setCell_other]
    · exact kept_cell HZ0.out HE3.out j u hj
    · simp)
  clear hrd4 hob4
  have HC5 := Lib.hid (show ∀ j u, ([.int .u8 3, .int .i64 0, (.string ⟨S.toArray⟩)] : List Value)[j]? = some u → (w3.setCell ⟨w.heap.size + 1, 2, none⟩ (.string ⟨S.toArray⟩)).cell? ⟨w.heap.size + 1, j, none⟩ = some u from fun j u hj => by
    by_cases hji : j = 2
    · subst hji
      cases hj
      exact World.cell?_setCell_same _ _ _ (kept_cell HZ5.out HE3.out 2 _ rfl)
    · rw [World.cell?_setCell_other]
      · refine kept_cell HZ5.out HE3.out j u ?_
        match j, hj with
        | 0, hj => exact hj
        | 1, hj => first | exact hj | exact absurd rfl hji
        | 2, hj => first | exact hj | exact absurd rfl hji
      · intro hh
        simp at hh <;> omega)
  have HE5 := Lib.hid (show (w3.setCell ⟨w.heap.size + 1, 2, none⟩ (.string ⟨S.toArray⟩)).cell? ⟨w2.heap.size, 0, none⟩ = some (.slice a4 m.length cap4) from by
    rw [World.cell?_setCell_other]
    · exact e0
    · intro hh
      simp at hh <;> omega)
  have HF5 := Lib.hid (show ∀ j, (w3.setCell ⟨w.heap.size + 1, 2, none⟩ (.string ⟨S.toArray⟩)).frozen? ⟨w.heap.size, j, none⟩ = false from fun j => by
    rw [frozen_ext HX5s.out (by simp)]
    unfold World.frozen?
    rw [heap_alloc_new]
    simp)
  go_wp2_with fail
  refine (HRIGHT.out _).mono ?_
  rintro e w6 ⟨rfl, hb6⟩
  have c0 := kept_cell HC5.out hb6 0 _ rfl
  have c1 := kept_cell HC5.out hb6 1 _ rfl
  have c2 := kept_cell HC5.out hb6 2 _ rfl
  have HD0 := Lib.hid (kept_cell HD5.out hb6)
  have d0 := HD0.out 0 _ rfl
  have d1 := HD0.out 1 _ rfl
  have d2 := HD0.out 2 _ rfl
  have e0 := (hb6.cell (lt_of_cell HE5.out)).trans HE5.out
  have hf : ∀ j, w6.frozen? ⟨w.heap.size, j, none⟩ = false := fun j => by
    rw [frozen_ext hb6 (lt_of_cell (HD5.out 0 _ rfl))]
    exact HF5.out j
  have f0 := hf 0
  have f1 := hf 1
  have f2 := hf 2
  have HRR := Lib.hid (HR5.out.mono hb6)
  have HOB := HO5
  have HEX := Lib.hid (Ext.trans HX5.out hb6)
  clear hb6 hf
  go_wp2_with fail
  go_region
  go_wp2_with fail
  have hg := three_stored HD0.out (.int .u8 3) (.int .i64 0) (.string ⟨S.toArray⟩)
  have k0 := hg 0 _ rfl
  have k1 := hg 1 _ rfl
  have k2 := hg 2 _ rfl
  refine bodyPost_ret (v := .tuple #[.agg #[(.int .u8 3), (.int .i64 0), (.string ⟨S.toArray⟩)], .slice a4 m.length cap4, .int .i64 0]) (by simp [results, Try.results38, go_sem, k0, k1, k2]) rfl ⟨.inl ⟨(⟨3, 0, S⟩ : V), m, _, HTV.out, rfl, ?_⟩, ?_⟩
  · exact Rd.mono (rd_setBelow (B := w.heap.size + 1 + 1) (rd_setBelow (B := w.heap.size + 1 + 1) (rd_setBelow (B := w.heap.size + 1 + 1) HRR.out HOB.out (by omega)) HOB.out (by omega)) HOB.out (by omega)) (Ext.drew _)
  · exact Ext.trans (show Ext w _ from Below.setCell (Below.setCell (Below.setCell HEX.out (Nat.le_refl _) _) (Nat.le_refl _) _) (Nat.le_refl _) _) (Ext.drew _)

end Go.Proofs.Ytlbilmmjcfiokaa
