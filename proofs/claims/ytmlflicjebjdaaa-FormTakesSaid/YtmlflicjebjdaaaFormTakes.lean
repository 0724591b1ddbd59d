/-
  The walk of the law FormTakes.
-/
import Derived.Test.YtmlflicjebjdaaaFormLays
import Derived.Test.YtmlflicjebjdaaaTakes
import Derived.BigQuiet
import Derived.Lib.Strings
namespace Go.Proofs.Ytmlflicjebjdaaa
open Go.RowKit Go.BigFrame

theorem Both.drew {B b c : Nat} {w : World} {l : List UInt8} {bad : Bool} (h : Both B w b c l bad) : Both B w.drew b c l bad :=
  ⟨h.1, h.2.1, h.2.2.1, h.2.2.2.1, Rdr.mono h.2.2.2.2.1 (Ext.drew _), Rdr.mono h.2.2.2.2.2 (Ext.drew _)⟩

theorem Rdr.lt {T : TypeId} {B b : Nat} {w : World} {l : List UInt8} {bad : Bool} (h : RdrT T B w b l bad) : b < w.heap.size := by
  obtain ⟨_, h1, _⟩ := h
  exact (Array.getElem?_eq_some_iff.1 h1).1

theorem Both.ends {B b c : Nat} {w : World} {l : List UInt8} {bad : Bool} (h : Both B w b c l bad) : ∃ E : Int,
    Calls Try.prog 26 #[.pointer (some ⟨b, 0, none⟩)] w (fun e w' => e = .returned (.int .i64 E) ∧ w = w') ∧ Calls Try.prog 27 #[.pointer (some ⟨c, 0, none⟩)] w (fun e w' => e = .returned (.int .i64 E) ∧ w = w') :=
  ⟨_, End_all B b l bad w h.2.2.2.2.1, refEnd_any B c l bad w h.2.2.2.2.2⟩

theorem OwnB.start {base L cap k : Nat} {w : World} {a : Option Addr} (h : OwnB base w (.slice a L cap) L) (hk : k < L) : ∃ g, a = some ⟨g, 0, none⟩ := by
  obtain ⟨xs, ho, _⟩ := h
  obtain ⟨g, c, e, _⟩ := owns_shape ho (by omega)
  simp only [Value.slice.injEq] at e
  exact ⟨g, e.1⟩

set_option maxRecDepth 100000 in
set_option maxHeartbeats 4000000 in
theorem formTakes_cells (v : Value) (l0 : List UInt8) (bo : Option Addr) (ks : List UInt8) (M capB : Nat) (w : World) (hr : Rd w v l0) (hM : M = ks.length) (_hB : M ≤ capB) (_hB2 : capB ≤ 9223372036854775807)
    (cb : ∀ i u, (ks.map bv)[i]? = some u → ∃ x, bo = some x ∧ w.cell? (x.add i) = some u) :
    Calls Try.prog 4 #[v, .slice bo M capB] w fun e w' => e = .returned (.bool true) ∧ Below w.heap.size w w' := by
  obtain ⟨i0, hi, hz0, hz1, hz2⟩ := info_parts Try.info5
  have HR := Lib.hid hr
  have HM := Lib.hid hM
  have CB := Lib.hid cb
  obtain ⟨l1, hl1⟩ : ∃ l1, l1 = l0.take 3000 := ⟨_, rfl⟩
  have hll : l1.length ≤ 3000 := by rw [hl1, List.length_take]; omega
  have HL := Lib.hid hl1
  have HBV := Lib.hid (bv_oneCell l1)
  have HLM := Lib.hid (show (l1.map bv).length = l1.length from List.length_map _)
  clear hr cb hl1 hM
  go_enter Try.func4, Try.ntmps4
  go_wp2_with fail
  refine (shown_any _).mono ?_
  rintro e w1 ⟨rfl, hb1⟩
  have H1 := Lib.hid hb1
  clear hb1
  go_wp2_with fail
  have HA1 := Lib.hid ((Below.refl w1.heap.size w1).alloc (Nat.le_refl _) (.cells #[] 5))
  have HO1 := Lib.hid (empty_owned w1)
  refine (few_any v l0 _ ((HR.out.mono H1.out).mono HA1.out)).mono ?_
  rintro e w' ⟨⟨x, rfl, hcx, hrx⟩, rfl⟩
  rw [← HL.out] at hrx
  have HX := Lib.hid hrx
  clear hrx hcx
  go_wp2_with (at_builtin; go_loud (refine wpList_append_rd rfl (.tmp 14) (.tmp 16) 22 rfl w1.heap.size 5 i0 (.int .u8 0) 1 Try.underlying22 hi hz0 hz1 hz2 rfl _ _ _ rfl HO1.out _ _ rfl HX.out HBV.out (by rw [HLM.out]; unfold maxLen; omega) (by rw [HLM.out]; omega) (by simp) ?_); intro v2 w2 hown2 hgrow2)
  simp only [Nat.zero_add, List.nil_append] at hown2
  have HB2 := Lib.hid (show Below w1.heap.size w1 w2 from HA1.out.grown hgrow2 (by simp) (fun k hk => by cases hk; exact Nat.le_refl _))
  have HO2 := Lib.hid hown2
  have HR2 := Lib.hid (show Rd w2 v2 l1 from RdV.of_owns hown2)
  obtain ⟨a2, cap2, rfl, hcap2, hmax2⟩ := HR2.out.shape
  clear hown2 hgrow2
  refine (New_any _ l1 _ HR2.out (by omega)).mono ?_
  rintro e w3 ⟨b, rfl, hbb, hr3, hbel3⟩
  have HR3 := Lib.hid hr3
  have HB3 := Lib.hid hbel3
  have HX3 := Lib.hid (HR2.out.mono hbel3)
  have HA3 := Lib.hid ((Below.refl w3.heap.size w3).alloc (Nat.le_refl _) (.cells #[] 5))
  have HO3 := Lib.hid (empty_owned w3)
  clear hr3 hbel3
  go_wp2_with (at_builtin; go_loud (refine wpList_append_rd rfl (.tmp 20) (.tmp 21) 22 rfl w3.heap.size 5 i0 (.int .u8 0) 1 Try.underlying22 hi hz0 hz1 hz2 rfl _ _ _ rfl HO3.out _ _ rfl (HX3.out.mono HA3.out) HBV.out (by rw [HLM.out]; unfold maxLen; omega) (by rw [HLM.out]; omega) (by simp) ?_); intro v4 w4 hown4 hgrow4; obtain ⟨a4, cap4, rfl, hcap4, hmax4⟩ := Rd.shape (show Rd w4 v4 l1 from RdV.of_owns hown4))
  have HB4 := Lib.hid (show Below w3.heap.size w3 w4 from HA3.out.grown hgrow4 (by simp) (fun k hk => by cases hk; exact Nat.le_refl _))
  have hs3 := HB3.out.size
  have hs4 := HB4.out.size
  have HBO0 := Lib.hid (show Both w2.heap.size (w4.alloc (.cells #[.slice a4 l1.length cap4, .bool false] 34)) b w4.heap.size l1 false from
    ⟨by have := Rdr.lt HR3.out; omega, hbb, by omega, fun h => (by cases h), Rdr.mono HR3.out ((HB4.out.alloc hs4 _)),
      ⟨_, heap_alloc_new w4 _, Rd.mono (show Rd w4 _ l1 from RdV.of_owns hown4) ((Below.refl _ _).alloc (Nat.le_refl _) _), fun k hk => by have := (hown4.lt k hk).1; omega⟩⟩)
  have HOX0 := Lib.hid (show OwnB w1.heap.size (w4.alloc (.cells #[.slice a4 l1.length cap4, .bool false] 34)) (.slice a2 l1.length cap2) l1.length from OwnB.of_bytes (owns_later (by have := HO2.out; rwa [HLM.out] at this) (Ext.trans HB3.out (HB4.out.alloc hs4 _))))
  have HBE0 := Lib.hid (show Below w1.heap.size w1 (w4.alloc (.cells #[.slice a4 l1.length cap4, .bool false] 34)) from (HB2.out.trans (HB3.out.mono HB2.out.size)).trans ((HB4.out.alloc hs4 _).mono (by have := HB2.out.size; omega)))
  have HG := Lib.hid (show ∀ g, a2 = some ⟨g, 0, none⟩ → g < w2.heap.size from fun g e => (HO2.out.lt g (by rw [e]; rfl)).2)
  have HBS := Lib.hid HB2.out.size
  clear hown4 hgrow4 hs3 hs4 HR3 HB3 HB4 HX3 HA3 HO3 HO2 HR2 HO1 HA1 HX HB2 hbb
  obtain ⟨B, hBd⟩ : ∃ B, B = w2.heap.size := ⟨_, rfl⟩
  rw [← hBd] at HBO0 HG HBS
  generalize w4.heap.size = c at *
  unfold maxLen at hmax2
  go_loopw [29] (fun i wr => ∃ k : Nat, k ≤ l1.length ∧ i = .int .i64 k ∧ OwnB w1.heap.size wr (.slice a2 l1.length cap2) l1.length ∧ Both B wr b c l1 false ∧ Below w1.heap.size w1 wr) (fun i _ => l1.length - (intOf i).toNat)
  case atStart => exact ⟨0, Nat.zero_le _, rfl, HOX0.out, HBO0.out, HBE0.out⟩
  case round =>
    obtain ⟨k, hk, rfl, hox, hbo, hbe⟩ := hrel
    have HOX := Lib.hid hox
    have HBO := Lib.hid hbo
    have HBE := Lib.hid hbe
    clear hbo hbe
    by_cases hlt : k < l1.length
    · obtain ⟨g, rfl⟩ := hox.start hlt
      obtain ⟨z, hz⟩ := hox.at hlt
      have hf := hox.free k
      clear hox
      go_wp2_with fail
      go_roundw
      case rel => exact ⟨k + 1, by omega, by go_num, HOX.out.put k _, HBO.out.setBelow (HG.out g rfl), HBE.out.setCell HOX.out.lt.1 _⟩
      case measure => simp [intOf]; omega
    · clear hox
      have HBOA := Lib.hid HBO.out
      have HBEA := Lib.hid HBE.out
      clear HBO HBE
      go_wp2_with fail
      go_loopw [41] (fun i wr => ∃ k : Nat, k ≤ M ∧ i = .int .i64 k ∧ ∃ (l : List UInt8) (bad : Bool), Both B wr b c l bad ∧ Below w1.heap.size w1 wr) (fun i _ => M - (intOf i).toNat)
      case atStart => exact ⟨0, Nat.zero_le _, rfl, l1, false, HBOA.out, HBEA.out⟩
      case round =>
        obtain ⟨j, hj, rfl, l, bad, hbo, hbe⟩ := hrel
        have HBO := Lib.hid hbo
        have HBE := Lib.hid hbe
        clear hbo hbe HBOA HBEA
        by_cases hlt2 : j < M
        · by_cases h200 : 200 ≤ j
          · have hd : decide ((200 : Int) ≤ j) = true := decide_eq_true (by omega)
            have hjs : j < ks.length := by have := HM.out; omega
            obtain ⟨xx, rfl, hc⟩ := CB.out j (bv ks[j]) (by rw [List.getElem?_map, List.getElem?_eq_getElem hjs]; rfl)
            have hcj := (HBE.out.mono H1.out.size |> fun h => H1.out.trans h).cell (p := xx.add j) (lt_of_cell hc)
            rw [hc] at hcj
            clear hc
            unfold bv at hcj
            go_wp2_with fail
            go_ret
            exact ⟨rfl, H1.out.trans (HBE.out.mono H1.out.size)⟩
          · have hd : decide ((200 : Int) ≤ j) = false := decide_eq_false (by omega)
            have hjs : j < ks.length := by have := HM.out; omega
            obtain ⟨xx, rfl, hc⟩ := CB.out j (bv ks[j]) (by rw [List.getElem?_map, List.getElem?_eq_getElem hjs]; rfl)
            have hcj := (H1.out.trans (HBE.out.mono H1.out.size)).cell (p := xx.add j) (lt_of_cell hc)
            rw [hc] at hcj
            clear hc
            unfold bv at hcj
            generalize (ks[j]).toNat = sn at hcj
            by_cases s0 : sn % 3 = 0
            · have hs0 : (((sn : Int) % 3) == 0) = true := by rw [beq_iff_eq]; omega
              go_wp2_with fail
              refine (RNum_all B b l bad HBO.out.2.2.2.1 _ HBO.out.2.2.2.2.1).mono ?_
              rintro e wa ⟨rfl, hra, hoa⟩
              have HRA := Lib.hid hra
              have HOA := Lib.hid hoa
              clear hra hoa
              go_wp2_with fail
              refine (refRNum_all B c l bad HBO.out.2.2.2.1 _ (HBO.out.other HOA.out)).mono ?_
              rintro e wb ⟨rfl, hrb, hob⟩
              have HB2 := Lib.hid (HBO.out.step (tn_bad l bad) HRA.out HOA.out hrb hob)
              have BE2 := Lib.hid (HBO.out.below HBS.out (Nat.le_refl _) HBE.out HOA.out hob)
              clear hrb hob HRA HOA
              generalize (tn l bad).2.1 = l' at HB2
              generalize (tn l bad).2.2 = bad' at HB2
              generalize (tn l bad).1 = res
              have BD := Lib.hid HB2.out.drew
              obtain ⟨u8, hu1, hu2, _⟩ := BD.out.2.2.2.2.2
              obtain ⟨a8, cap8, rfl, _, _⟩ := hu2.shape
              have hf0 : ∀ z : Later Ext wb.drew, z.val.cell? ⟨c, 0, none⟩ = some (.slice a8 l'.length cap8) := fun z => by rw [z.ext.cell (p := ⟨c, 0, none⟩) (lt_of_cell (Rdr.cell0 hu1))]; exact Rdr.cell0 hu1
              have hf1 : ∀ z : Later Ext wb.drew, z.val.cell? ⟨c, 1, none⟩ = some (.bool bad') := fun z => by rw [z.ext.cell (p := ⟨c, 1, none⟩) (lt_of_cell (Rdr.cell1 hu1))]; exact Rdr.cell1 hu1
              clear hu1 hu2
              obtain ⟨E, he1, he2⟩ := BD.out.ends
              have HE1 := Lib.hid he1
              have HE2 := Lib.hid he2
              clear he1 he2
              go_wp2_with fail
              refine wp_region_segs Ext Ext.keeps [([0, 1, 2, 3, 5, 6, 7, 8], some 4), ([9, 10, 11, 12, 14, 15, 16, 17, 18], some 13), ([19, 20, 21, 22, 24], some 23), ([], some 25), ([26, 27], none)] (by kernel_rfl) (by kernel_rfl) (fun c a a' w e h => (by exact ⟨e ▸ h.1, h.2⟩)) ?_
              simp only [pickSegs, pickOps, List.map_cons, List.map_nil, Option.map_some, Option.map_none, Option.getD_some, List.getElem?_toArray, List.getElem?_cons_zero, List.getElem?_cons_succ]
              refine wpSegs_some fun K hK => ?_
              repeat go_big_quiet_step (fail)
              refine wpQuiet_nil ?_
              go_wp2_with fail
              refine (Bad_any B b l' bad' _ BD.out.2.2.2.2.1).mono ?_
              rintro e wc ⟨rfl, rfl⟩
              go_wp2_with fail
              refine ⟨Below.refl _ _, hK _ _ ?_⟩
              clear hK K
              refine wpSegs_some fun K hK => ?_
              repeat go_big_quiet_step (fail)
              refine wpQuiet_nil ?_
              go_wp2_with fail
              refine (Left_all B b l' bad' BD.out.2.2.2.1 _ BD.out.2.2.2.2.1).mono ?_
              rintro e wc ⟨rfl, rfl⟩
              go_wp2_with fail
              refine ⟨Below.refl _ _, hK _ _ ?_⟩
              clear hK K
              refine wpSegs_some fun K hK => ?_
              repeat go_big_quiet_step (fail)
              refine wpQuiet_nil ?_
              go_wp2_with fail
              refine (HE1.out).mono ?_
              rintro e wc ⟨rfl, rfl⟩
              go_wp2_with fail
              refine ⟨Below.refl _ _, hK _ _ ?_⟩
              clear hK K
              refine wpSegs_some fun K hK => ?_
              repeat go_big_quiet_step (fail)
              refine wpQuiet_nil ?_
              go_wp2_with fail
              refine (HE2.out).mono ?_
              rintro e wc ⟨rfl, rfl⟩
              go_wp2_with fail
              refine ⟨Below.refl _ _, hK _ _ ?_⟩
              clear hK K
              refine wpSegs_none ?_
              repeat go_big_quiet_step (fail)
              refine wpQuiet_nil ?_
              refine wpSegs_nil ?_
              clear hf0 hf1
              go_wp2_with fail
              go_roundw
              case rel => exact ⟨j + 1, by omega, by go_num, l', bad', BD.out, BE2.out.drew⟩
              case measure => simp [intOf]; omega
            · by_cases s1 : sn % 3 = 1
              · have hs0 : (((sn : Int) % 3) == 0) = false := by rw [beq_eq_false_iff_ne]; omega
                have hs1 : (((sn : Int) % 3) == 1) = true := by rw [beq_iff_eq]; omega
                go_wp2_with fail
                refine (RInt_all B b l bad HBO.out.2.2.2.1 _ HBO.out.2.2.2.2.1).mono ?_
                rintro e wa ⟨rfl, hra, hoa⟩
                have HRA := Lib.hid hra
                have HOA := Lib.hid hoa
                clear hra hoa
                go_wp2_with fail
                refine (refRInt_all B c l bad HBO.out.2.2.2.1 _ (HBO.out.other HOA.out)).mono ?_
                rintro e wb ⟨rfl, hrb, hob⟩
                have HB2 := Lib.hid (HBO.out.step (tn_bad l bad) HRA.out HOA.out hrb hob)
                have BE2 := Lib.hid (HBO.out.below HBS.out (Nat.le_refl _) HBE.out HOA.out hob)
                clear hrb hob HRA HOA
                generalize (tn l bad).2.1 = l' at HB2
                generalize (tn l bad).2.2 = bad' at HB2
                generalize (tn l bad).1 = res
                have BD := Lib.hid HB2.out.drew
                obtain ⟨u8, hu1, hu2, _⟩ := BD.out.2.2.2.2.2
                obtain ⟨a8, cap8, rfl, _, _⟩ := hu2.shape
                have hf0 : ∀ z : Later Ext wb.drew, z.val.cell? ⟨c, 0, none⟩ = some (.slice a8 l'.length cap8) := fun z => by rw [z.ext.cell (p := ⟨c, 0, none⟩) (lt_of_cell (Rdr.cell0 hu1))]; exact Rdr.cell0 hu1
                have hf1 : ∀ z : Later Ext wb.drew, z.val.cell? ⟨c, 1, none⟩ = some (.bool bad') := fun z => by rw [z.ext.cell (p := ⟨c, 1, none⟩) (lt_of_cell (Rdr.cell1 hu1))]; exact Rdr.cell1 hu1
                clear hu1 hu2
                obtain ⟨E, he1, he2⟩ := BD.out.ends
                have HE1 := Lib.hid he1
                have HE2 := Lib.hid he2
                clear he1 he2
                go_wp2_with fail
                refine wp_region_segs Ext Ext.keeps [([0, 1, 2, 3, 5, 6, 7, 8], some 4), ([9, 10, 11, 12, 14, 15, 16, 17, 18], some 13), ([19, 20, 21, 22, 24], some 23), ([], some 25), ([26, 27], none)] (by kernel_rfl) (by kernel_rfl) (fun c a a' w e h => (by exact ⟨e ▸ h.1, h.2⟩)) ?_
                simp only [pickSegs, pickOps, List.map_cons, List.map_nil, Option.map_some, Option.map_none, Option.getD_some, List.getElem?_toArray, List.getElem?_cons_zero, List.getElem?_cons_succ]
                refine wpSegs_some fun K hK => ?_
                repeat go_big_quiet_step (fail)
                refine wpQuiet_nil ?_
                go_wp2_with fail
                refine (Bad_any B b l' bad' _ BD.out.2.2.2.2.1).mono ?_
                rintro e wc ⟨rfl, rfl⟩
                go_wp2_with fail
                refine ⟨Below.refl _ _, hK _ _ ?_⟩
                clear hK K
                refine wpSegs_some fun K hK => ?_
                repeat go_big_quiet_step (fail)
                refine wpQuiet_nil ?_
                go_wp2_with fail
                refine (Left_all B b l' bad' BD.out.2.2.2.1 _ BD.out.2.2.2.2.1).mono ?_
                rintro e wc ⟨rfl, rfl⟩
                go_wp2_with fail
                refine ⟨Below.refl _ _, hK _ _ ?_⟩
                clear hK K
                refine wpSegs_some fun K hK => ?_
                repeat go_big_quiet_step (fail)
                refine wpQuiet_nil ?_
                go_wp2_with fail
                refine (HE1.out).mono ?_
                rintro e wc ⟨rfl, rfl⟩
                go_wp2_with fail
                refine ⟨Below.refl _ _, hK _ _ ?_⟩
                clear hK K
                refine wpSegs_some fun K hK => ?_
                repeat go_big_quiet_step (fail)
                refine wpQuiet_nil ?_
                go_wp2_with fail
                refine (HE2.out).mono ?_
                rintro e wc ⟨rfl, rfl⟩
                go_wp2_with fail
                refine ⟨Below.refl _ _, hK _ _ ?_⟩
                clear hK K
                refine wpSegs_none ?_
                repeat go_big_quiet_step (fail)
                refine wpQuiet_nil ?_
                refine wpSegs_nil ?_
                clear hf0 hf1
                go_wp2_with fail
                go_roundw
                case rel => exact ⟨j + 1, by omega, by go_num, l', bad', BD.out, BE2.out.drew⟩
                case measure => simp [intOf]; omega
              · have hs0 : (((sn : Int) % 3) == 0) = false := by rw [beq_eq_false_iff_ne]; omega
                have hs1 : (((sn : Int) % 3) == 1) = false := by rw [beq_eq_false_iff_ne]; omega
                go_wp2_with fail
                refine (RText_all B b l bad HBO.out.2.2.2.1 _ HBO.out.2.2.2.2.1).mono ?_
                rintro e wa ⟨rfl, hra, hoa⟩
                have HRA := Lib.hid hra
                have HOA := Lib.hid hoa
                clear hra hoa
                go_wp2_with fail
                refine (refRText_all B c l bad HBO.out.2.2.2.1 _ (HBO.out.other HOA.out)).mono ?_
                rintro e wb ⟨rfl, hrb, hob⟩
                have HB2 := Lib.hid (HBO.out.step (tt_bad l bad) HRA.out HOA.out hrb hob)
                have BE2 := Lib.hid (HBO.out.below HBS.out (Nat.le_refl _) HBE.out HOA.out hob)
                clear hrb hob HRA HOA
                generalize (tt l bad).2.1 = l' at HB2
                generalize (tt l bad).2.2 = bad' at HB2
                generalize (tt l bad).1 = res
                have BD := Lib.hid HB2.out.drew
                obtain ⟨u8, hu1, hu2, _⟩ := BD.out.2.2.2.2.2
                obtain ⟨a8, cap8, rfl, _, _⟩ := hu2.shape
                have hf0 : ∀ z : Later Ext wb.drew, z.val.cell? ⟨c, 0, none⟩ = some (.slice a8 l'.length cap8) := fun z => by rw [z.ext.cell (p := ⟨c, 0, none⟩) (lt_of_cell (Rdr.cell0 hu1))]; exact Rdr.cell0 hu1
                have hf1 : ∀ z : Later Ext wb.drew, z.val.cell? ⟨c, 1, none⟩ = some (.bool bad') := fun z => by rw [z.ext.cell (p := ⟨c, 1, none⟩) (lt_of_cell (Rdr.cell1 hu1))]; exact Rdr.cell1 hu1
                clear hu1 hu2
                obtain ⟨E, he1, he2⟩ := BD.out.ends
                have HE1 := Lib.hid he1
                have HE2 := Lib.hid he2
                clear he1 he2
                go_wp2_with fail
                refine wp_region_segs Ext Ext.keeps [([0, 1, 2, 3, 5, 6, 7, 8], some 4), ([9, 10, 11, 12, 14, 15, 16, 17, 18], some 13), ([19, 20, 21, 22, 24], some 23), ([], some 25), ([26, 27], none)] (by kernel_rfl) (by kernel_rfl) (fun c a a' w e h => (by exact ⟨e ▸ h.1, h.2⟩)) ?_
                simp only [pickSegs, pickOps, List.map_cons, List.map_nil, Option.map_some, Option.map_none, Option.getD_some, List.getElem?_toArray, List.getElem?_cons_zero, List.getElem?_cons_succ]
                refine wpSegs_some fun K hK => ?_
                repeat go_big_quiet_step (fail)
                refine wpQuiet_nil ?_
                go_wp2_with fail
                refine (Bad_any B b l' bad' _ BD.out.2.2.2.2.1).mono ?_
                rintro e wc ⟨rfl, rfl⟩
                go_wp2_with fail
                refine ⟨Below.refl _ _, hK _ _ ?_⟩
                clear hK K
                refine wpSegs_some fun K hK => ?_
                repeat go_big_quiet_step (fail)
                refine wpQuiet_nil ?_
                go_wp2_with fail
                refine (Left_all B b l' bad' BD.out.2.2.2.1 _ BD.out.2.2.2.2.1).mono ?_
                rintro e wc ⟨rfl, rfl⟩
                go_wp2_with fail
                refine ⟨Below.refl _ _, hK _ _ ?_⟩
                clear hK K
                refine wpSegs_some fun K hK => ?_
                repeat go_big_quiet_step (fail)
                refine wpQuiet_nil ?_
                go_wp2_with fail
                refine (HE1.out).mono ?_
                rintro e wc ⟨rfl, rfl⟩
                go_wp2_with fail
                refine ⟨Below.refl _ _, hK _ _ ?_⟩
                clear hK K
                refine wpSegs_some fun K hK => ?_
                repeat go_big_quiet_step (fail)
                refine wpQuiet_nil ?_
                go_wp2_with fail
                refine (HE2.out).mono ?_
                rintro e wc ⟨rfl, rfl⟩
                go_wp2_with fail
                refine ⟨Below.refl _ _, hK _ _ ?_⟩
                clear hK K
                refine wpSegs_none ?_
                repeat go_big_quiet_step (fail)
                refine wpQuiet_nil ?_
                refine wpSegs_nil ?_
                clear hf0 hf1
                go_wp2_with fail
                go_roundw
                case rel => exact ⟨j + 1, by omega, by go_num, l', bad', BD.out, BE2.out.drew⟩
                case measure => simp [intOf]; omega
        · have hjM : decide ((j : Int) < M) = false := decide_eq_false (by omega)
          go_wp2_with fail
          go_ret
          exact ⟨rfl, H1.out.trans (HBE.out.mono H1.out.size)⟩

theorem formTakes_walk (v : Value) (l : List UInt8) (u : Value) (k : List UInt8) (w : World) (hr : Rd w v l) (hk : Rd w u k) :
    Calls Try.prog 4 #[v, u] w fun e w' => e = .returned (.bool true) ∧ Below w.heap.size w w' := by
  obtain ⟨bo, capB, rfl, hB, hB2, cb⟩ := RdV.cellsAt hk
  unfold maxLen at hB2
  exact formTakes_cells v l bo k _ capB w hr (by rw [List.length_map]) hB (by omega) cb

end Go.Proofs.Ytmlflicjebjdaaa
