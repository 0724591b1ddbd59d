/-
  The walk of the law ZoneParts.
-/
import Derived.Test.YtlbilmmjcfiokaaZoneEx
namespace Go.Proofs.Ytlbilmmjcfiokaa
open Go.RowKit Go.BigFrame

theorem vals_oneCell (l : List V) : ∀ u ∈ l.flatMap V.cells, u.oneCell' = true := by
  intro u hu
  obtain ⟨s, _, h⟩ := List.mem_flatMap.1 hu
  exact val_oneCell s u h
/-- append(l, x...) of values. -/
theorem wpList_append_vals {ops : Array Oper} {rest : List Oper} {o : Oper} {a : Act} {Q : Exit → Act → World → Prop} {w : World} (hgd : o.guard = none) (s x : Operand)
    (ho : o.op = .call { callee := .builtin .append, args := #[s, x], argTypes := #[22, 22] })
    (base : Nat) (v : Value) (ps : List V) (hs : a.eval s = v) (hown : w.ownsRow base 24 3 v ps.length (ps.flatMap V.cells))
    (u : Value) (l : List V) (hx : a.eval x = u) (hu : RdVals w u l) (hnil : NilOk u) (hp : ps.length + l.length ≤ 1000000) (hbase : base ≤ w.heap.size)
    (h : ∀ v' w', w'.ownsRow base 24 3 v' (ps ++ l).length ((ps ++ l).flatMap V.cells) → Below base w w' → wpList Try.prog ops Q rest (a.put o.dst v') w') :
    wpList Try.prog ops Q (o :: rest) a w := by
  obtain ⟨i0, hi, hz0, hz1, hz2⟩ := info_parts Try.info_val
  obtain ⟨ao, cap, rfl, h2, h3, h4⟩ := hu
  cases ao with
  | none =>
    have hl0 : l = [] := by
      by_cases h0 : 0 < l.length
      · obtain ⟨g, off, he, _⟩ := h4 0 h0
        cases he
      · exact List.length_eq_zero_iff.1 (by omega)
    subst hl0
    obtain ⟨-, rfl⟩ := hnil _ _ rfl
    refine wpList_append_own_none hgd s x 22 ho base 24 i0 3 Try.underlying22 hi v _ _ hs hown hx (h v w ?_ (Below.refl _ _))
    simpa using hown
  | some ad =>
    have hcells : ∀ i u, (l.flatMap V.cells)[i]? = some u → w.cell? (ad.add i) = some u := fun i u hu => by
      have hi2 : i < l.length * 3 := by
        have := (List.getElem?_eq_some_iff.1 hu).1
        rwa [valCells_length] at this
      have hj : i / 3 < l.length := by omega
      obtain ⟨g, off, he, hc⟩ := h4 (i / 3) hj
      simp only [Option.some.injEq] at he
      subst he
      rw [add_at]
      have e : i = i / 3 * 3 + i % 3 := by omega
      have hu' := hu
      rw [e] at hu'
      rw [valCells l (i / 3) hj (i % 3) (Nat.mod_lt _ (by decide))] at hu'
      rw [show off + i = off + i / 3 * 3 + i % 3 by omega]
      exact hc _ _ hu'
    refine wpList_append_own _ hgd s x 22 ho base 24 i0 _ 3 32 Try.underlying22 hi hz0 hz1 hz2 rfl (by decide) v ps.length _ hs hown ad l.length cap (l.flatMap V.cells) hx (valCells_length l) hcells (vals_oneCell l) (by unfold maxLen; omega) (by omega) hbase fun v' w' k1 k2 _ => h v' w' ?_ ?_
    · rw [List.length_append, List.flatMap_append]
      exact k1
    · exact (Below.refl base w).grown k2 hbase (fun b hb => (hown.lt b hb).1)
theorem empty_vals (w : World) : (w.alloc (.cells #[] 24)).ownsRow w.heap.size 24 3 (.slice (some ⟨w.heap.size, 0, none⟩) 0 0) 0 [] := World.ownsRow_made w #[] 0 (Nat.le_refl _) (by simp [maxLen]) rfl

set_option maxRecDepth 100000 in
set_option maxHeartbeats 8000000 in
theorem zoneParts_walk (u1 : Value) (l1 : List V) (u2 : Value) (l2 : List V) (w : World) (hu1 : RdVals w u1 l1) (hf10 : ∀ v ∈ l1, v.fits ∧ v.s.length ≤ maxLen) (hz1 : NilOk u1) (hu2 : RdVals w u2 l2) (hf20 : ∀ v ∈ l2, v.fits ∧ v.s.length ≤ maxLen) (hz2 : NilOk u2) :
    Calls Try.prog 7 #[u1, u2] w fun e w' => e = .returned (.bool true) ∧ Below w.heap.size w w' := by
  have hf1 : ∀ v ∈ l1, v.fits := fun v hv => (hf10 v hv).1
  have hf2 : ∀ v ∈ l2, v.fits := fun v hv => (hf20 v hv).1
  have HU1 := Lib.hid hu1
  have HU2 := Lib.hid hu2
  have HZ1 := Lib.hid hz1
  have HZ2 := Lib.hid hz2
  have g1 : ∀ y ∈ fewZ l1, y.fits ∧ y.s.length ≤ 5000 := fun y hy => ⟨hf1 y (fewZ_mem hy).1, Nat.le_trans (fewZ_mem hy).2 (by decide)⟩
  have g2 : ∀ y ∈ fewZ l2, y.fits ∧ y.s.length ≤ 5000 := fun y hy => ⟨hf2 y (fewZ_mem hy).1, Nat.le_trans (fewZ_mem hy).2 (by decide)⟩
  have n1 := fewZ_len l1
  have n2 := fewZ_len l2
  have HF1 := Lib.hid (fun W (h : RdVals W u1 l1) => few13_any u1 l1 W h)
  have HF2 := Lib.hid (fun W (h : RdVals W u2 l2) => few13_any u2 l2 W h)
  generalize fewZ l1 = x at g1 n1 HF1
  generalize fewZ l2 = y at g2 n2 HF2
  have g3 : ∀ v ∈ x ++ y, v.fits ∧ v.s.length ≤ 5000 := fun v hv => (List.mem_append.1 hv).elim (g1 v) (g2 v)
  have HN := Lib.hid (And.intro n1 n2)
  have HO1 := Lib.hid (fun v W (h : RdVals W v x) => pOfZ_any v x W h g1)
  have HO2 := Lib.hid (fun v W (h : RdVals W v y) => pOfZ_any v y W h g2)
  have HO3 := Lib.hid (fun v W (h : RdVals W v (x ++ y)) => pOfZ_any v (x ++ y) W h g3)
  have p1 : (ofZ x).fits ∧ (ofZ x).small 5000 := ⟨ofZ_fits fun v hv => (g1 v hv).1, ofZ_small fun v hv => (g1 v hv).2⟩
  have p2 : (ofZ y).fits ∧ (ofZ y).small 5000 := ⟨ofZ_fits fun v hv => (g2 v hv).1, ofZ_small fun v hv => (g2 v hv).2⟩
  have p3 : (ofZ (x ++ y)).fits ∧ (ofZ (x ++ y)).small 5000 := ⟨ofZ_fits fun v hv => (g3 v hv).1, ofZ_small fun v hv => (g3 v hv).2⟩
  have p0 : Zo.zero.fits ∧ Zo.zero.small 5000 := ⟨zero_fits, Nat.zero_le _, Nat.zero_le _⟩
  have HM1 := Lib.hid (fun W => pMergeZ_any (ofZ x) (ofZ y) W p1.1 p2.1 p1.2 p2.2)
  have HM2 := Lib.hid (fun W => pMergeZ_any (ofZ y) (ofZ x) W p2.1 p1.1 p2.2 p1.2)
  have HM3 := Lib.hid (fun W => pMergeZ_any (ofZ (x ++ y)) Zo.zero W p3.1 p0.1 p3.2 p0.2)
  have HM4 := Lib.hid (fun W => pMergeZ_any Zo.zero (ofZ (x ++ y)) W p0.1 p3.1 p0.2 p3.2)
  rw [merge_parts (by omega)] at HM1
  rw [merge_turned (by omega)] at HM2
  rw [merge_none (by rw [List.length_append]; omega)] at HM3
  rw [none_merge (by rw [List.length_append]; omega)] at HM4
  generalize ofZ (x ++ y) = z at HM1 HM2 HM3 HM4 HO3
  generalize ofZ x = p at HM1 HM2 HO1
  generalize ofZ y = q at HM1 HM2 HO2
  obtain ⟨⟨pak, pan, pas⟩, ⟨pbk, pbn, pbs⟩, pn, pm⟩ := p
  obtain ⟨⟨qak, qan, qas⟩, ⟨qbk, qbn, qbs⟩, qn, qm⟩ := q
  obtain ⟨⟨zak, zan, zas⟩, ⟨zbk, zbn, zbs⟩, zn, zm⟩ := z
  have HQZ := Lib.hid (show ∀ W, (binOp .eql 26 (.agg #[.int .u8 zak, .int .i64 zan, .string ⟨zas.toArray⟩, .int .u8 zbk, .int .i64 zbn, .string ⟨zbs.toArray⟩, .int .i64 zn, .int .i64 zm]) (.agg #[.int .u8 zak, .int .i64 zan, .string ⟨zas.toArray⟩, .int .u8 zbk, .int .i64 zbn, .string ⟨zbs.toArray⟩, .int .i64 zn, .int .i64 zm])).run Try.prog W = .ok (.bool true) W from fun W => eq_zone_self ⟨⟨zak, zan, zas⟩, ⟨zbk, zbn, zbs⟩, zn, zm⟩ W)
  replace HM3 := Lib.hid (show ∀ W, Calls Try.prog 14 #[(.agg #[.int .u8 zak, .int .i64 zan, .string ⟨zas.toArray⟩, .int .u8 zbk, .int .i64 zbn, .string ⟨zbs.toArray⟩, .int .i64 zn, .int .i64 zm]), (.agg #[.int .u8 0, .int .i64 0, .string ⟨#[]⟩, .int .u8 0, .int .i64 0, .string ⟨#[]⟩, .int .i64 0, .int .i64 0])] W fun e w' => e = .returned (.agg #[.int .u8 zak, .int .i64 zan, .string ⟨zas.toArray⟩, .int .u8 zbk, .int .i64 zbn, .string ⟨zbs.toArray⟩, .int .i64 zn, .int .i64 zm]) ∧ Ext W w' from HM3.out)
  replace HM4 := Lib.hid (show ∀ W, Calls Try.prog 14 #[(.agg #[.int .u8 0, .int .i64 0, .string ⟨#[]⟩, .int .u8 0, .int .i64 0, .string ⟨#[]⟩, .int .i64 0, .int .i64 0]), (.agg #[.int .u8 zak, .int .i64 zan, .string ⟨zas.toArray⟩, .int .u8 zbk, .int .i64 zbn, .string ⟨zbs.toArray⟩, .int .i64 zn, .int .i64 zm])] W fun e w' => e = .returned (.agg #[.int .u8 zak, .int .i64 zan, .string ⟨zas.toArray⟩, .int .u8 zbk, .int .i64 zbn, .string ⟨zbs.toArray⟩, .int .i64 zn, .int .i64 zm]) ∧ Ext W w' from HM4.out)
  unfold Zo.val at HM1 HM2 HO1 HO2 HO3
  simp only at HM1 HM2 HO1 HO2 HO3
  clear hu1 hf1 hu2 hf2 hf10 hf20 hz1 hz2 g1 g2 g3 p0 p1 p2 p3 n1 n2
  go_enter Try.func7, Try.ntmps7
  go_wp2_with fail
  refine (shown13_any _).mono ?_
  rintro e w1 ⟨rfl, hx⟩
  have HX1 := Lib.hid hx
  clear hx
  go_wp2_with fail
  refine (HF1.out _ (HU1.out.mono HX1.out)).mono ?_
  rintro e w' ⟨⟨v1, rfl, hv1, hn1⟩, rfl⟩
  obtain ⟨a1, c1, rfl, -, -⟩ := hv1.shape
  have HV1 := Lib.hid hv1
  have HN1 := Lib.hid (hn1 HZ1.out)
  clear hv1 hn1
  go_wp2_with fail
  refine (HF2.out _ (HU2.out.mono HX1.out)).mono ?_
  rintro e w' ⟨⟨v2, rfl, hv2, hn2⟩, rfl⟩
  obtain ⟨a2, c2, rfl, -, -⟩ := hv2.shape
  have HV2 := Lib.hid hv2
  have HN2 := Lib.hid (hn2 HZ2.out)
  clear hv2 hn2
  go_wp2_with fail
  refine (HO1.out _ _ HV1.out).mono ?_
  rintro e w2 ⟨rfl, hx⟩
  have HX2 := Lib.hid hx
  clear hx
  go_wp2_with fail
  refine (HO2.out _ _ (HV2.out.mono HX2.out)).mono ?_
  rintro e w3 ⟨rfl, hx⟩
  have HX3 := Lib.hid (Ext.trans HX2.out hx)
  clear hx
  go_upto_region 4 with fail
  have HBP := Lib.hid ((Blk.new w3 [.int .u8 pak, .int .i64 pan, .string ⟨pas.toArray⟩, .int .u8 pbk, .int .i64 pbn, .string ⟨pbs.toArray⟩, .int .i64 pn, .int .i64 pm] 26).ext (ext_new _ (.cells #[.int .u8 qak, .int .i64 qan, .string ⟨qas.toArray⟩, .int .u8 qbk, .int .i64 qbn, .string ⟨qbs.toArray⟩, .int .i64 qn, .int .i64 qm] 26)))
  have HBQ := Lib.hid (show Blk ((w3.alloc (.cells #[.int .u8 pak, .int .i64 pan, .string ⟨pas.toArray⟩, .int .u8 pbk, .int .i64 pbn, .string ⟨pbs.toArray⟩, .int .i64 pn, .int .i64 pm] 26)).alloc (.cells #[.int .u8 qak, .int .i64 qan, .string ⟨qas.toArray⟩, .int .u8 qbk, .int .i64 qbn, .string ⟨qbs.toArray⟩, .int .i64 qn, .int .i64 qm] 26)) (w3.heap.size + 1) [.int .u8 qak, .int .i64 qan, .string ⟨qas.toArray⟩, .int .u8 qbk, .int .i64 qbn, .string ⟨qbs.toArray⟩, .int .i64 qn, .int .i64 qm] 26 from by have h := Blk.new (w3.alloc (.cells #[.int .u8 pak, .int .i64 pan, .string ⟨pas.toArray⟩, .int .u8 pbk, .int .i64 pbn, .string ⟨pbs.toArray⟩, .int .i64 pn, .int .i64 pm] 26)) [.int .u8 qak, .int .i64 qan, .string ⟨qas.toArray⟩, .int .u8 qbk, .int .i64 qbn, .string ⟨qbs.toArray⟩, .int .i64 qn, .int .i64 qm] 26; simp only [World.alloc, Array.size_push] at h; exact h)
  have HX4 := Lib.hid (Ext.trans HX3.out (Ext.trans (ext_new w3 (.cells #[.int .u8 pak, .int .i64 pan, .string ⟨pas.toArray⟩, .int .u8 pbk, .int .i64 pbn, .string ⟨pbs.toArray⟩, .int .i64 pn, .int .i64 pm] 26)) (ext_new _ (.cells #[.int .u8 qak, .int .i64 qan, .string ⟨qas.toArray⟩, .int .u8 qbk, .int .i64 qbn, .string ⟨qbs.toArray⟩, .int .i64 qn, .int .i64 qm] 26))))
  obtain ⟨P, hP⟩ : ∃ P, w3.heap.size = P := ⟨_, rfl⟩
  rw [show ((.cells #[.int .u8 pak, .int .i64 pan, .string ⟨pas.toArray⟩, .int .u8 pbk, .int .i64 pbn, .string ⟨pbs.toArray⟩, .int .i64 pn, .int .i64 pm] 26) : Obj) = .cells ([.int .u8 pak, .int .i64 pan, .string ⟨pas.toArray⟩, .int .u8 pbk, .int .i64 pbn, .string ⟨pbs.toArray⟩, .int .i64 pn, .int .i64 pm] : List Value).toArray 26 from rfl] at HBQ HX4
  try rw [show ((.cells #[.int .u8 pak, .int .i64 pan, .string ⟨pas.toArray⟩, .int .u8 pbk, .int .i64 pbn, .string ⟨pbs.toArray⟩, .int .i64 pn, .int .i64 pm] 26) : Obj) = .cells ([.int .u8 pak, .int .i64 pan, .string ⟨pas.toArray⟩, .int .u8 pbk, .int .i64 pbn, .string ⟨pbs.toArray⟩, .int .i64 pn, .int .i64 pm] : List Value).toArray 26 from rfl]
  generalize (w3.alloc (.cells ([.int .u8 pak, .int .i64 pan, .string ⟨pas.toArray⟩, .int .u8 pbk, .int .i64 pbn, .string ⟨pbs.toArray⟩, .int .i64 pn, .int .i64 pm] : List Value).toArray 26)).alloc (.cells #[.int .u8 qak, .int .i64 qan, .string ⟨qas.toArray⟩, .int .u8 qbk, .int .i64 qbn, .string ⟨qbs.toArray⟩, .int .i64 qn, .int .i64 qm] 26) = W at HBP HBQ HX4 ⊢
  rw [hP] at HBP HBQ ⊢
  clear hP
  have HV1W := Lib.hid ((HV1.out.mono HX4.out).mono (ext_new W (.cells #[] 24)))
  have HV2W := Lib.hid (HV2.out.mono HX4.out)
  have HEM := Lib.hid (empty_vals W)
  have HBE := Lib.hid (ext_new W (.cells #[] 24))
  go_wp2_with (at_builtin; first | ((refine wpList_append_vals rfl (.tmp 22) (.tmp 23) rfl W.heap.size _ x rfl HO4.out _ y rfl HV2B.out HN2.out (by have := HN.out; omega) HSZ4.out ?_); intro v4 w5 hown4 hb4; have HO5 := Lib.hid hown4; have HB5 := Lib.hid hb4; clear hown4 hb4) | ((refine wpList_append_vals rfl (.tmp 20) (.tmp 21) rfl W.heap.size _ [] rfl HEM.out _ x rfl HV1W.out HN1.out (by have := HN.out; simp; omega) (by have := HBE.out.size; exact this) ?_); (intro v3 w4 hown3 hb3; rw [List.nil_append] at hown3; have HO4 := Lib.hid hown3; have HB4 := Lib.hid (Below.trans (show Below W.heap.size W _ from HBE.out) hb3); have HV2B := Lib.hid (HV2W.out.mono HB4.out); have HSZ4 := Lib.hid HB4.out.size; clear hown3 hb3)))
  refine (HO3.out _ _ (RdVals.of_owns HO5.out)).mono ?_
  rintro e w6 ⟨rfl, hx⟩
  have HX6 := Lib.hid (Ext.trans (show Ext W w5 from Below.trans HB4.out HB5.out) hx)
  have HBP6 := Lib.hid (HBP.out.ext HX6.out)
  have HBQ6 := Lib.hid (HBQ.out.ext HX6.out)
  clear hx
  go_upto_region 5 with fail
  have HBZ := Lib.hid (Blk.new w6 [.int .u8 zak, .int .i64 zan, .string ⟨zas.toArray⟩, .int .u8 zbk, .int .i64 zbn, .string ⟨zbs.toArray⟩, .int .i64 zn, .int .i64 zm] 26)
  have HNZ := Lib.hid (ext_new w6 (.cells #[.int .u8 zak, .int .i64 zan, .string ⟨zas.toArray⟩, .int .u8 zbk, .int .i64 zbn, .string ⟨zbs.toArray⟩, .int .i64 zn, .int .i64 zm] 26))
  have HBP7 := Lib.hid (HBP6.out.ext (ext_new w6 (.cells #[.int .u8 zak, .int .i64 zan, .string ⟨zas.toArray⟩, .int .u8 zbk, .int .i64 zbn, .string ⟨zbs.toArray⟩, .int .i64 zn, .int .i64 zm] 26)))
  have HBQ7 := Lib.hid (HBQ6.out.ext (ext_new w6 (.cells #[.int .u8 zak, .int .i64 zan, .string ⟨zas.toArray⟩, .int .u8 zbk, .int .i64 zbn, .string ⟨zbs.toArray⟩, .int .i64 zn, .int .i64 zm] 26)))
  try rw [show ((.cells #[.int .u8 zak, .int .i64 zan, .string ⟨zas.toArray⟩, .int .u8 zbk, .int .i64 zbn, .string ⟨zbs.toArray⟩, .int .i64 zn, .int .i64 zm] 26) : Obj) = .cells ([.int .u8 zak, .int .i64 zan, .string ⟨zas.toArray⟩, .int .u8 zbk, .int .i64 zbn, .string ⟨zbs.toArray⟩, .int .i64 zn, .int .i64 zm] : List Value).toArray 26 from rfl]
  rw [show ((.cells #[.int .u8 zak, .int .i64 zan, .string ⟨zas.toArray⟩, .int .u8 zbk, .int .i64 zbn, .string ⟨zbs.toArray⟩, .int .i64 zn, .int .i64 zm] 26) : Obj) = .cells ([.int .u8 zak, .int .i64 zan, .string ⟨zas.toArray⟩, .int .u8 zbk, .int .i64 zbn, .string ⟨zbs.toArray⟩, .int .i64 zn, .int .i64 zm] : List Value).toArray 26 from rfl] at HNZ HBP7 HBQ7
  generalize w6.alloc (.cells ([.int .u8 zak, .int .i64 zan, .string ⟨zas.toArray⟩, .int .u8 zbk, .int .i64 zbn, .string ⟨zbs.toArray⟩, .int .i64 zn, .int .i64 zm] : List Value).toArray 26) = W7 at HBZ HNZ HBP7 HBQ7 ⊢
  have HBZ7 := Lib.hid HBZ.out
  have p0 := later_cell (w := W7) (b := P) (fun j u hj => HBP7.out.cell j u hj) 0 (.int .u8 pak) rfl
  have p1 := later_cell (w := W7) (b := P) (fun j u hj => HBP7.out.cell j u hj) 1 (.int .i64 pan) rfl
  have p2 := later_cell (w := W7) (b := P) (fun j u hj => HBP7.out.cell j u hj) 2 (.string ⟨pas.toArray⟩) rfl
  have p3 := later_cell (w := W7) (b := P) (fun j u hj => HBP7.out.cell j u hj) 3 (.int .u8 pbk) rfl
  have p4 := later_cell (w := W7) (b := P) (fun j u hj => HBP7.out.cell j u hj) 4 (.int .i64 pbn) rfl
  have p5 := later_cell (w := W7) (b := P) (fun j u hj => HBP7.out.cell j u hj) 5 (.string ⟨pbs.toArray⟩) rfl
  have p6 := later_cell (w := W7) (b := P) (fun j u hj => HBP7.out.cell j u hj) 6 (.int .i64 pn) rfl
  have p7 := later_cell (w := W7) (b := P) (fun j u hj => HBP7.out.cell j u hj) 7 (.int .i64 pm) rfl
  have q0 := later_cell (w := W7) (b := (P + 1)) (fun j u hj => HBQ7.out.cell j u hj) 0 (.int .u8 qak) rfl
  have q1 := later_cell (w := W7) (b := (P + 1)) (fun j u hj => HBQ7.out.cell j u hj) 1 (.int .i64 qan) rfl
  have q2 := later_cell (w := W7) (b := (P + 1)) (fun j u hj => HBQ7.out.cell j u hj) 2 (.string ⟨qas.toArray⟩) rfl
  have q3 := later_cell (w := W7) (b := (P + 1)) (fun j u hj => HBQ7.out.cell j u hj) 3 (.int .u8 qbk) rfl
  have q4 := later_cell (w := W7) (b := (P + 1)) (fun j u hj => HBQ7.out.cell j u hj) 4 (.int .i64 qbn) rfl
  have q5 := later_cell (w := W7) (b := (P + 1)) (fun j u hj => HBQ7.out.cell j u hj) 5 (.string ⟨qbs.toArray⟩) rfl
  have q6 := later_cell (w := W7) (b := (P + 1)) (fun j u hj => HBQ7.out.cell j u hj) 6 (.int .i64 qn) rfl
  have q7 := later_cell (w := W7) (b := (P + 1)) (fun j u hj => HBQ7.out.cell j u hj) 7 (.int .i64 qm) rfl
  have z0 := later_cell (w := W7) (b := w6.heap.size) (fun j u hj => HBZ7.out.cell j u hj) 0 (.int .u8 zak) rfl
  have z1 := later_cell (w := W7) (b := w6.heap.size) (fun j u hj => HBZ7.out.cell j u hj) 1 (.int .i64 zan) rfl
  have z2 := later_cell (w := W7) (b := w6.heap.size) (fun j u hj => HBZ7.out.cell j u hj) 2 (.string ⟨zas.toArray⟩) rfl
  have z3 := later_cell (w := W7) (b := w6.heap.size) (fun j u hj => HBZ7.out.cell j u hj) 3 (.int .u8 zbk) rfl
  have z4 := later_cell (w := W7) (b := w6.heap.size) (fun j u hj => HBZ7.out.cell j u hj) 4 (.int .i64 zbn) rfl
  have z5 := later_cell (w := W7) (b := w6.heap.size) (fun j u hj => HBZ7.out.cell j u hj) 5 (.string ⟨zbs.toArray⟩) rfl
  have z6 := later_cell (w := W7) (b := w6.heap.size) (fun j u hj => HBZ7.out.cell j u hj) 6 (.int .i64 zn) rfl
  have z7 := later_cell (w := W7) (b := w6.heap.size) (fun j u hj => HBZ7.out.cell j u hj) 7 (.int .i64 zm) rfl
  have HDR := Lib.hid (Ext.drew W7)
  have hqz := HQZ.out
  refine wp_region_segs Ext Ext.keeps [([0, 1, 2, 3, 5], some 4), ([6, 7, 8, 9, 10, 12], some 11), ([13, 14, 15, 16, 17, 19], some 18), ([20, 21, 22, 23, 24, 26], some 25), ([27, 28, 29], none)] (by kernel_rfl) (by kernel_rfl) (fun c a a' w e h => (by exact ⟨e ▸ h.1, h.2⟩)) ?_
  simp only [pickSegs, pickOps, List.map_cons, List.map_nil, Option.map_some, Option.map_none, Option.getD_some, List.getElem?_toArray, List.getElem?_cons_zero, List.getElem?_cons_succ]
  refine wpSegs_some fun K hK => ?_
  repeat go_big_quiet_step (fail)
  refine wpQuiet_nil ?_
  clear p0 p1 p2 p3 p4 p5 p6 p7 q0 q1 q2 q3 q4 q5 q6 q7 z0 z1 z2 z3 z4 z5 z6 z7
  go_wp2_with fail
  refine (HM1.out _).mono ?_
  rintro e W8 ⟨rfl, hx⟩
  have HH8 := Lib.hid hx
  clear hx
  go_wp2_with fail
  refine ⟨HH8.out, hK _ _ ?_⟩
  clear hK K
  have HE8 := Lib.hid (Ext.trans (Ext.drew W7) HH8.out)
  have HBP8 := Lib.hid (HBP7.out.ext HE8.out)
  have HBQ8 := Lib.hid (HBQ7.out.ext HE8.out)
  have HBZ8 := Lib.hid (HBZ7.out.ext HE8.out)
  have p0 := now_cell (w := W8) (b := P) (fun j u hj => HBP8.out.cell j u hj) 0 (.int .u8 pak) rfl
  have p1 := now_cell (w := W8) (b := P) (fun j u hj => HBP8.out.cell j u hj) 1 (.int .i64 pan) rfl
  have p2 := now_cell (w := W8) (b := P) (fun j u hj => HBP8.out.cell j u hj) 2 (.string ⟨pas.toArray⟩) rfl
  have p3 := now_cell (w := W8) (b := P) (fun j u hj => HBP8.out.cell j u hj) 3 (.int .u8 pbk) rfl
  have p4 := now_cell (w := W8) (b := P) (fun j u hj => HBP8.out.cell j u hj) 4 (.int .i64 pbn) rfl
  have p5 := now_cell (w := W8) (b := P) (fun j u hj => HBP8.out.cell j u hj) 5 (.string ⟨pbs.toArray⟩) rfl
  have p6 := now_cell (w := W8) (b := P) (fun j u hj => HBP8.out.cell j u hj) 6 (.int .i64 pn) rfl
  have p7 := now_cell (w := W8) (b := P) (fun j u hj => HBP8.out.cell j u hj) 7 (.int .i64 pm) rfl
  have q0 := now_cell (w := W8) (b := (P + 1)) (fun j u hj => HBQ8.out.cell j u hj) 0 (.int .u8 qak) rfl
  have q1 := now_cell (w := W8) (b := (P + 1)) (fun j u hj => HBQ8.out.cell j u hj) 1 (.int .i64 qan) rfl
  have q2 := now_cell (w := W8) (b := (P + 1)) (fun j u hj => HBQ8.out.cell j u hj) 2 (.string ⟨qas.toArray⟩) rfl
  have q3 := now_cell (w := W8) (b := (P + 1)) (fun j u hj => HBQ8.out.cell j u hj) 3 (.int .u8 qbk) rfl
  have q4 := now_cell (w := W8) (b := (P + 1)) (fun j u hj => HBQ8.out.cell j u hj) 4 (.int .i64 qbn) rfl
  have q5 := now_cell (w := W8) (b := (P + 1)) (fun j u hj => HBQ8.out.cell j u hj) 5 (.string ⟨qbs.toArray⟩) rfl
  have q6 := now_cell (w := W8) (b := (P + 1)) (fun j u hj => HBQ8.out.cell j u hj) 6 (.int .i64 qn) rfl
  have q7 := now_cell (w := W8) (b := (P + 1)) (fun j u hj => HBQ8.out.cell j u hj) 7 (.int .i64 qm) rfl
  have z0 := now_cell (w := W8) (b := w6.heap.size) (fun j u hj => HBZ8.out.cell j u hj) 0 (.int .u8 zak) rfl
  have z1 := now_cell (w := W8) (b := w6.heap.size) (fun j u hj => HBZ8.out.cell j u hj) 1 (.int .i64 zan) rfl
  have z2 := now_cell (w := W8) (b := w6.heap.size) (fun j u hj => HBZ8.out.cell j u hj) 2 (.string ⟨zas.toArray⟩) rfl
  have z3 := now_cell (w := W8) (b := w6.heap.size) (fun j u hj => HBZ8.out.cell j u hj) 3 (.int .u8 zbk) rfl
  have z4 := now_cell (w := W8) (b := w6.heap.size) (fun j u hj => HBZ8.out.cell j u hj) 4 (.int .i64 zbn) rfl
  have z5 := now_cell (w := W8) (b := w6.heap.size) (fun j u hj => HBZ8.out.cell j u hj) 5 (.string ⟨zbs.toArray⟩) rfl
  have z6 := now_cell (w := W8) (b := w6.heap.size) (fun j u hj => HBZ8.out.cell j u hj) 6 (.int .i64 zn) rfl
  have z7 := now_cell (w := W8) (b := w6.heap.size) (fun j u hj => HBZ8.out.cell j u hj) 7 (.int .i64 zm) rfl
  refine wpSegs_some fun K hK => ?_
  repeat go_big_quiet_step (fail)
  refine wpQuiet_nil ?_
  clear p0 p1 p2 p3 p4 p5 p6 p7 q0 q1 q2 q3 q4 q5 q6 q7 z0 z1 z2 z3 z4 z5 z6 z7
  go_wp2_with fail
  refine (HM2.out _).mono ?_
  rintro e W9 ⟨rfl, hx⟩
  have HH9 := Lib.hid hx
  clear hx
  go_wp2_with fail
  refine ⟨HH9.out, hK _ _ ?_⟩
  clear hK K
  have HE9 := Lib.hid (Ext.trans HE8.out HH9.out)
  have HBP9 := Lib.hid (HBP7.out.ext HE9.out)
  have HBQ9 := Lib.hid (HBQ7.out.ext HE9.out)
  have HBZ9 := Lib.hid (HBZ7.out.ext HE9.out)
  have p0 := now_cell (w := W9) (b := P) (fun j u hj => HBP9.out.cell j u hj) 0 (.int .u8 pak) rfl
  have p1 := now_cell (w := W9) (b := P) (fun j u hj => HBP9.out.cell j u hj) 1 (.int .i64 pan) rfl
  have p2 := now_cell (w := W9) (b := P) (fun j u hj => HBP9.out.cell j u hj) 2 (.string ⟨pas.toArray⟩) rfl
  have p3 := now_cell (w := W9) (b := P) (fun j u hj => HBP9.out.cell j u hj) 3 (.int .u8 pbk) rfl
  have p4 := now_cell (w := W9) (b := P) (fun j u hj => HBP9.out.cell j u hj) 4 (.int .i64 pbn) rfl
  have p5 := now_cell (w := W9) (b := P) (fun j u hj => HBP9.out.cell j u hj) 5 (.string ⟨pbs.toArray⟩) rfl
  have p6 := now_cell (w := W9) (b := P) (fun j u hj => HBP9.out.cell j u hj) 6 (.int .i64 pn) rfl
  have p7 := now_cell (w := W9) (b := P) (fun j u hj => HBP9.out.cell j u hj) 7 (.int .i64 pm) rfl
  have q0 := now_cell (w := W9) (b := (P + 1)) (fun j u hj => HBQ9.out.cell j u hj) 0 (.int .u8 qak) rfl
  have q1 := now_cell (w := W9) (b := (P + 1)) (fun j u hj => HBQ9.out.cell j u hj) 1 (.int .i64 qan) rfl
  have q2 := now_cell (w := W9) (b := (P + 1)) (fun j u hj => HBQ9.out.cell j u hj) 2 (.string ⟨qas.toArray⟩) rfl
  have q3 := now_cell (w := W9) (b := (P + 1)) (fun j u hj => HBQ9.out.cell j u hj) 3 (.int .u8 qbk) rfl
  have q4 := now_cell (w := W9) (b := (P + 1)) (fun j u hj => HBQ9.out.cell j u hj) 4 (.int .i64 qbn) rfl
  have q5 := now_cell (w := W9) (b := (P + 1)) (fun j u hj => HBQ9.out.cell j u hj) 5 (.string ⟨qbs.toArray⟩) rfl
  have q6 := now_cell (w := W9) (b := (P + 1)) (fun j u hj => HBQ9.out.cell j u hj) 6 (.int .i64 qn) rfl
  have q7 := now_cell (w := W9) (b := (P + 1)) (fun j u hj => HBQ9.out.cell j u hj) 7 (.int .i64 qm) rfl
  have z0 := now_cell (w := W9) (b := w6.heap.size) (fun j u hj => HBZ9.out.cell j u hj) 0 (.int .u8 zak) rfl
  have z1 := now_cell (w := W9) (b := w6.heap.size) (fun j u hj => HBZ9.out.cell j u hj) 1 (.int .i64 zan) rfl
  have z2 := now_cell (w := W9) (b := w6.heap.size) (fun j u hj => HBZ9.out.cell j u hj) 2 (.string ⟨zas.toArray⟩) rfl
  have z3 := now_cell (w := W9) (b := w6.heap.size) (fun j u hj => HBZ9.out.cell j u hj) 3 (.int .u8 zbk) rfl
  have z4 := now_cell (w := W9) (b := w6.heap.size) (fun j u hj => HBZ9.out.cell j u hj) 4 (.int .i64 zbn) rfl
  have z5 := now_cell (w := W9) (b := w6.heap.size) (fun j u hj => HBZ9.out.cell j u hj) 5 (.string ⟨zbs.toArray⟩) rfl
  have z6 := now_cell (w := W9) (b := w6.heap.size) (fun j u hj => HBZ9.out.cell j u hj) 6 (.int .i64 zn) rfl
  have z7 := now_cell (w := W9) (b := w6.heap.size) (fun j u hj => HBZ9.out.cell j u hj) 7 (.int .i64 zm) rfl
  refine wpSegs_some fun K hK => ?_
  repeat go_big_quiet_step (fail)
  refine wpQuiet_nil ?_
  clear p0 p1 p2 p3 p4 p5 p6 p7 q0 q1 q2 q3 q4 q5 q6 q7 z0 z1 z2 z3 z4 z5 z6 z7
  go_wp2_with fail
  refine (HM3.out _).mono ?_
  rintro e W10 ⟨rfl, hx⟩
  have HH10 := Lib.hid hx
  clear hx
  go_wp2_with fail
  refine ⟨HH10.out, hK _ _ ?_⟩
  clear hK K
  have HE10 := Lib.hid (Ext.trans HE9.out HH10.out)
  have HBP10 := Lib.hid (HBP7.out.ext HE10.out)
  have HBQ10 := Lib.hid (HBQ7.out.ext HE10.out)
  have HBZ10 := Lib.hid (HBZ7.out.ext HE10.out)
  have p0 := now_cell (w := W10) (b := P) (fun j u hj => HBP10.out.cell j u hj) 0 (.int .u8 pak) rfl
  have p1 := now_cell (w := W10) (b := P) (fun j u hj => HBP10.out.cell j u hj) 1 (.int .i64 pan) rfl
  have p2 := now_cell (w := W10) (b := P) (fun j u hj => HBP10.out.cell j u hj) 2 (.string ⟨pas.toArray⟩) rfl
  have p3 := now_cell (w := W10) (b := P) (fun j u hj => HBP10.out.cell j u hj) 3 (.int .u8 pbk) rfl
  have p4 := now_cell (w := W10) (b := P) (fun j u hj => HBP10.out.cell j u hj) 4 (.int .i64 pbn) rfl
  have p5 := now_cell (w := W10) (b := P) (fun j u hj => HBP10.out.cell j u hj) 5 (.string ⟨pbs.toArray⟩) rfl
  have p6 := now_cell (w := W10) (b := P) (fun j u hj => HBP10.out.cell j u hj) 6 (.int .i64 pn) rfl
  have p7 := now_cell (w := W10) (b := P) (fun j u hj => HBP10.out.cell j u hj) 7 (.int .i64 pm) rfl
  have q0 := now_cell (w := W10) (b := (P + 1)) (fun j u hj => HBQ10.out.cell j u hj) 0 (.int .u8 qak) rfl
  have q1 := now_cell (w := W10) (b := (P + 1)) (fun j u hj => HBQ10.out.cell j u hj) 1 (.int .i64 qan) rfl
  have q2 := now_cell (w := W10) (b := (P + 1)) (fun j u hj => HBQ10.out.cell j u hj) 2 (.string ⟨qas.toArray⟩) rfl
  have q3 := now_cell (w := W10) (b := (P + 1)) (fun j u hj => HBQ10.out.cell j u hj) 3 (.int .u8 qbk) rfl
  have q4 := now_cell (w := W10) (b := (P + 1)) (fun j u hj => HBQ10.out.cell j u hj) 4 (.int .i64 qbn) rfl
  have q5 := now_cell (w := W10) (b := (P + 1)) (fun j u hj => HBQ10.out.cell j u hj) 5 (.string ⟨qbs.toArray⟩) rfl
  have q6 := now_cell (w := W10) (b := (P + 1)) (fun j u hj => HBQ10.out.cell j u hj) 6 (.int .i64 qn) rfl
  have q7 := now_cell (w := W10) (b := (P + 1)) (fun j u hj => HBQ10.out.cell j u hj) 7 (.int .i64 qm) rfl
  have z0 := now_cell (w := W10) (b := w6.heap.size) (fun j u hj => HBZ10.out.cell j u hj) 0 (.int .u8 zak) rfl
  have z1 := now_cell (w := W10) (b := w6.heap.size) (fun j u hj => HBZ10.out.cell j u hj) 1 (.int .i64 zan) rfl
  have z2 := now_cell (w := W10) (b := w6.heap.size) (fun j u hj => HBZ10.out.cell j u hj) 2 (.string ⟨zas.toArray⟩) rfl
  have z3 := now_cell (w := W10) (b := w6.heap.size) (fun j u hj => HBZ10.out.cell j u hj) 3 (.int .u8 zbk) rfl
  have z4 := now_cell (w := W10) (b := w6.heap.size) (fun j u hj => HBZ10.out.cell j u hj) 4 (.int .i64 zbn) rfl
  have z5 := now_cell (w := W10) (b := w6.heap.size) (fun j u hj => HBZ10.out.cell j u hj) 5 (.string ⟨zbs.toArray⟩) rfl
  have z6 := now_cell (w := W10) (b := w6.heap.size) (fun j u hj => HBZ10.out.cell j u hj) 6 (.int .i64 zn) rfl
  have z7 := now_cell (w := W10) (b := w6.heap.size) (fun j u hj => HBZ10.out.cell j u hj) 7 (.int .i64 zm) rfl
  refine wpSegs_some fun K hK => ?_
  repeat go_big_quiet_step (fail)
  refine wpQuiet_nil ?_
  clear p0 p1 p2 p3 p4 p5 p6 p7 q0 q1 q2 q3 q4 q5 q6 q7 z0 z1 z2 z3 z4 z5 z6 z7
  go_wp2_with fail
  refine (HM4.out _).mono ?_
  rintro e W11 ⟨rfl, hx⟩
  have HH11 := Lib.hid hx
  clear hx
  go_wp2_with fail
  refine ⟨HH11.out, hK _ _ ?_⟩
  clear hK K
  have HE11 := Lib.hid (Ext.trans HE10.out HH11.out)
  have HBP11 := Lib.hid (HBP7.out.ext HE11.out)
  have HBQ11 := Lib.hid (HBQ7.out.ext HE11.out)
  have HBZ11 := Lib.hid (HBZ7.out.ext HE11.out)
  have p0 := now_cell (w := W11) (b := P) (fun j u hj => HBP11.out.cell j u hj) 0 (.int .u8 pak) rfl
  have p1 := now_cell (w := W11) (b := P) (fun j u hj => HBP11.out.cell j u hj) 1 (.int .i64 pan) rfl
  have p2 := now_cell (w := W11) (b := P) (fun j u hj => HBP11.out.cell j u hj) 2 (.string ⟨pas.toArray⟩) rfl
  have p3 := now_cell (w := W11) (b := P) (fun j u hj => HBP11.out.cell j u hj) 3 (.int .u8 pbk) rfl
  have p4 := now_cell (w := W11) (b := P) (fun j u hj => HBP11.out.cell j u hj) 4 (.int .i64 pbn) rfl
  have p5 := now_cell (w := W11) (b := P) (fun j u hj => HBP11.out.cell j u hj) 5 (.string ⟨pbs.toArray⟩) rfl
  have p6 := now_cell (w := W11) (b := P) (fun j u hj => HBP11.out.cell j u hj) 6 (.int .i64 pn) rfl
  have p7 := now_cell (w := W11) (b := P) (fun j u hj => HBP11.out.cell j u hj) 7 (.int .i64 pm) rfl
  have q0 := now_cell (w := W11) (b := (P + 1)) (fun j u hj => HBQ11.out.cell j u hj) 0 (.int .u8 qak) rfl
  have q1 := now_cell (w := W11) (b := (P + 1)) (fun j u hj => HBQ11.out.cell j u hj) 1 (.int .i64 qan) rfl
  have q2 := now_cell (w := W11) (b := (P + 1)) (fun j u hj => HBQ11.out.cell j u hj) 2 (.string ⟨qas.toArray⟩) rfl
  have q3 := now_cell (w := W11) (b := (P + 1)) (fun j u hj => HBQ11.out.cell j u hj) 3 (.int .u8 qbk) rfl
  have q4 := now_cell (w := W11) (b := (P + 1)) (fun j u hj => HBQ11.out.cell j u hj) 4 (.int .i64 qbn) rfl
  have q5 := now_cell (w := W11) (b := (P + 1)) (fun j u hj => HBQ11.out.cell j u hj) 5 (.string ⟨qbs.toArray⟩) rfl
  have q6 := now_cell (w := W11) (b := (P + 1)) (fun j u hj => HBQ11.out.cell j u hj) 6 (.int .i64 qn) rfl
  have q7 := now_cell (w := W11) (b := (P + 1)) (fun j u hj => HBQ11.out.cell j u hj) 7 (.int .i64 qm) rfl
  have z0 := now_cell (w := W11) (b := w6.heap.size) (fun j u hj => HBZ11.out.cell j u hj) 0 (.int .u8 zak) rfl
  have z1 := now_cell (w := W11) (b := w6.heap.size) (fun j u hj => HBZ11.out.cell j u hj) 1 (.int .i64 zan) rfl
  have z2 := now_cell (w := W11) (b := w6.heap.size) (fun j u hj => HBZ11.out.cell j u hj) 2 (.string ⟨zas.toArray⟩) rfl
  have z3 := now_cell (w := W11) (b := w6.heap.size) (fun j u hj => HBZ11.out.cell j u hj) 3 (.int .u8 zbk) rfl
  have z4 := now_cell (w := W11) (b := w6.heap.size) (fun j u hj => HBZ11.out.cell j u hj) 4 (.int .i64 zbn) rfl
  have z5 := now_cell (w := W11) (b := w6.heap.size) (fun j u hj => HBZ11.out.cell j u hj) 5 (.string ⟨zbs.toArray⟩) rfl
  have z6 := now_cell (w := W11) (b := w6.heap.size) (fun j u hj => HBZ11.out.cell j u hj) 6 (.int .i64 zn) rfl
  have z7 := now_cell (w := W11) (b := w6.heap.size) (fun j u hj => HBZ11.out.cell j u hj) 7 (.int .i64 zm) rfl
  refine wpSegs_none ?_
  repeat go_big_quiet_step (fail)
  refine wpQuiet_nil (wpSegs_nil ?_)
  clear p0 p1 p2 p3 p4 p5 p6 p7 q0 q1 q2 q3 q4 q5 q6 q7 z0 z1 z2 z3 z4 z5 z6 z7
  clear hqz
  go_wp2_with fail
  go_ret
  exact ⟨rfl, Ext.trans (Ext.trans (Ext.trans (Ext.trans HX1.out HX4.out) HX6.out) HNZ.out) HE11.out⟩

end Go.Proofs.Ytlbilmmjcfiokaa
