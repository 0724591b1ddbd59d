/-
  Texts of this proof, merged.
-/
import Derived.Shelf.Abstract
import Derived.Laws.EntriesVeiled
import Derived.Maps.OwnSet
import Derived.Carry
import Derived.Test.YtaoegcakefodaaaGreatZ1
import Derived.Test.YtaoegcakefodaaaGreatZ2
import Derived.Test.YtaoegcakefodaaaGreatZ3
import Derived.Test.YtaoegcakefodaaaGreatZ4
import Derived.Test.YtaoegcakefodaaaGreatZ5
import Derived.Test.YtaoegcakefodaaaGreatZ6
import Derived.Test.YtaoegcakefodaaaGreatZ7
import Derived.Test.YtaoegcakefodaaaGreatZ8
import Derived.Test.YtaoegcakefodaaaGreatZ9
namespace Go.Proofs.YtaoegcakefodaaaGreat
open Go.RowKit Go.BigFrame
def valAt (r : List V) (c : Int) : V := if 0 ≤ c then match r[c.toNat]? with | some v => v | none => V.zero else V.zero
theorem valAt_out {r : List V} {c : Int} (h : c < 0 ∨ (r.length : Int) ≤ c) : valAt r c = V.zero := by
  unfold valAt
  split
  · rw [List.getElem?_eq_none (by omega)]
  · rfl
theorem valAt_in {r : List V} {c : Nat} (h : c < r.length) : valAt r c = r[c] := by
  unfold valAt
  rw [if_pos (by omega), Int.toNat_natCast, List.getElem?_eq_getElem h]
theorem valAt_fits {m : Nat} {r : List V} (h : FitR m r) (c : Int) : (valAt r c).fits ∧ (valAt r c).s.length ≤ m := by
  unfold valAt
  have hz : V.zero.fits ∧ V.zero.s.length ≤ m := ⟨V.zero_fits, Nat.zero_le _⟩
  split
  · split
    · rename_i v hv
      exact h v (List.mem_of_getElem? hv)
    · exact hz
  · exact hz
theorem atV_valAt {m : Nat} {r : List V} (h : FitR m r) (c : Int) : atV r c = if (valAt r c).k = 0 then V.zero else valAt r c := by
  by_cases h0 : c < 0 ∨ (r.length : Int) ≤ c
  · rw [atV_out h0, valAt_out h0]
    simp [V.zero]
  · obtain ⟨C, rfl⟩ : ∃ C : Nat, c = (C : Int) := ⟨c.toNat, by omega⟩
    have hl : C < r.length := by omega
    rw [atV_fit h hl, valAt_in hl]
def byK (down : Bool) (v u : V) : Int := if v.k = 0 ∨ u.k = 0 then cmpN v.k u.k else if down = true then cmpV u v else cmpV v u
theorem cmpK_byK {m : Nat} {a b : List V} (k : Ky) (ha : FitR m a) (hb : FitR m b) : cmpK k a b = byK k.down (valAt a k.col) (valAt b k.col) := by
  unfold cmpK byK
  simp only
  rw [atV_valAt ha, atV_valAt hb]
  generalize valAt a k.col = x
  generalize valAt b k.col = y
  have hz : V.zero.k = 0 := rfl
  have px : x.k = 0 → (if x.k = 0 then V.zero else x) = V.zero := fun h => if_pos h
  have nx : ¬ x.k = 0 → (if x.k = 0 then V.zero else x) = x := fun h => if_neg h
  have py : y.k = 0 → (if y.k = 0 then V.zero else y) = V.zero := fun h => if_pos h
  have ny : ¬ y.k = 0 → (if y.k = 0 then V.zero else y) = y := fun h => if_neg h
  by_cases hx : x.k = 0
  · rw [px hx, if_neg (fun h => h.2.1 hz), if_pos (Or.inl hx)]
    by_cases hy : y.k = 0
    · rw [py hy, hx, hy, cmpV_zero.2 rfl, cmpN_zero.2 rfl]
    · rw [ny hy, hx]
      unfold cmpV
      rw [hz, if_neg (fun h => hy h.symm)]
  · by_cases hy : y.k = 0
    · rw [nx hx, py hy, if_neg (fun h => h.2.2 hz), if_pos (Or.inr hy), hy]
      unfold cmpV
      rw [hz, if_neg hx]
    · have hno : ¬ (x.k = 0 ∨ y.k = 0) := fun h => Or.elim h hx hy
      rw [nx hx, ny hy, if_neg hno]
      by_cases hd : k.down = true
      · rw [if_pos ⟨hd, hx, hy⟩, if_pos hd, cmpV_neg x y]
      · rw [if_neg (fun h => hd h.1), if_neg hd]
theorem pIn15_any (n i : Int) (w : World) :
    Calls Tryz.prog 97 #[.int .i64 n, .int .i64 i] w fun e w' => e = .returned (.bool (decide (0 ≤ i ∧ i < n))) ∧ w' = w := by
  by_cases h0 : 0 ≤ i
  · have d1 : decide (0 ≤ i) = true := decide_eq_true h0
    obtain ⟨B, hB⟩ : ∃ B, decide (i < n) = B := ⟨_, rfl⟩
    have HB := Lib.hid (show decide (0 ≤ i ∧ i < n) = B by rw [← hB]; simp [h0])
    clear h0
    go_enter Tryz.func97, Tryz.ntmps97
    go_wp2_with fail
    go_ret
    exact ⟨by rw [HB.out]; rfl, rfl⟩
  · have d1 : decide (0 ≤ i) = false := decide_eq_false h0
    have HB := Lib.hid (show decide (0 ≤ i ∧ i < n) = false by simp [h0])
    clear h0
    go_enter Tryz.func97, Tryz.ntmps97
    go_wp2_with fail
    go_ret
    exact ⟨by rw [HB.out]; rfl, rfl⟩
set_option maxRecDepth 100000 in
set_option maxHeartbeats 1000000 in
theorem pValue15_any (u : Value) (r : List V) (c : Int) (w : World) (hu : RdVals w u r) :
    Calls Tryz.prog 74 #[u, .int .i64 c] w fun e w' => e = .returned (valAt r c).val ∧ Ext w w' := by
  obtain ⟨ao, cap, rfl, -, -⟩ := hu.shape
  obtain ⟨-, h1, h2, hc⟩ := hu.plain
  have HC := Lib.hid hc
  have HX := Lib.hid (ext_new w (.cells #[.int .u8 0, .int .i64 0, .string ⟨#[]⟩] 56))
  have HB := Lib.hid (Blk.new w [.int .u8 0, .int .i64 0, .string ⟨#[]⟩] 56)
  unfold maxLen at h2
  obtain ⟨N, hN⟩ : ∃ N, r.length = N := ⟨_, rfl⟩
  have HN := Lib.hid hN
  have HIN := Lib.hid (pIn15_any (N : Int) c)
  rw [hN] at h1 ⊢
  clear hu hc hN
  by_cases hin : 0 ≤ c ∧ c < (N : Int)
  · rw [decide_eq_true hin] at HIN
    obtain ⟨C, rfl⟩ : ∃ C : Nat, c = (C : Int) := ⟨c.toNat, by omega⟩
    have hlt : C < N := by omega
    have hjl : C < r.length := by have := HN.out; omega
    obtain ⟨g, off, rfl, c0, c1, c2⟩ := HC.out C hjl
    have HV := Lib.hid (valAt_in hjl)
    have x0 := (HX.out.cell (lt_of_cell c0)).trans c0
    have x1 := (HX.out.cell (lt_of_cell c1)).trans c1
    have x2 := (HX.out.cell (lt_of_cell c2)).trans c2
    generalize r[C] = v at x0 x1 x2 HV
    obtain ⟨vk, vn, vs⟩ := v
    simp only at x0 x1 x2
    clear c0 c1 c2 hin
    go_enter Tryz.func74, Tryz.ntmps74
    go_wp2_with fail
    refine (HIN.out _).mono ?_
    rintro e w1 ⟨rfl, rfl⟩
    go_wp2_with fail
    refine bodyPost_ret (results_cell_row (P := Tryz.prog) (fn := Tryz.f74) rfl _ _ w.heap.size 56 _ (0, 0) _ rfl (Blk.new w [.int .u8 vk, .int .i64 vn, .string ⟨vs.toArray⟩] 56) Tryz.underlying56 rfl (by kernel_rfl)) rfl ?_
    exact ⟨by rw [HV.out]; rfl, ext_new _ _⟩
  · rw [decide_eq_false hin] at HIN
    have HV := Lib.hid (valAt_out (r := r) (c := c) (by have := HN.out; omega))
    clear hin
    go_enter Tryz.func74, Tryz.ntmps74
    go_wp2_with fail
    refine (HIN.out _).mono ?_
    rintro e w1 ⟨rfl, rfl⟩
    go_wp2_with fail
    refine bodyPost_ret (results_cell_row (P := Tryz.prog) (fn := Tryz.f74) rfl _ _ w.heap.size 56 _ (0, 0) _ rfl HB.out Tryz.underlying56 rfl (by kernel_rfl)) rfl ?_
    exact ⟨by rw [HV.out]; rfl, HX.out⟩
set_option maxRecDepth 100000 in
set_option maxHeartbeats 1000000 in
theorem pByKey15_any (a b : V) (d : Bool) (ha : a.fits) (hb : b.fits) (hal : a.s.length ≤ 5000) (hbl : b.s.length ≤ 5000) (w : World) :
    Calls Tryz.prog 73 #[a.val, b.val, .bool d] w fun e w' => e = .returned (.int .i64 (byK d a b)) ∧ Ext w w' := by
  have HC := Lib.hid (fun w => Compare_any a b ha hb hal hbl w)
  have HC' := Lib.hid (fun w => Compare_any b a hb ha hbl hal w)
  have HK := Lib.hid (fun w => pCompare_u8 a.k b.k w)
  have hT : byK d a b = if a.k = 0 ∨ b.k = 0 then cmpN a.k b.k else if d = true then cmpV b a else cmpV a b := rfl
  rw [hT]
  clear hT ha hb hal hbl
  generalize cmpV a b = C at HC ⊢
  generalize cmpV b a = C' at HC' ⊢
  generalize cmpN a.k b.k = D at HK ⊢
  obtain ⟨k, n, s⟩ := a
  obtain ⟨k', n', s'⟩ := b
  unfold V.val at HC HC' ⊢
  simp only at HC HC' HK ⊢
  have hc0 := cells_two0 w [.int .u8 k, .int .i64 n, .string ⟨s.toArray⟩] [.int .u8 k', .int .i64 n', .string ⟨s'.toArray⟩] 56
  have hc1 := cells_two1 w [.int .u8 k, .int .i64 n, .string ⟨s.toArray⟩] [.int .u8 k', .int .i64 n', .string ⟨s'.toArray⟩] 56
  have HX := Lib.hid (ext_two w (.cells #[.int .u8 k, .int .i64 n, .string ⟨s.toArray⟩] 56) (.cells #[.int .u8 k', .int .i64 n', .string ⟨s'.toArray⟩] 56))
  clear hc0 hc1
  by_cases h0 : k = 0
  · subst h0
    rw [if_pos (.inl rfl)]
    go_enter Tryz.func73, Tryz.ntmps73
    go_wp2_with fail
    refine (HK.out _).mono ?_
    rintro e w2 ⟨rfl, rfl⟩
    go_wp2_with fail
    go_ret
    exact ⟨rfl, HX.out⟩
  · have q : (k == 0) = false := beq_eq_false_iff_ne.2 h0
    by_cases h1 : k' = 0
    · subst h1
      rw [if_pos (.inr rfl)]
      clear h0
      go_enter Tryz.func73, Tryz.ntmps73
      go_wp2_with fail
      refine (HK.out _).mono ?_
      rintro e w2 ⟨rfl, rfl⟩
      go_wp2_with fail
      go_ret
      exact ⟨rfl, HX.out⟩
    · have q' : (k' == 0) = false := beq_eq_false_iff_ne.2 h1
      rw [if_neg (fun h => h.elim h0 h1)]
      clear h0 h1
      cases d with
      | true =>
        rw [if_pos rfl]
        go_enter Tryz.func73, Tryz.ntmps73
        go_wp2_with fail
        refine (HC'.out _).mono ?_
        rintro e w2 ⟨rfl, hb⟩
        have HB := Lib.hid (Ext.trans HX.out hb)
        clear hb
        go_wp2_with fail
        go_ret
        exact ⟨rfl, HB.out⟩
      | false =>
        rw [if_neg (by decide)]
        go_enter Tryz.func73, Tryz.ntmps73
        go_wp2_with fail
        refine (HC.out _).mono ?_
        rintro e w2 ⟨rfl, hb⟩
        have HB := Lib.hid (Ext.trans HX.out hb)
        clear hb
        go_wp2_with fail
        go_ret
        exact ⟨rfl, HB.out⟩
set_option maxRecDepth 100000 in
set_option maxHeartbeats 2000000 in
theorem pCompareQ_any (u v x : Value) (a b : List V) (ks : List Ky) (w : World) (hu : RdVals w u a) (hv : RdVals w v b) (hx : RdKs w x ks) (ha : FitR 5000 a) (hb : FitR 5000 b) :
    Calls Tryz.prog 52 #[u, v, x] w fun e w' => e = .returned (.int .i64 (cmpR ks a b)) ∧ Ext w w' := by
  obtain ⟨ko, kcap, rfl, -, -⟩ := hx.shape
  obtain ⟨-, h1, h2, hc⟩ := hx.plain
  have HC := Lib.hid hc
  have HA := Lib.hid (fun c W (h : Ext w W) => pValue15_any u a c W (hu.mono h))
  have HB := Lib.hid (fun c W (h : Ext w W) => pValue15_any v b c W (hv.mono h))
  have HFA := Lib.hid (fun c => valAt_fits ha c)
  have HFB := Lib.hid (fun c => valAt_fits hb c)
  have HBY := Lib.hid (fun k => cmpK_byK k ha hb)
  unfold maxLen at h2
  obtain ⟨N, hN⟩ : ∃ N, ks.length = N := ⟨_, rfl⟩
  have HN := Lib.hid hN
  rw [hN] at h1 ⊢
  clear hu hv hx hc ha hb hN
  go_enter Tryz.func52, Tryz.ntmps52
  go_wp2_with fail
  go_loopw [12, 8, 9] (fun i _ _ wr => ∃ j : Nat, j ≤ N ∧ i = .int .i64 j ∧ cmpR ks a b = cmpR (ks.drop j) a b ∧ Ext w wr) (fun i _ _ _ => N - (intOf i).toNat)
  case atStart => exact ⟨0, Nat.zero_le _, rfl, rfl, Ext.keeps.refl _⟩
  case round =>
    obtain ⟨j, hj, rfl, hd, hext⟩ := hrel
    have HD := Lib.hid hd
    have HE := Lib.hid hext
    clear hd hext
    by_cases hlt : j < N
    · have hjl : j < ks.length := by have := HN.out; omega
      obtain ⟨g, off, rfl, c0, c1⟩ := HC.out j hjl
      have HS := Lib.hid (show cmpR (ks.drop j) a b = if cmpK ks[j] a b = 0 then cmpR (ks.drop (j + 1)) a b else cmpK ks[j] a b by rw [List.drop_eq_getElem_cons hjl]; rfl)
      rw [HBY.out] at HS
      have HAC := Lib.hid (HA.out ks[j].col)
      have HBC := Lib.hid (HB.out ks[j].col)
      have HCM := Lib.hid (pByKey15_any (valAt a ks[j].col) (valAt b ks[j].col) ks[j].down (HFA.out _).1 (HFB.out _).1 (HFA.out _).2 (HFB.out _).2)
      have x0 := (HE.out.cell (lt_of_cell c0)).trans c0
      have x1 := (HE.out.cell (lt_of_cell c1)).trans c1
      generalize byK ks[j].down (valAt a ks[j].col) (valAt b ks[j].col) = C at HS HCM
      generalize ks[j].col = col at x0 HAC HBC HCM
      generalize ks[j].down = down at x1 HCM
      generalize valAt a col = X at HAC HCM
      generalize valAt b col = Y at HBC HCM
      obtain ⟨xk, xn, xs⟩ := X
      obtain ⟨yk, yn, ys⟩ := Y
      unfold V.val at HAC HBC HCM
      simp only at HAC HBC HCM
      have HXK := Lib.hid (ext_new wr (.cells #[.int .i64 col, .bool down] 60))
      have HBK := Lib.hid (Blk.new wr [.int .i64 col, .bool down] 60)
      clear c0 c1
      go_upto_region 4 with fail
      generalize wr.alloc (.cells #[.int .i64 col, .bool down] 60) = W at HXK HBK ⊢
      clear x0 x1
      have z0 : ∀ z : Later Ext W.drew, z.val.cell? ⟨wr.heap.size, 0, none⟩ = some (.int .i64 col) := fun z => (HBK.out.ext (Ext.trans (Ext.drew W) z.ext)).cell 0 _ rfl
      have z1 : ∀ z : Later Ext W.drew, z.val.cell? ⟨wr.heap.size, 1, none⟩ = some (.bool down) := fun z => (HBK.out.ext (Ext.trans (Ext.drew W) z.ext)).cell 1 _ rfl
      have HEW := Lib.hid (Ext.trans (Ext.trans HE.out HXK.out) (Ext.drew W))
      go_wp2_with fail
      refine wp_region_segs Ext Ext.keeps [([0, 1, 2, 4, 5, 6, 8, 9], some 3), ([], some 7), ([], some 10), ([11], none)] (by kernel_rfl) (by kernel_rfl) (fun c a a' w e h => (by exact ⟨e ▸ h.1, h.2⟩)) ?_
      simp only [pickSegs, pickOps, List.map_cons, List.map_nil, Option.map_some, Option.map_none, Option.getD_some, List.getElem?_toArray, List.getElem?_cons_zero, List.getElem?_cons_succ]
      refine wpSegs_some fun K' hK' => ?_
      repeat go_big_quiet_step (fail)
      refine wpQuiet_nil ?_
      clear z0 z1
      go_wp2_with fail
      refine (HAC.out _ HEW.out).mono ?_
      rintro e w3 ⟨rfl, hx3⟩
      have HX3 := Lib.hid hx3
      have HE3 := Lib.hid (Ext.trans HEW.out hx3)
      clear hx3
      go_wp2_with fail
      refine ⟨HX3.out, hK' _ _ ?_⟩
      clear hK' K'
      refine wpSegs_some fun K' hK' => ?_
      refine wpQuiet_nil ?_
      go_wp2_with fail
      refine (HBC.out _ HE3.out).mono ?_
      rintro e w4 ⟨rfl, hx4⟩
      have HX4 := Lib.hid hx4
      have HE4 := Lib.hid (Ext.trans HE3.out hx4)
      clear hx4
      go_wp2_with fail
      refine ⟨HX4.out, hK' _ _ ?_⟩
      clear hK' K'
      refine wpSegs_some fun K' hK' => ?_
      refine wpQuiet_nil ?_
      go_wp2_with fail
      refine (HCM.out w4).mono ?_
      rintro e w5 ⟨rfl, hx5⟩
      have HX5 := Lib.hid hx5
      have HE5 := Lib.hid (Ext.trans HE4.out hx5)
      clear hx5
      go_wp2_with fail
      refine ⟨HX5.out, hK' _ _ ?_⟩
      clear hK' K'
      refine wpSegs_none ?_
      repeat go_big_quiet_step (fail)
      refine wpQuiet_nil (wpSegs_nil ?_)
      by_cases hR : C = 0
      · have HN1 := Lib.hid (show cmpR ks a b = cmpR (ks.drop (j + 1)) a b by rw [HD.out, HS.out, if_pos hR])
        subst hR
        go_wp2_with fail
        go_roundw
        case rel => exact ⟨j + 1, by omega, by go_num, HN1.out, HE5.out⟩
        case measure => simp [intOf]; omega
      · have HN1 := Lib.hid (show cmpR ks a b = C by rw [HD.out, HS.out, if_neg hR])
        have q1 : (C != (0 : Int)) = true := bne_iff_ne.2 hR
        clear hR
        go_wp2_with fail
        go_ret
        exact ⟨by rw [HN1.out]; rfl, HE5.out⟩
    · have HN1 := Lib.hid (show cmpR ks a b = 0 by rw [HD.out, List.drop_of_length_le (by have := HN.out; omega)]; rfl)
      go_wp2_with fail
      go_ret
      exact ⟨by rw [HN1.out]; rfl, HE.out⟩
end Go.Proofs.YtaoegcakefodaaaGreat

namespace Go.Proofs.YtaoegcakefodaaaGreat
open Go.RowKit Go.BigFrame
set_option maxRecDepth 100000 in
set_option maxHeartbeats 1000000 in
theorem cloneRow_any (v : Value) (r : List V) (w : World) (hr : RdVals w v r) (hl : r.length ≤ 1000000) :
    Calls Tryz.prog 75 #[v] w fun e w' => (∃ o, e = .returned o ∧ OwnV w.heap.size w' o r) ∧ Ext w w' := by
  obtain ⟨ao, cap, rfl, h1, h2⟩ := hr.shape
  cases ao with
  | none =>
    have hl0 : r = [] := by
      obtain ⟨-, -, -, hc⟩ := hr.plain
      cases r with
      | nil => rfl
      | cons b t => obtain ⟨g, off, e, _⟩ := hc 0 (by simp); cases e
    subst hl0
    have hq : ∀ w, (binOp BinOp.eql 58 (.slice none 0 cap) (.slice none 0 0)).run Tryz.prog w = .ok (.bool true) w := fun w => Lib.run_eql_slice_nil w _ _ none 0 cap 0 0 Tryz.underlying58
    clear hr
    go_enter Tryz.func75, Tryz.ntmps75
    go_wp2_with fail
    go_ret
    exact ⟨⟨_, rfl, .inr ⟨rfl, none, 0, rfl, by simp [maxLen]⟩⟩, Ext.keeps.refl _⟩
  | some x =>
    have hq : ∀ w, (binOp BinOp.eql 58 (.slice (some x) r.length cap) (.slice none 0 0)).run Tryz.prog w = .ok (.bool false) w := fun w => Lib.run_eql_slice_nil w _ _ (some x) _ _ 0 0 Tryz.underlying58
    have HR := Lib.hid (hr.mono (ext_new w (.cells #[] 56)))
    clear hr
    generalize hN : r.length = N at *
    have HN := Lib.hid hN
    clear hN
    go_enter Tryz.func75, Tryz.ntmps75
    go_wp2_with (at_builtin; first
      | (refine wpList_append_vals rfl (.tmp 5) (.tmp 6) 58 rfl Tryz.underlying58 w.heap.size _ ([] : List V) _ r rfl (empty_vals w) rfl HR.out (by rw [HN.out]; simp; omega) (by simp) ?_
         intro v2 w2 hown2 hbel2 _
         rw [List.nil_append] at hown2
         have HO2 := Lib.hid hown2
         have HB2 := Lib.hid hbel2
         clear hown2 hbel2))
    go_ret
    exact ⟨⟨_, rfl, .inl HO2.out⟩, (show Below w.heap.size w _ from ext_new w _).trans HB2.out⟩
theorem make_rows (w : World) (n : Nat) (hn : n ≤ 1000000) : ∃ w', (Instr.makeSlice 22 (.int .i64 (n : Int)) (.int .i64 (n : Int))).run Tryz.prog w = .ok (.slice (some ⟨w.heap.size, 0, none⟩) n n) w' ∧ w'.ownsRow w.heap.size 58 1 (.slice (some ⟨w.heap.size, 0, none⟩) n n) n (List.replicate n (.slice none 0 0)) ∧ Ext w w' := by
  obtain ⟨i0, hi, hz0, hz1, hz2⟩ := info_parts Tryz.info_row
  obtain ⟨w', hrun, hown, hgrow⟩ := run_makeSlice_full (P := Tryz.prog) w w.heap.size 22 58 i0 (.slice none 0 0) 1 Tryz.underlying22 hi hz0 hz1 .i64 .i64 n (by omega) (by rw [hz2]; omega) (by unfold maxLen; omega) (Nat.le_refl _)
  refine ⟨w', hrun, ?_, ⟨hgrow.os, hgrow.tape, hgrow.output, hgrow.size, fun k hk => hgrow.block k hk (by simp)⟩⟩
  have e : (madeCells (Value.slice none 0 0).cells (n * 1)).toList = List.replicate n (.slice none 0 0) := by
    rw [Nat.mul_one]
    exact toList_madeCells_one _ _
  rwa [e] at hown
theorem set_made {ch : List Value} {j N : Nat} (hj : j < N) (hl : ch.length = j) (v : Value) : (ch ++ List.replicate (N - j) (Value.slice none 0 0)).set j v = (ch ++ [v]) ++ List.replicate (N - (j + 1)) (.slice none 0 0) := by
  obtain ⟨m, hm⟩ : ∃ m, N - j = m + 1 := ⟨N - j - 1, by omega⟩
  rw [hm, show N - (j + 1) = m by omega, List.replicate_succ, List.set_append_right _ _ (by omega), hl, Nat.sub_self, List.set_cons_zero, List.append_assoc]
  rfl
def CpOwn (base : Nat) (w : World) (u : Value) (rs : List (List V)) : Prop := ∃ g N ch, base ≤ g ∧ u = .slice (some ⟨g, 0, none⟩) N N ∧ N = rs.length ∧ ch.length = N ∧ w.ownsRow g 58 1 u N ch ∧ CopyRows g w ch rs
set_option maxRecDepth 100000 in
set_option maxHeartbeats 4000000 in
theorem pCopied15_any (u : Value) (rs : List (List V)) (w : World) (hu : RdRV w u rs) (hrl : ∀ r ∈ rs, r.length ≤ 1000000) (hl : rs.length ≤ 200000) :
    Calls Tryz.prog 57 #[u] w fun e w' => (∃ o, e = .returned o ∧ CpOwn w.heap.size w' o rs) ∧ Ext w w' := by
  obtain ⟨ao, ca, rfl, -, -⟩ := hu.shape
  obtain ⟨fh, hfh, -, h1, h2, hat⟩ := hu.rd.heads
  have HAT := Lib.hid hat
  have HFH := Lib.hid hfh
  have HRL := Lib.hid hrl
  obtain ⟨N, hN⟩ : ∃ N, rs.length = N := ⟨_, rfl⟩
  have HN := Lib.hid hN
  rw [hN] at h1 hl ⊢
  unfold maxLen at h2
  have hmk := make_rows w N (by omega)
  obtain ⟨wm, hmr, hmo, hmx⟩ := hmk
  have HMO := Lib.hid hmo
  have HMX := Lib.hid hmx
  clear hu hat hfh hrl hN hmo hmx
  go_enter Tryz.func57, Tryz.ntmps57
  go_wp2_with fail
  clear hmr
  go_loopw [4, 5, 11] (fun _ _ i wr => ∃ (j : Nat) (ch : List Value), j ≤ N ∧ i = .int .i64 j ∧ ch.length = j ∧ wr.ownsRow w.heap.size 58 1 (.slice (some ⟨w.heap.size, 0, none⟩) N N) N (ch ++ List.replicate (N - j) (.slice none 0 0)) ∧ CopyRows w.heap.size wr ch (rs.take j) ∧ Ext w wr) (fun _ _ i _ => N - (intOf i).toNat)
  case atStart => exact ⟨0, [], Nat.zero_le _, rfl, rfl, HMO.out, CopyRows.nil _ _, HMX.out⟩
  case round =>
    obtain ⟨j, ch, hj, rfl, hcl, ho, hcr, hx⟩ := hrel
    have HCL := Lib.hid hcl
    have HO := Lib.hid ho
    have HCR := Lib.hid hcr
    have HX := Lib.hid hx
    clear hcl ho hcr hx
    by_cases hlt : j < N
    · have hjl : j < rs.length := by have := HN.out; omega
      obtain ⟨a1, a2, a3, ha, hra⟩ := HFH.out.get j hjl
      obtain ⟨g, off, rfl, c0⟩ := HAT.out j _ ha
      have x0 := (HX.out.cell (lt_of_cell c0)).trans c0
      have HTS := Lib.hid (List.take_succ_eq_append_getElem hjl)
      have HCLN := Lib.hid (cloneRow_any _ rs[j] wr (hra.mono HX.out) (HRL.out _ (List.getElem_mem hjl)))
      generalize rs[j] = r at HTS HCLN
      clear ha hra c0
      go_wp2_with fail
      refine HCLN.out.mono ?_
      rintro e w1 ⟨⟨o, rfl, ho⟩, x1⟩
      have HOV := Lib.hid ho
      have HX1 := Lib.hid x1
      obtain ⟨va, vc, hov⟩ : ∃ va vc, o = .slice va r.length vc := by
        obtain ⟨va, vc, e, -, -⟩ := ho.rd.shape
        exact ⟨va, vc, e⟩
      subst hov
      have HO1 := Lib.hid (owns_extS HO.out x1)
      have cG : ∃ q, w1.cell? ⟨w.heap.size, j, none⟩ = some q := ⟨_, (HO1.out.cellAt j (by omega)).trans (List.getElem?_eq_getElem (by rw [List.length_append, HCL.out, List.length_replicate]; omega))⟩
      obtain ⟨q, cG⟩ := cG
      have fG := HO1.out.frozenAt j
      have HSZ := Lib.hid HX.out.size
      have hGl : w.heap.size < w1.heap.size := (HO1.out.lt _ rfl).2
      have hwr : w.heap.size ≤ wr.heap.size := Nat.le_of_lt (HO.out.lt w.heap.size rfl).2
      have HST := Lib.hid ((HO1.out.stored j (.slice va r.length vc)).1)
      have HOS := Lib.hid (OnlyS.of_onlyP (X := fun k => (Value.slice (some ⟨w.heap.size, 0, none⟩) N N).ownBlock = some k) (OnlyP.set w.heap.size j w1 (.slice va r.length vc)) rfl)
      have HCR2 := Lib.hid ((((HCR.out.ext x1).append (CopyRows.one (HOV.out.base_le hwr))).beside HO1.out HOS.out))
      have HXF := Lib.hid (show Below w.heap.size w (w1.setCell ⟨w.heap.size, j, none⟩ (.slice va r.length vc)) from Below.setCell (show Below w.heap.size w w1 from Ext.trans HX.out x1) (Nat.le_refl _) _)
      rw [set_made hlt HCL.out] at HST
      rw [← HTS.out] at HCR2
      clear ho x1
      go_wp2_with fail
      go_roundw
      case rel => exact ⟨j + 1, _, by omega, by go_num, by rw [List.length_append, HCL.out]; rfl, HST.out, HCR2.out, HXF.out⟩
      case measure => simp [intOf]; omega
    · have hjN : j = N := by omega
      rw [hjN] at HO HCR HCL
      have HALL := Lib.hid (show rs.take N = rs from List.take_of_length_le (by have := HN.out; omega))
      rw [HALL.out] at HCR
      rw [Nat.sub_self, List.replicate_zero, List.append_nil] at HO
      rw [hjN]
      clear hjN HAT HFH
      go_wp2_with fail
      go_ret
      exact ⟨⟨_, rfl, w.heap.size, N, ch, Nat.le_refl _, rfl, HN.out.symm, HCL.out, HO.out, HCR.out⟩, HX.out⟩
theorem enters_sort1 : ∀ args w, (callFunc 59 args).run Tryz.prog w = .ok (.enter 59 args) w := enters_of Tryz.func59 (by kernel_rfl) rfl
theorem cmpRows_any (kb : Nat) (u v x : Value) (a b : List V) (ks : List Ky) (w : World) (hu : RdVals w u a) (hv : RdVals w v b) (hx : RdKs w x ks) (ha : FitR 5000 a) (hb : FitR 5000 b) (hk : w.cell? ⟨kb, 0, none⟩ = some x) :
    Calls Tryz.prog 59 #[u, v, .pointer (some ⟨kb, 0, none⟩)] w fun e w' => e = .returned (.int .i64 (cmpR ks a b)) ∧ Ext w w' := by
  have HC := Lib.hid (pCompareQ_any u v x a b ks w hu hv hx ha hb)
  obtain ⟨ko, kcap, rfl, -, -⟩ := hx.shape
  clear hu hv hx
  go_enter Tryz.func59, Tryz.ntmps59
  go_wp2_with fail
  refine HC.out.mono ?_
  rintro e w1 ⟨rfl, x1⟩
  have HX := Lib.hid x1
  clear x1
  go_wp2_with fail
  go_ret
  exact ⟨rfl, HX.out⟩
set_option maxRecDepth 100000 in
set_option maxHeartbeats 4000000 in
theorem pSortQ_any (u x : Value) (rs : List (List V)) (ks : List Ky) (w : World) (hu : RdRV w u rs) (hx : RdKs w x ks) (hf : FitL rs) (hl : rs.length ≤ 100000) :
    Calls Tryz.prog 33 #[u, x] w fun e w' => (∃ o, e = .returned o ∧ Cp w.heap.size w' o (sortS ks rs)) ∧ Ext w w' := by
  obtain ⟨ko, kcap, rfl, -, -⟩ := hx.shape
  have HKS := Lib.hid hx
  have HF := Lib.hid hf.1
  generalize ks.length = KN at HKS ⊢
  have HK0 := Lib.hid (row_new w [.slice ko KN kcap] 23 0 _ rfl)
  have HXK := Lib.hid (ext_new w (.cells #[.slice ko KN kcap] 23))
  have hGw : (w.alloc (.cells #[.slice ko KN kcap] 23)).heap.size = w.heap.size + 1 := by simp only [World.alloc, Array.size_push]
  have HCP := Lib.hid (pCopied15_any u rs (w.alloc (.cells #[.slice ko KN kcap] 23)) (hu.mono HXK.out) hf.2 (by omega))
  rw [hGw] at HCP
  have hmf : ∀ (fn : Fn) (first cap : Array Value) (w : World), (Instr.makeFunc fn first cap).run Tryz.prog w = .ok (.func fn first cap) w := fun _ _ _ _ => rfl
  clear hu hx hf hGw
  go_enter Tryz.func33, Tryz.ntmps33
  go_wp2_with fail
  refine HCP.out.mono ?_
  rintro e wr ⟨⟨o, rfl, g, N, ch, hg, rfl, hNr, hcl, ho, hcr⟩, x1⟩
  have HG := Lib.hid hg
  have HNR := Lib.hid hNr
  have HCL := Lib.hid hcl
  have HO := Lib.hid ho
  have HCR := Lib.hid hcr
  have HKB := Lib.hid ((x1.cell (lt_of_cell HK0.out)).trans HK0.out)
  have HX := Lib.hid (Ext.trans HXK.out x1)
  have hN : N ≤ 100000 := by omega
  clear hg hNr hcl ho hcr x1
  have HSORT := Lib.hid (sortStable_any 59 (.pointer (some ⟨w.heap.size, 0, none⟩)) (fun a b => cmpR ks (rowOf wr a) (rowOf wr b)) (fun a => a ∈ ch) g g N N wr
    ⟨(cmpR_pre ks).on (rowOf wr), enters_sort1, fun a b ha hb W hW => by
      obtain ⟨i, hi, rfl⟩ := List.mem_iff_getElem.1 ha
      obtain ⟨k, hk, rfl⟩ := List.mem_iff_getElem.1 hb
      have hir : i < rs.length := HCR.out.1 ▸ hi
      have hkr : k < rs.length := HCR.out.1 ▸ hk
      have p1 := HCR.out.2 i hi hir
      have p2 := HCR.out.2 k hk hkr
      rw [rowOf_eq p1.rd, rowOf_eq p2.rd]
      have hkW : W.cell? ⟨w.heap.size, 0, none⟩ = some (.slice ko KN kcap) := (OnlyS.of_onlyP (X := fun k => k = g) hW rfl).cell HKB.out (by have := HG.out; show ¬ w.heap.size = g; omega)
      have hkks : RdKs W (.slice ko KN kcap) ks := HKS.out.mono ((show Below w.heap.size w wr from HX.out).trans ((OnlyS.of_onlyP (X := fun k => k = g) hW rfl).below HX.out.size (fun b hb => by have := HG.out; omega)))
      exact cmpRows_any w.heap.size _ _ _ rs[i] rs[k] ks W (p1.onlyP HO.out rfl hW).rd (p2.onlyP HO.out rfl hW).rd hkks (HF.out _ (List.getElem_mem hir)) (HF.out _ (List.getElem_mem hkr)) hkW⟩ ch wr
    ⟨HCL.out, by omega, HO.out, OnlyP.refl _ _, fun a ha => ⟨ha, HCR.out.rd.shape a ha⟩⟩)
  go_wp2_with fail
  refine HSORT.out.mono ?_
  rintro e w2 ⟨rfl, s, hs, hst⟩
  have HCP2 := Lib.hid (show Cp w.heap.size w2 (.slice (some ⟨g, 0, none⟩) N N) (sortS ks rs) from by
    have hgb : w.heap.size ≤ g := by have := HG.out; omega
    have h4 := HCR.out.sorted HO.out rfl hst.only hs
    refine ⟨s, .inl ?_, h4.base_le hgb⟩
    have h6 := Joins.ownsRow_le hst.own hgb
    rw [hst.len]
    exact h6)
  have HXF := Lib.hid (show Below w.heap.size w w2 from (show Below w.heap.size w wr from HX.out).trans ((OnlyS.of_onlyP (X := fun k => k = g) hst.only rfl).below HX.out.size (fun b hb => by have := HG.out; omega)))
  clear hs hst
  go_wp2_with fail
  go_ret
  exact ⟨⟨_, rfl, HCP2.out⟩, HXF.out⟩
end Go.Proofs.YtaoegcakefodaaaGreat

namespace Go.Proofs.YtaoegcakefodaaaGreat
open Go.RowKit Go.BigFrame
theorem CpOwn.cp {base base' : Nat} {w : World} {u : Value} {rs : List (List V)} (h : CpOwn base w u rs) (hb : base' ≤ base) : Cp base' w u rs := by
  obtain ⟨g, N, ch, hg, rfl, hN, hcl, ho, hc⟩ := h
  refine ⟨ch, .inl ?_, hc.base_le (Nat.le_trans hb hg)⟩
  rw [hcl]
  exact Joins.ownsRow_le ho (Nat.le_trans hb hg)
end Go.Proofs.YtaoegcakefodaaaGreat

namespace Go.Proofs.YtaoegcakefodaaaGreat
open Go.RowKit Go.BigFrame
theorem pCompare15_any (u v x : Value) (a b : List V) (ks : List Ky) (w : World) (hu : RdVals w u a) (hv : RdVals w v b) (hx : RdKs w x ks) (ha : FitR 5000 a) (hb : FitR 5000 b) :
    Calls Tryz.prog 52 #[u, v, x] w fun e w' => e = .returned (.int .i64 (cmpR ks a b)) ∧ Ext w w' :=
  pCompareQ_any u v x a b ks w hu hv hx ha hb
theorem pSort15_any (u x : Value) (rs : List (List V)) (ks : List Ky) (w : World) (hu : RdRV w u rs) (hx : RdKs w x ks) (hf : FitL rs) (hl : rs.length ≤ 100000) :
    Calls Tryz.prog 33 #[u, x] w fun e w' => (∃ o, e = .returned o ∧ Cp w.heap.size w' o (sortS ks rs)) ∧ Ext w w' :=
  pSortQ_any u x rs ks w hu hx hf hl
end Go.Proofs.YtaoegcakefodaaaGreat

namespace Go.Proofs.YtaoegcakefodaaaGreat
open Go.RowKit Go.BigFrame
theorem own_others {Y : Nat → Prop} {base : Nat} {e : TypeId} {size : Nat} {w w' : World} {v : Value} {n : Nat} {xs : List Value} (h : w.ownsRow base e size v n xs) (ho : OnlyS Y w w') (hx : ∀ k, v.ownBlock = some k → ¬ Y k) : w'.ownsRow base e size v n xs := by
  refine ⟨h.1, ?_⟩
  rcases h.2 with ⟨rfl, h2⟩ | ⟨g, cap, cur, rfl, h2, h3, h4, h5, h6, h7⟩
  · exact .inl ⟨rfl, h2⟩
  · exact .inr ⟨g, cap, cur, rfl, h2, (ho.block g (Array.getElem?_eq_some_iff.1 h3).1 (hx g rfl)).trans h3, h4, h5, h6, h7⟩
theorem Blk.others {Y : Nat → Prop} {W W' : World} {b : Nat} {xs : List Value} {t : TypeId} (h : Blk W b xs t) (ho : OnlyS Y W W') (hx : ¬ Y b) : Blk W' b xs t := (ho.block b h.lt hx).trans h
theorem Blk.apart {base size n : Nat} {e t : TypeId} {w : World} {b : Nat} {xs ys : List Value} {v : Value} (h : Blk w b xs t) (h' : w.ownsRow base e size v n ys) (hne : t ≠ e) : v.ownBlock ≠ some b := fun h2 => by
  obtain ⟨c, fz, e1⟩ := Lib.ownsRow_kind h' b h2
  rw [show w.heap[b]? = _ from h] at e1
  injection e1 with e3
  injection e3 with e4 e5
  exact absurd e5 hne
def OptO (B : Nat) (O : Nat → Prop) (w : World) (v : Value) : Option (List V) → Prop
  | none => v = .slice none 0 0
  | some r => (w.ownsRow B 56 3 v r.length (r.flatMap V.cells) ∧ v ≠ .slice none 0 0) ∧ ∀ k, v.ownBlock = some k → O k
theorem OptO.opt {B : Nat} {O : Nat → Prop} {w : World} {v : Value} {o : Option (List V)} (h : OptO B O w v o) : OptV w v o := by
  cases o with
  | none => exact h
  | some r => exact OptV.of_own h.1.1 h.1.2
theorem OptO.others {B : Nat} {O Y : Nat → Prop} {w w' : World} {v : Value} {o : Option (List V)} (h : OptO B O w v o) (ho : OnlyS Y w w') (hy : ∀ k, v.ownBlock = some k → ¬ Y k) : OptO B O w' v o := by
  cases o with
  | none => exact h
  | some r => exact ⟨⟨own_others h.1.1 ho hy, h.1.2⟩, h.2⟩
theorem OptO.mono {B : Nat} {O O' : Nat → Prop} {w : World} {v : Value} {o : Option (List V)} (h : OptO B O w v o) (hx : ∀ k, O k → O' k) : OptO B O' w v o := by
  cases o with
  | none => exact h
  | some r => exact ⟨h.1, fun k hk => hx k (h.2 k hk)⟩
theorem OptO.apart {B base n : Nat} {O : Nat → Prop} {w : World} {v u : Value} {o : Option (List V)} {e : TypeId} {size : Nat} {ys : List Value} (h : OptO B O w v o) (h' : w.ownsRow base e size u n ys) (hne : 56 ≠ e) : ApartV v u := by
  cases o with
  | none => rw [show v = .slice none 0 0 from h]; exact ApartV.nil' u
  | some r => exact own_apart hne h.1.1 h'
theorem OptO.apartB {B : Nat} {O : Nat → Prop} {w : World} {v : Value} {o : Option (List V)} {b : Nat} {t : TypeId} {ys : List Value} (h : OptO B O w v o) (h' : Blk w b ys t) (hne : t ≠ 56) : v.ownBlock ≠ some b := by
  cases o with
  | none => rw [show v = .slice none 0 0 from h]; exact fun h => by cases h
  | some r => exact h'.apart h.1.1 hne
theorem OptO.lt {B : Nat} {O : Nat → Prop} {w : World} {v : Value} {o : Option (List V)} (h : OptO B O w v o) {k : Nat} (hk : v.ownBlock = some k) : B ≤ k ∧ k < w.heap.size := by
  cases o with
  | none => rw [show v = .slice none 0 0 from h] at hk; cases hk
  | some r => exact h.1.1.lt k hk
theorem OptO.base_le {B B' : Nat} {O : Nat → Prop} {w : World} {v : Value} {o : Option (List V)} (h : OptO B O w v o) (hb : B' ≤ B) : OptO B' O w v o := by
  cases o with
  | none => exact h
  | some r => exact ⟨⟨Joins.ownsRow_le h.1.1 hb, h.1.2⟩, h.2⟩
def HdO (B : Nat) (O : Nat → Prop) (w : World) (hs : List Value) (os : List (Option (List V))) : Prop := hs.length = os.length ∧ ∀ i, (h : i < hs.length) → (h' : i < os.length) → OptO B O w hs[i] os[i]
theorem HdO.nil (B : Nat) (O : Nat → Prop) (w : World) : HdO B O w [] [] := ⟨rfl, fun _ h => absurd h (Nat.not_lt_zero _)⟩
theorem HdO.others {B : Nat} {O Y : Nat → Prop} {w w' : World} {hs : List Value} {os : List (Option (List V))} (h : HdO B O w hs os) (ho : OnlyS Y w w') (hy : ∀ v ∈ hs, ∀ k, v.ownBlock = some k → ¬ Y k) : HdO B O w' hs os := ⟨h.1, fun i a b => (h.2 i a b).others ho (hy _ (List.getElem_mem a))⟩
theorem HdO.mono {B : Nat} {O O' : Nat → Prop} {w : World} {hs : List Value} {os : List (Option (List V))} (h : HdO B O w hs os) (hx : ∀ k, O k → O' k) : HdO B O' w hs os := ⟨h.1, fun i a b => (h.2 i a b).mono hx⟩
theorem HdO.blocks {B : Nat} {O : Nat → Prop} {w : World} {hs : List Value} {os : List (Option (List V))} (h : HdO B O w hs os) : ∀ v ∈ hs, ∀ k, v.ownBlock = some k → O k := fun v hv k hk => by
  obtain ⟨i, hi, rfl⟩ := List.mem_iff_getElem.1 hv
  have h1 := h.2 i hi (h.1 ▸ hi)
  cases ho : os[i]'(h.1 ▸ hi) with
  | none => rw [ho] at h1; rw [show hs[i] = .slice none 0 0 from h1] at hk; cases hk
  | some r => rw [ho] at h1; exact h1.2 k hk
theorem HdO.apart {B base n : Nat} {O : Nat → Prop} {w : World} {u : Value} {hs : List Value} {os : List (Option (List V))} {e : TypeId} {size : Nat} {ys : List Value} (h : HdO B O w hs os) (h' : w.ownsRow base e size u n ys) (hne : 56 ≠ e) : ∀ v ∈ hs, ApartV v u := fun v hv => by
  obtain ⟨i, hi, rfl⟩ := List.mem_iff_getElem.1 hv
  exact (h.2 i hi (h.1 ▸ hi)).apart h' hne
theorem HdO.apartB {B : Nat} {O : Nat → Prop} {w : World} {hs : List Value} {os : List (Option (List V))} {b : Nat} {t : TypeId} {ys : List Value} (h : HdO B O w hs os) (h' : Blk w b ys t) (hne : t ≠ 56) : ∀ v ∈ hs, v.ownBlock ≠ some b := fun v hv => by
  obtain ⟨i, hi, rfl⟩ := List.mem_iff_getElem.1 hv
  exact (h.2 i hi (h.1 ▸ hi)).apartB h' hne
theorem HdO.snoc {B : Nat} {O : Nat → Prop} {w : World} {hs : List Value} {os : List (Option (List V))} {v : Value} {o : Option (List V)} (h : HdO B O w hs os) (hv : OptO B O w v o) : HdO B O w (hs ++ [v]) (os ++ [o]) := by
  refine ⟨by rw [List.length_append, List.length_append, h.1]; rfl, fun i h1 h2 => ?_⟩
  rw [List.length_append] at h1 h2
  by_cases hi : i < hs.length
  · rw [List.getElem_append_left hi, List.getElem_append_left (h.1 ▸ hi)]
    exact h.2 i hi (h.1 ▸ hi)
  · have e := h.1
    have e1 : (hs ++ [v])[i] = v := by
      rw [List.getElem_append_right (by omega)]
      simp
    have e2 : (os ++ [o])[i] = o := by
      rw [List.getElem_append_right (by omega)]
      simp
    rw [e1, e2]
    exact hv
theorem HdO.set {B : Nat} {O : Nat → Prop} {w : World} {hs : List Value} {os : List (Option (List V))} (h : HdO B O w hs os) (j : Nat) {v : Value} {o : Option (List V)} (hv : OptO B O w v o) : HdO B O w (hs.set j v) (os.set j o) := by
  refine ⟨by rw [List.length_set, List.length_set, h.1], fun i h1 h2 => ?_⟩
  rw [List.length_set] at h1 h2
  rw [List.getElem_set, List.getElem_set]
  by_cases e : j = i
  · rw [if_pos e, if_pos e]; exact hv
  · rw [if_neg e, if_neg e]; exact h.2 i h1 h2
theorem HdO.opt {B : Nat} {O : Nat → Prop} {w : World} {hs : List Value} {os : List (Option (List V))} (h : HdO B O w hs os) : HdOpt w hs os := ⟨h.1, fun i a b => (h.2 i a b).opt⟩
def KyO (O : Nat → Prop) (w : World) (K : Value) (ks : List Ky) : Prop := RdKs w K ks ∧ (ks ≠ [] → ∀ k, K.ownBlock = some k → O k ∧ ∃ c fz, w.heap[k]? = some (.cells c 60 fz))
theorem RdKs.onlyS {Y : Nat → Prop} {w w' : World} {u : Value} {l : List Ky} (h : RdKs w u l) (ho : OnlyS Y w w') (hx : l ≠ [] → ∀ k, u.ownBlock = some k → ¬ Y k) : RdKs w' u l := by
  obtain ⟨ao, cap, rfl, h2, h3, h4, h0⟩ := h
  refine ⟨ao, cap, rfl, h2, h3, fun j hj => ?_, h0⟩
  obtain ⟨g, off, rfl, h6, h7⟩ := h4 j hj
  have hn := hx (by rintro rfl; simp at hj) g rfl
  exact ⟨g, off, rfl, ho.cell h6 hn, ho.cell h7 hn⟩
theorem KyO.others {O Y : Nat → Prop} {w w' : World} {K : Value} {ks : List Ky} (h : KyO O w K ks) (ho : OnlyS Y w w') (hx : ks ≠ [] → ∀ k, K.ownBlock = some k → ¬ Y k) : KyO O w' K ks :=
  ⟨h.1.onlyS ho hx, fun hn k hk => ⟨(h.2 hn k hk).1, by
    obtain ⟨c, fz, e⟩ := (h.2 hn k hk).2
    exact ⟨c, fz, (ho.block k (Array.getElem?_eq_some_iff.1 e).1 (hx hn k hk)).trans e⟩⟩⟩
theorem KyO.mono {O O' : Nat → Prop} {w : World} {K : Value} {ks : List Ky} (h : KyO O w K ks) (hx : ∀ k, O k → O' k) : KyO O' w K ks := ⟨h.1, fun hn k hk => ⟨hx k (h.2 hn k hk).1, (h.2 hn k hk).2⟩⟩
theorem KyO.apart {O : Nat → Prop} {w : World} {K : Value} {ks : List Ky} {base n size : Nat} {e : TypeId} {u : Value} {ys : List Value} (h : KyO O w K ks) (h' : w.ownsRow base e size u n ys) (hne : 60 ≠ e) : ks ≠ [] → ∀ k, K.ownBlock = some k → u.ownBlock ≠ some k := fun hn k hk h2 => by
  obtain ⟨c, fz, e1⟩ := (h.2 hn k hk).2
  obtain ⟨c', fz', e2⟩ := Lib.ownsRow_kind h' k h2
  rw [e1] at e2
  injection e2 with e3
  injection e3 with e4 e5
  exact absurd e5 hne
theorem KyO.apartB {O : Nat → Prop} {w : World} {K : Value} {ks : List Ky} {b : Nat} {t : TypeId} {ys : List Value} (h : KyO O w K ks) (h' : Blk w b ys t) (hne : 60 ≠ t) : ks ≠ [] → ∀ k, K.ownBlock = some k → k ≠ b := fun hn k hk e => by
  obtain ⟨c, fz, e1⟩ := (h.2 hn k hk).2
  rw [e, show w.heap[b]? = _ from h'] at e1
  injection e1 with e3
  injection e3 with e4 e5
  exact absurd e5.symm hne
structure TM (B : Nat) (O : Nat → Prop) (w : World) (t : Nat) (K HV LV : Value) (hs : List Value) (os : List (Option (List V))) (lost : List Nat) (ks : List Ky) (n : Int) : Prop where
  blk : Blk w t [K, HV, LV, .int .i64 n] 154
  keys : KyO O w K ks
  hown : w.ownsRow B 58 1 HV os.length hs
  hd : HdO B O w hs os
  lown : w.ownsRow B 3 1 LV lost.length (lost.map fun x => Value.int .i64 (x : Nat))
  tO : O t
  hO : ∀ k, HV.ownBlock = some k → O k
  lO : ∀ k, LV.ownBlock = some k → O k
  lt : ∀ b, O b → B ≤ b ∧ b < w.heap.size
  fit : FitO 5000 os
def Wr (t : Nat) (HV LV : Value) (k : Nat) : Prop := k = t ∨ HV.ownBlock = some k ∨ LV.ownBlock = some k
section
variable {B : Nat} {O : Nat → Prop} {w : World} {t : Nat} {K HV LV : Value} {hs : List Value} {os : List (Option (List V))} {lost : List Nat} {ks : List Ky} {n : Int}
theorem TM.wr (h : TM B O w t K HV LV hs os lost ks n) {k : Nat} (hk : Wr t HV LV k) : O k := by
  rcases hk with rfl | hk | hk
  · exact h.tO
  · exact h.hO k hk
  · exact h.lO k hk
theorem TM.others {Y : Nat → Prop} {w' : World} (h : TM B O w t K HV LV hs os lost ks n) (ho : OnlyS Y w w') (hy : ∀ b, Y b → ¬ O b) : TM B O w' t K HV LV hs os lost ks n where
  blk := h.blk.others ho fun y => hy t y h.tO
  keys := h.keys.others ho fun hn k hk y => hy k y (h.keys.2 hn k hk).1
  hown := own_others h.hown ho fun k hk y => hy k y (h.hO k hk)
  hd := h.hd.others ho fun v hv k hk y => hy k y (h.hd.blocks v hv k hk)
  lown := own_others h.lown ho fun k hk y => hy k y (h.lO k hk)
  tO := h.tO
  hO := h.hO
  lO := h.lO
  lt := fun b hb => ⟨(h.lt b hb).1, Nat.lt_of_lt_of_le (h.lt b hb).2 ho.size⟩
  fit := h.fit
theorem TM.ext {w' : World} (h : TM B O w t K HV LV hs os lost ks n) (hx : Ext w w') : TM B O w' t K HV LV hs os lost ks n := h.others (Y := fun _ => False) (OnlyS.of_ext hx) fun _ h => h.elim
theorem TM.more {O' : Nat → Prop} (h : TM B O w t K HV LV hs os lost ks n) (ho : ∀ b, O b → O' b) (hlt : ∀ b, O' b → B ≤ b ∧ b < w.heap.size) : TM B O' w t K HV LV hs os lost ks n where
  blk := h.blk
  keys := h.keys.mono ho
  hown := h.hown
  hd := h.hd.mono ho
  lown := h.lown
  tO := ho t h.tO
  hO := fun k hk => ho k (h.hO k hk)
  lO := fun k hk => ho k (h.lO k hk)
  lt := hlt
  fit := h.fit
theorem TM.base_le {B' : Nat} (h : TM B O w t K HV LV hs os lost ks n) (hb : B' ≤ B) : TM B' O w t K HV LV hs os lost ks n where
  blk := h.blk
  keys := h.keys
  hown := Joins.ownsRow_le h.hown hb
  hd := ⟨h.hd.1, fun i a b => (h.hd.2 i a b).base_le hb⟩
  lown := Joins.ownsRow_le h.lown hb
  tO := h.tO
  hO := h.hO
  lO := h.lO
  lt := fun b hb2 => ⟨Nat.le_trans hb (h.lt b hb2).1, (h.lt b hb2).2⟩
  fit := h.fit
theorem TM.asked (h : TM B O w t K HV LV hs os lost ks n) (m : Int) : TM B O (w.setCell ⟨t, 3, none⟩ (.int .i64 m)) t K HV LV hs os lost ks m ∧ OnlyS (Wr t HV LV) w (w.setCell ⟨t, 3, none⟩ (.int .i64 m)) := by
  have ho := only_setL t 3 w (.int .i64 m)
  refine ⟨?_, ho.mono fun b _ e => .inl e⟩
  exact {
    blk := h.blk.set 3 (.int .i64 m)
    keys := h.keys.others ho fun hn k hk => h.keys.apartB h.blk (by decide) hn k hk
    hown := own_others h.hown ho fun k hk e => h.blk.apart h.hown (by decide) (e ▸ hk)
    hd := h.hd.others ho fun v hv k hk e => h.hd.apartB h.blk (by decide) v hv (e ▸ hk)
    lown := own_others h.lown ho fun k hk e => h.blk.apart h.lown (by decide) (e ▸ hk)
    tO := h.tO
    hO := h.hO
    lO := h.lO
    lt := fun b hb => ⟨(h.lt b hb).1, Nat.lt_of_lt_of_le (h.lt b hb).2 ho.size⟩
    fit := h.fit }
theorem TM.loses (h : TM B O w t K HV LV hs os lost ks n) {i : Nat} (hi : i < lost.length) :
    ∃ g c, LV = .slice (some ⟨g, 0, none⟩) lost.length c ∧ lost.length ≤ c ∧ c ≤ maxLen ∧ O g ∧ w.cell? ⟨g, i, none⟩ = some (.int .i64 (lost[i] : Nat)) ∧ w.frozen? ⟨g, i, none⟩ = false ∧ g ≠ t ∧
      ∀ m : Nat, TM B O (w.setCell ⟨g, i, none⟩ (.int .i64 (m : Nat))) t K HV LV hs os (lost.set i m) ks n ∧ OnlyS (Wr t HV LV) w (w.setCell ⟨g, i, none⟩ (.int .i64 (m : Nat))) := by
  obtain ⟨a, c, rfl, hc1, hc2⟩ := own_shapeP h.lown
  obtain ⟨g, rfl, -, hfz, hB, hlt, hst⟩ := own_at h.lown hi
  have hOg := h.lO g rfl
  refine ⟨g, c, rfl, hc1, hc2, hOg, (h.lown.cellAt i (by omega)).trans (by rw [List.getElem?_map, List.getElem?_eq_getElem hi]; rfl), hfz, fun e => h.blk.apart h.lown (by decide) (by rw [← e]; rfl), fun m => ?_⟩
  have ho := only_setL g i w (.int .i64 (m : Nat))
  refine ⟨?_, ho.mono fun b _ e => .inr (.inr (by rw [e]; rfl))⟩
  exact {
    blk := h.blk.others ho fun e => h.blk.apart h.lown (by decide) (by rw [e]; rfl)
    keys := h.keys.others ho fun hn k hk e => h.keys.apart h.lown (by decide) hn k hk (by rw [e]; rfl)
    hown := own_others h.hown ho fun k hk e => own_apart (by decide) h.hown h.lown k hk (by rw [e]; rfl)
    hd := h.hd.others ho fun v hv k hk e => h.hd.apart h.lown (by decide) v hv k hk (by rw [e]; rfl)
    lown := by
      have := hst (.int .i64 (m : Nat))
      rw [List.length_set, List.map_set]
      exact this
    tO := h.tO
    hO := h.hO
    lO := h.lO
    lt := fun b hb => ⟨(h.lt b hb).1, Nat.lt_of_lt_of_le (h.lt b hb).2 ho.size⟩
    fit := h.fit }
theorem TM.head (h : TM B O w t K HV LV hs os lost ks n) {i : Nat} (hi : i < os.length) :
    ∃ g c v, HV = .slice (some ⟨g, 0, none⟩) os.length c ∧ os.length ≤ c ∧ c ≤ maxLen ∧ O g ∧ hs[i]? = some v ∧ OptO B O w v os[i] ∧ w.cell? ⟨g, i, none⟩ = some v ∧ w.frozen? ⟨g, i, none⟩ = false ∧ g ≠ t ∧
      ∀ u o, OptO B O w u o → (∀ r, o = some r → FitR 5000 r) → TM B O (w.setCell ⟨g, i, none⟩ u) t K HV LV (hs.set i u) (os.set i o) lost ks n ∧ OnlyS (Wr t HV LV) w (w.setCell ⟨g, i, none⟩ u) := by
  obtain ⟨a, c, rfl, hc1, hc2⟩ := own_shapeP h.hown
  obtain ⟨g, rfl, -, hfz, hB, hlt, hst⟩ := own_at h.hown hi
  have hOg := h.hO g rfl
  have hih : i < hs.length := by rw [h.hd.1]; exact hi
  refine ⟨g, c, hs[i], rfl, hc1, hc2, hOg, List.getElem?_eq_getElem hih, h.hd.2 i hih hi, (h.hown.cellAt i (by omega)).trans (List.getElem?_eq_getElem hih), hfz, fun e => h.blk.apart h.hown (by decide) (by rw [← e]; rfl), fun u o hu hf => ?_⟩
  have ho := only_setL g i w u
  refine ⟨?_, ho.mono fun b _ e => .inr (.inl (by rw [e]; rfl))⟩
  exact {
    blk := h.blk.others ho fun e => h.blk.apart h.hown (by decide) (by rw [e]; rfl)
    keys := h.keys.others ho fun hn k hk e => h.keys.apart h.hown (by decide) hn k hk (by rw [e]; rfl)
    hown := by rw [List.length_set]; exact hst u
    hd := (h.hd.others ho fun v hv k hk e => h.hd.apart h.hown (by decide) v hv k hk (by rw [e]; rfl)).set i (hu.others ho fun k hk e => hu.apart h.hown (by decide) k hk (by rw [e]; rfl))
    lown := own_others h.lown ho fun k hk e => own_apart (by decide) h.lown h.hown k hk (by rw [e]; rfl)
    tO := h.tO
    hO := h.hO
    lO := h.lO
    lt := fun b hb => ⟨(h.lt b hb).1, Nat.lt_of_lt_of_le (h.lt b hb).2 ho.size⟩
    fit := h.fit.set hf i }
theorem TM.push (h : TM B O w t K HV LV hs os lost ks n) {w5 : World} {v5 u : Value} {o : Option (List V)} (hu : OptO B O w u o) (hf : ∀ r, o = some r → FitR 5000 r) (h5 : w5.ownsRow B 58 1 v5 (os.length + 1) (hs ++ [u])) (ho : OnlyS (fun k => HV.ownBlock = some k) w w5) (hg : Grew w HV v5) :
    TM B (fun b => O b ∨ (w.heap.size ≤ b ∧ b < w5.heap.size)) (w5.setCell ⟨t, 1, none⟩ v5) t K v5 LV (hs ++ [u]) (os ++ [o]) lost ks n := by
  have hb5 := h.blk.others ho fun e => h.blk.apart h.hown (by decide) e
  have ho2 := only_setL t 1 w5 v5
  have hBw : B ≤ w.heap.size := by have := h.lt t h.tO; omega
  have hk5 := h.keys.others ho fun hn k hk => h.keys.apart h.hown (by decide) hn k hk
  have hd5 := (h.hd.others ho fun v hv k hk => h.hd.apart h.hown (by decide) v hv k hk).snoc (hu.others ho fun k hk => hu.apart h.hown (by decide) k hk)
  have hl5 := own_others h.lown ho fun k hk => own_apart (by decide) h.lown h.hown k hk
  exact {
    blk := hb5.set 1 v5
    keys := (hk5.others ho2 fun hn k hk => hk5.apartB hb5 (by decide) hn k hk).mono fun k hk => .inl hk
    hown := by
      rw [List.length_append]
      exact own_others h5 ho2 fun k hk e => hb5.apart h5 (by decide) (e ▸ hk)
    hd := (hd5.others ho2 fun v hv k hk e => hd5.apartB hb5 (by decide) v hv (e ▸ hk)).mono fun k hk => .inl hk
    lown := own_others hl5 ho2 fun k hk e => hb5.apart hl5 (by decide) (e ▸ hk)
    tO := .inl h.tO
    hO := fun k hk => by
      rcases hg with e | ⟨k', e, hle⟩
      · exact .inl (h.hO k (e ▸ hk))
      · rw [e] at hk
        cases hk
        exact .inr ⟨hle, (h5.lt _ e).2⟩
    lO := fun k hk => .inl (h.lO k hk)
    lt := fun b hb => by
      have h1 := ho.size
      have h2 := ho2.size
      rcases hb with hb | hb
      · have := h.lt b hb
        omega
      · omega
    fit := h.fit.snoc hf }
end
def Bump (n n' : Int) (s : Nat) : Prop := 0 ≤ n → n + s ≤ 4611686018427387904 → n ≤ n' ∧ n' ≤ n + s
theorem Bump.refl (n : Int) : Bump n n 0 := fun _ _ => ⟨Int.le_refl _, by omega⟩
theorem Bump.trans {a b c : Int} {s s' : Nat} (h : Bump a b s) (k : Bump b c s') : Bump a c (s + s') := fun h0 h1 => by
  obtain ⟨h2, h3⟩ := h h0 (by omega)
  obtain ⟨h4, h5⟩ := k (by omega) (by omega)
  omega
theorem Bump.mono {a b : Int} {s s' : Nat} (h : Bump a b s) (hs : s ≤ s') : Bump a b s' := fun h0 h1 => by
  obtain ⟨h2, h3⟩ := h h0 (by omega)
  omega
end Go.Proofs.YtaoegcakefodaaaGreat

namespace Go.Proofs.YtaoegcakefodaaaGreat
open Go.RowKit Go.BigFrame
def boxedV (v : V) : Value := if v.k = 1 then .iface 4 (.bool (v.n == 1)) else if v.k = 2 then .iface 3 (.int .i64 v.n) else if v.k = 3 then .iface 9 (.string ⟨v.s.toArray⟩) else .nilIface
theorem pBoxed_any (v : V) (w : World) : Calls Tryz.prog 125 #[v.val] w fun e w' => e = .returned (boxedV v) ∧ Ext w w' := by
  obtain ⟨k, n, s⟩ := v
  unfold boxedV V.val
  simp only
  by_cases h1 : k = 1
  · subst h1
    rw [if_pos rfl]
    go_enter Tryz.func125, Tryz.ntmps125
    go_wp2_with fail
    go_ret
    exact ⟨rfl, ext_one w _⟩
  · have q1 : (k == 1) = false := beq_eq_false_iff_ne.2 h1
    rw [if_neg h1]
    clear h1
    by_cases h2 : k = 2
    · subst h2
      rw [if_pos rfl]
      go_enter Tryz.func125, Tryz.ntmps125
      go_wp2_with fail
      go_ret
      exact ⟨rfl, ext_one w _⟩
    · have q2 : (k == 2) = false := beq_eq_false_iff_ne.2 h2
      rw [if_neg h2]
      clear h2
      by_cases h3 : k = 3
      · subst h3
        rw [if_pos rfl]
        go_enter Tryz.func125, Tryz.ntmps125
        go_wp2_with fail
        go_ret
        exact ⟨rfl, ext_one w _⟩
      · have q3 : (k == 3) = false := beq_eq_false_iff_ne.2 h3
        rw [if_neg h3]
        clear h3
        go_enter Tryz.func125, Tryz.ntmps125
        go_wp2_with fail
        go_ret
        exact ⟨rfl, ext_one w _⟩
theorem pLong_text (s : List UInt8) (w : World) : Calls Tryz.prog 140 #[.iface 9 (.string ⟨s.toArray⟩)] w fun e w' => e = .returned (.bool (decide (1024 < (s.length : Int)))) ∧ w' = w := by
  have hA := fun w => (as_hit (.string ⟨s.toArray⟩) w).2.2
  generalize hd : decide (1024 < (s.length : Int)) = B
  go_enter Tryz.func140, Tryz.ntmps140
  go_wp2_with fail
  go_ret
  exact ⟨rfl, rfl⟩
theorem pLong_other (T : TypeId) (x : Value) (hT : T ≠ 9) (w : World) : Calls Tryz.prog 140 #[.iface T x] w fun e w' => e = .returned (.bool false) ∧ w' = w := by
  have hA := fun w => (as_miss T x w).2.2 hT
  clear hT
  go_enter Tryz.func140, Tryz.ntmps140
  go_wp2_with fail
  go_ret
  exact ⟨rfl, rfl⟩
theorem pLong_nil (w : World) : Calls Tryz.prog 140 #[.nilIface] w fun e w' => e = .returned (.bool false) ∧ w' = w := by
  have hA := fun w => (as_nil w).2.2
  go_enter Tryz.func140, Tryz.ntmps140
  go_wp2_with fail
  go_ret
  exact ⟨rfl, rfl⟩
theorem pBit_any (b : Bool) (w : World) : Calls Tryz.prog 155 #[.bool b] w fun e w' => e = .returned (.int .i64 (if b = true then 1 else 0)) ∧ w' = w := by
  cases b with
  | true =>
    go_enter Tryz.func155, Tryz.ntmps155
    go_wp2_with fail
    go_ret
    exact ⟨rfl, rfl⟩
  | false =>
    go_enter Tryz.func155, Tryz.ntmps155
    go_wp2_with fail
    go_ret
    exact ⟨rfl, rfl⟩
def pairV (k n : Int) (s : List UInt8) (ok : Bool) : Value := .tuple #[.agg #[.int .u8 k, .int .i64 n, .string ⟨s.toArray⟩], .bool ok]
theorem pUn_nil (w : World) : Calls Tryz.prog 141 #[.nilIface] w fun e w' => e = .returned (pairV 0 0 [] true) ∧ Ext w w' := by
  go_enter Tryz.func141, Tryz.ntmps141
  go_wp2_with fail
  refine bodyPost_ret (v := .tuple #[.agg #[.int .u8 0, .int .i64 0, .string ⟨#[]⟩], .bool true]) (by simp [results, Tryz.results141, go_sem]) rfl ⟨rfl, ext_one w _⟩
theorem pUn_bool (b : Bool) (w : World) : Calls Tryz.prog 141 #[.iface 4 (.bool b)] w fun e w' => e = .returned (pairV 1 (if b = true then 1 else 0) [] true) ∧ Ext w w' := by
  have hA := fun w => (as_hit (.bool b) w).1
  have HB := Lib.hid (pBit_any b)
  generalize (if b = true then 1 else 0 : Int) = R at HB ⊢
  go_enter Tryz.func141, Tryz.ntmps141
  go_wp2_with fail
  refine (HB.out _).mono ?_
  rintro e w2 ⟨rfl, rfl⟩
  go_wp2_with fail
  refine bodyPost_ret (v := .tuple #[.agg #[.int .u8 1, .int .i64 R, .string ⟨#[]⟩], .bool true]) (by simp [results, Tryz.results141, go_sem]) rfl ⟨rfl, ext_one w _⟩
theorem pUn_int (n : Int) (w : World) : Calls Tryz.prog 141 #[.iface 3 (.int .i64 n)] w fun e w' => e = .returned (pairV 2 n [] true) ∧ Ext w w' := by
  have hA := fun w => (as_miss 3 (.int .i64 n) w).1 (by decide)
  have hB := fun w => (as_hit (.int .i64 n) w).2.1
  go_enter Tryz.func141, Tryz.ntmps141
  go_wp2_with fail
  refine bodyPost_ret (v := .tuple #[.agg #[.int .u8 2, .int .i64 n, .string ⟨#[]⟩], .bool true]) (by simp [results, Tryz.results141, go_sem]) rfl ⟨rfl, ext_one w _⟩
theorem pUn_text (s : List UInt8) (w : World) : Calls Tryz.prog 141 #[.iface 9 (.string ⟨s.toArray⟩)] w fun e w' => e = .returned (pairV 3 0 s true) ∧ Ext w w' := by
  have hA := fun w => (as_miss 9 (.string ⟨s.toArray⟩) w).1 (by decide)
  have hB := fun w => (as_miss 9 (.string ⟨s.toArray⟩) w).2.1 (by decide)
  have hC := fun w => (as_hit (.string ⟨s.toArray⟩) w).2.2
  go_enter Tryz.func141, Tryz.ntmps141
  go_wp2_with fail
  refine bodyPost_ret (v := .tuple #[.agg #[.int .u8 3, .int .i64 0, .string ⟨s.toArray⟩], .bool true]) (by simp [results, Tryz.results141, go_sem]) rfl ⟨rfl, ext_one w _⟩
set_option maxRecDepth 100000 in
theorem pUnbox_of (x : Value) (k n : Int) (s : List UInt8) (ok : Bool) (hl : ∀ w, Calls Tryz.prog 140 #[x] w fun e w' => e = .returned (.bool false) ∧ w' = w)
    (hu : ∀ w, Calls Tryz.prog 141 #[x] w fun e w' => e = .returned (pairV k n s ok) ∧ Ext w w') (w : World) :
    Calls Tryz.prog 124 #[x] w fun e w' => e = .returned (pairV k n s ok) ∧ Ext w w' := by
  have HL := Lib.hid hl
  have HU := Lib.hid hu
  clear hl hu
  unfold pairV at HU ⊢
  go_enter Tryz.func124, Tryz.ntmps124
  go_wp2_with fail
  refine (HL.out _).mono ?_
  rintro e w2 ⟨rfl, rfl⟩
  go_wp2_with fail
  refine (HU.out _).mono ?_
  rintro e w3 ⟨rfl, hb⟩
  have HC := Lib.hid (kept_cell (new_cell w [.int .u8 0, .int .i64 0, .string ⟨#[]⟩] 56) hb)
  have hf : ∀ j, w3.frozen? ⟨w.heap.size, j, none⟩ = false := fun j => by
    rw [frozen_ext hb (by simp)]
    unfold World.frozen?
    rw [heap_alloc_new]
    simp
  have HX := Lib.hid (Ext.trans (ext_one _ _) hb)
  have c0 := HC.out 0 _ rfl
  have c1 := HC.out 1 _ rfl
  have c2 := HC.out 2 _ rfl
  have f0 := hf 0
  have f1 := hf 1
  have f2 := hf 2
  have HS := Lib.hid (three_stored HC.out (.int .u8 k) (.int .i64 n) (.string ⟨s.toArray⟩))
  clear hb hf
  go_wp2_with fail
  have k0 := HS.out 0 _ rfl
  have k1 := HS.out 1 _ rfl
  have k2 := HS.out 2 _ rfl
  clear c0 c1 c2 f0 f1 f2
  refine bodyPost_ret (v := .tuple #[.agg #[.int .u8 k, .int .i64 n, .string ⟨s.toArray⟩], .bool ok]) (by simp [results, Tryz.results124, go_sem, k0, k1, k2]) rfl ⟨rfl, ?_⟩
  exact ((HX.out.setCell (p := ⟨w.heap.size, 0, none⟩) (Nat.le_refl _) _).setCell (p := ⟨w.heap.size, 1, none⟩) (Nat.le_refl _) _).setCell (p := ⟨w.heap.size, 2, none⟩) (Nat.le_refl _) _
theorem Unbox_nil (w : World) :
    Calls Tryz.prog 124 #[.nilIface] w fun e w' => e = .returned (.tuple #[.agg #[.int .u8 0, .int .i64 0, .string ⟨#[]⟩], .bool true]) ∧ Ext w w' := pUnbox_of _ _ _ [] _ pLong_nil pUn_nil w
theorem Unbox_bool (b : Bool) (w : World) :
    Calls Tryz.prog 124 #[.iface 4 (.bool b)] w fun e w' => e = .returned (.tuple #[.agg #[.int .u8 1, .int .i64 (if b = true then 1 else 0), .string ⟨#[]⟩], .bool true]) ∧ Ext w w' :=
  pUnbox_of _ _ _ [] _ (pLong_other _ _ (by decide)) (pUn_bool b) w
theorem Unbox_int (n : Int) (w : World) :
    Calls Tryz.prog 124 #[.iface 3 (.int .i64 n)] w fun e w' => e = .returned (.tuple #[.agg #[.int .u8 2, .int .i64 n, .string ⟨#[]⟩], .bool true]) ∧ Ext w w' :=
  pUnbox_of _ _ _ [] _ (pLong_other _ _ (by decide)) (pUn_int n) w
theorem Unbox_text (s : List UInt8) (hs : s.length ≤ 1024) (w : World) :
    Calls Tryz.prog 124 #[.iface 9 (.string ⟨s.toArray⟩)] w fun e w' => e = .returned (.tuple #[.agg #[.int .u8 3, .int .i64 0, .string ⟨s.toArray⟩], .bool true]) ∧ Ext w w' :=
  pUnbox_of _ _ _ s _ (by have h := pLong_text s; rw [decide_eq_false (by omega)] at h; exact h) (pUn_text s) w
theorem Unbox_long (s : List UInt8) (hs : 1024 < s.length) (hl : s.length ≤ 5000) (w : World) :
    Calls Tryz.prog 124 #[.iface 9 (.string ⟨s.toArray⟩)] w fun e w' => e = .returned (.tuple #[.agg #[.int .u8 0, .int .i64 0, .string ⟨#[]⟩], .bool false]) ∧ Ext w w' := by
  have HL := pLong_text s
  rw [decide_eq_true (by omega)] at HL
  replace HL := Lib.hid HL
  clear hs hl
  go_enter Tryz.func124, Tryz.ntmps124
  go_wp2_with fail
  refine (HL.out _).mono ?_
  rintro e w2 ⟨rfl, rfl⟩
  go_wp2_with fail
  refine bodyPost_ret (v := .tuple #[.agg #[.int .u8 0, .int .i64 0, .string ⟨#[]⟩], .bool false]) (by simp [results, Tryz.results124, go_sem]) rfl ⟨rfl, ext_one w _⟩
set_option maxRecDepth 100000 in
theorem pRight_of (v : V) (k n : Int) (s : List UInt8) (ok : Bool)
    (hu : ∀ w, Calls Tryz.prog 124 #[boxedV v] w fun e w' => e = .returned (pairV k n s ok) ∧ Ext w w') (w : World) :
    Calls Tryz.prog 105 #[v.val] w fun e w' => e = .returned (.bool (ok && decide ((⟨k, n, s⟩ : V) = v))) ∧ Ext w w' := by
  have HB := Lib.hid (pBoxed_any v)
  have HU := Lib.hid hu
  have hEQ := fun w => eq_val ⟨k, n, s⟩ v w
  clear hu
  unfold pairV at HU
  generalize boxedV v = X at HB HU
  generalize decide ((⟨k, n, s⟩ : V) = v) = D at hEQ ⊢
  obtain ⟨k', n', s'⟩ := v
  unfold V.val at HB hEQ ⊢
  simp only at HB hEQ ⊢
  have HE := Lib.hid hEQ
  clear hEQ
  go_enter Tryz.func105, Tryz.ntmps105
  go_wp2_with fail
  refine (HB.out _).mono ?_
  rintro e w2 ⟨rfl, hb⟩
  have HX := Lib.hid (Ext.trans (ext_one _ _) hb)
  have HC := Lib.hid (kept_cell (new_cell w [.int .u8 k', .int .i64 n', .string ⟨s'.toArray⟩] 56) hb)
  clear hb
  go_wp2_with fail
  refine (HU.out _).mono ?_
  rintro e w3 ⟨rfl, hb⟩
  have HX3 := Lib.hid (Ext.trans HX.out hb)
  have hc := kept_cell HC.out (Ext.trans hb (ext_one w3 (.cells #[.int .u8 k, .int .i64 n, .string ⟨s.toArray⟩] 56)))
  have c0 := hc 0 _ rfl
  have c1 := hc 1 _ rfl
  have c2 := hc 2 _ rfl
  have hEQ := HE.out
  clear hb hc
  cases ok with
  | true =>
    go_wp2_with fail
    go_ret
    exact ⟨rfl, Ext.trans HX3.out (ext_one _ _)⟩
  | false =>
    go_wp2_with fail
    go_ret
    exact ⟨rfl, Ext.trans HX3.out (ext_one _ _)⟩
theorem Right_any (v : V) (hv : v.fits) (hl : v.s.length ≤ 5000) (w : World) :
    Calls Tryz.prog 105 #[v.val] w fun e w' => e = .returned (.bool (rightV v)) ∧ Ext w w' := by
  have fin : ∀ b c : Bool, b = c → (Calls Tryz.prog 105 #[v.val] w fun e w' => e = .returned (.bool b) ∧ Ext w w') → (Calls Tryz.prog 105 #[v.val] w fun e w' => e = .returned (.bool c) ∧ Ext w w') := by
    rintro b _ rfl h
    exact h
  have hb : ∀ x, boxedV v = x → boxedV v = x := fun _ h => h
  obtain ⟨k, n, s⟩ := v
  simp only at hl
  have h0 := hv.k0
  simp only at h0
  by_cases h1 : k = 1
  · subst h1
    have e : boxedV ⟨1, n, s⟩ = .iface 4 (.bool (n == 1)) := rfl
    refine fin _ _ ?_ (pRight_of _ 1 (if (n == 1) = true then 1 else 0) [] true (by rw [e]; exact Unbox_bool _) w)
    rw [Bool.eq_iff_iff, rightV_iff]
    simp only [Bool.true_and, decide_eq_true_eq, V.mk.injEq, beq_iff_eq, true_and]
    constructor
    · rintro ⟨h, rfl⟩
      split at h <;> simp <;> omega
    · rintro (h | h | h | h)
      · omega
      · refine ⟨?_, h.2.symm⟩
        split <;> omega
      · omega
      · omega
  · by_cases h2 : k = 2
    · subst h2
      have e : boxedV ⟨2, n, s⟩ = .iface 3 (.int .i64 n) := rfl
      refine fin _ _ ?_ (pRight_of _ 2 n [] true (by rw [e]; exact Unbox_int _) w)
      rw [Bool.eq_iff_iff, rightV_iff]
      simp
    · by_cases h3 : k = 3
      · subst h3
        have e : boxedV ⟨3, n, s⟩ = .iface 9 (.string ⟨s.toArray⟩) := rfl
        by_cases hs : s.length ≤ 1024
        · refine fin _ _ ?_ (pRight_of _ 3 0 s true (by rw [e]; exact Unbox_text s hs) w)
          rw [Bool.eq_iff_iff, rightV_iff]
          simp [hs]
          exact eq_comm
        · refine fin _ _ ?_ (pRight_of _ 0 0 [] false (by rw [e]; exact Unbox_long s (by omega) hl) w)
          rw [Bool.eq_iff_iff, rightV_iff]
          simp
          omega
      · have e : boxedV ⟨k, n, s⟩ = .nilIface := by
          unfold boxedV
          simp only
          rw [if_neg h1, if_neg h2, if_neg h3]
        refine fin _ _ ?_ (pRight_of _ 0 0 [] true (by rw [e]; exact Unbox_nil) w)
        rw [Bool.eq_iff_iff, rightV_iff]
        simp [h1, h2, h3]
        constructor
        · rintro ⟨rfl, rfl, rfl⟩
          simp
        · rintro ⟨rfl, rfl, rfl⟩
          simp
end Go.Proofs.YtaoegcakefodaaaGreat

