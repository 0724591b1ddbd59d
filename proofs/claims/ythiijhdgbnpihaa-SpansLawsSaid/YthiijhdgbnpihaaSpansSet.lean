/-
  The contracts of the document's own spans: Set, List.
-/
import Derived.Test.YthiijhdgbnpihaaSpansRight
namespace Go.Proofs.Ythiijhdgbnpihaa
open Go.RowKit Go.BigFrame

/-- A block of 4096 bools: of each place whether it is on. -/
structure OnF (w : World) (g : Nat) (f : Int → Bool) : Prop where
  cell : ∀ k : Nat, k < 4096 → w.cell? ⟨g, k, none⟩ = some (.bool (f k))
  free : ∀ k : Nat, w.frozen? ⟨g, k, none⟩ = false
  lt : g < w.heap.size

theorem OnF.onlyS {X : Nat → Prop} {w w' : World} {g : Nat} {f : Int → Bool} (h : OnF w g f) (ho : OnlyS X w w') (hx : ¬ X g) : OnF w' g f := by
  refine ⟨fun k hk => ho.cell (h.cell k hk) hx, fun k => ?_, Nat.lt_of_lt_of_le h.lt ho.size⟩
  have := h.free k
  unfold World.frozen? at this ⊢
  rw [ho.block g h.lt hx]
  exact this
theorem OnF.ext {w w' : World} {g : Nat} {f : Int → Bool} (h : OnF w g f) (hx : Ext w w') : OnF w' g f := h.onlyS (X := fun _ => False) (OnlyS.of_ext hx) id
theorem OnF.congr {w : World} {g : Nat} {f f' : Int → Bool} (h : OnF w g f) (he : ∀ k : Int, 0 ≤ k → k < 4096 → f k = f' k) : OnF w g f' :=
  ⟨fun k hk => by rw [← he k (by omega) (by omega)]; exact h.cell k hk, h.free, h.lt⟩
theorem OnF.put {w : World} {g : Nat} {f : Int → Bool} (h : OnF w g f) (i : Nat) (b : Bool) : OnF (w.setCell ⟨g, i, none⟩ (.bool b)) g (fun k => if k = i then b else f k) := by
  refine ⟨fun k hk => ?_, fun k => by simpa [go_sem] using h.free k, by simpa [World.setCell] using h.lt⟩
  by_cases e : k = i
  · subst e
    rw [if_pos rfl]
    exact World.cell?_setCell_same _ _ _ (h.cell k hk)
  · rw [if_neg (by omega), cell_set_other (.inr e)]
    exact h.cell k hk
theorem onF_new {w w' : World} {base : Nat} (ho : w'.ownsRow base 4 1 (.slice (some ⟨w.heap.size, 0, none⟩) 4096 4096) 4096 (madeCells (Value.bool false).cells (4096 * 1)).toList) : OnF w' w.heap.size (fun _ => false) := by
  have e : (madeCells (Value.bool false).cells (4096 * 1)).toList = List.replicate 4096 (.bool false) := by
    rw [Nat.mul_one]
    exact toList_madeCells_one _ _
  rw [e] at ho
  refine ⟨fun k hk => ?_, fun k => ho.frozenAt k, (ho.lt _ rfl).2⟩
  rw [ho.cellAt k hk, List.getElem?_replicate, if_pos hk]
theorem made_ext {w w' : World} (h : w.grownBy w' none) : Ext w w' := ⟨h.os, h.tape, h.output, h.size, fun k hk => h.block k hk (by simp)⟩

/-- make([]bool, 4096), as a fact of the walk. -/
theorem make_on (w : World) : ∃ w', (Instr.makeSlice 43 (.int .i64 4096) (.int .i64 4096)).run Try.prog w = .ok (.slice (some ⟨w.heap.size, 0, none⟩) 4096 4096) w' ∧ OnF w' w.heap.size (fun _ => false) ∧ Ext w w' := by
  obtain ⟨i0, hi, hz0, hz1, hz2⟩ := info_parts Try.info_bool7
  obtain ⟨w', hrun, hown, hgrow⟩ := run_makeSlice_full (P := Try.prog) w w.heap.size 43 4 i0 (.bool false) 1 Try.underlying43 hi hz0 hz1 .i64 .i64 4096 (by decide) (by rw [hz2]; decide) (by decide) (Nat.le_refl _)
  exact ⟨w', hrun, onF_new hown, made_ext hgrow⟩

set_option maxRecDepth 100000 in
set_option maxHeartbeats 1000000 in
theorem refSet_any (u : Value) (l : List Sp) (w : World) (hu : RdSp w u l) :
    Calls Try.prog 27 #[u] w fun e w' => ∃ g, e = .returned (.slice (some ⟨g, 0, none⟩) 4096 4096) ∧ w.heap.size ≤ g ∧ OnF w' g (fun k => rightSp l && inB l k) ∧ Ext w w' := by
  obtain ⟨w0, hmk, hon, hext⟩ := make_on w
  have HR := Lib.hid (fun W (h : Ext w W) => refRightSp_any u l W (hu.mono h))
  obtain ⟨ao, cap, rfl, h1, h2, hat, -⟩ := hu
  have HAT := Lib.hid hat
  obtain ⟨N, hN⟩ : ∃ N, l.length = N := ⟨_, rfl⟩
  have HN := Lib.hid hN
  have HON := Lib.hid hon
  have HX0 := Lib.hid hext
  obtain ⟨G, hG⟩ : ∃ G, w.heap.size = G := ⟨_, rfl⟩
  have HG := Lib.hid hG
  unfold maxLen at h2
  rw [hN] at h1 HR ⊢
  rw [hG] at hmk HON
  clear hat hN hon hext hG
  cases hb : rightSp l with
  | false =>
    rw [hb] at HR
    clear hb
    go_enter Try.func27, Try.ntmps27
    go_wp2_with fail
    clear hmk
    go_loopw [4] (fun i wr => i = .int .i64 0 ∧ OnF wr G (fun _ => false) ∧ Ext w wr) (fun _ _ => 0)
    case atStart => exact ⟨rfl, HON.out, HX0.out⟩
    case round =>
      obtain ⟨rfl, hon, hx⟩ := hrel
      have HO := Lib.hid hon
      have HX := Lib.hid hx
      clear hon hx
      by_cases hlt : 0 < N
      · go_wp2_with fail
        refine (HR.out _ HX.out).mono ?_
        rintro e w2 ⟨rfl, hx2⟩
        have HX2 := Lib.hid hx2
        clear hx2
        go_wp2_with fail
        go_ret
        exact ⟨G, rfl, by rw [HG.out]; exact Nat.le_refl _, HO.out.ext HX2.out, Ext.trans HX.out HX2.out⟩
      · go_wp2_with fail
        go_ret
        exact ⟨G, rfl, by rw [HG.out]; exact Nat.le_refl _, HO.out, HX.out⟩
  | true =>
    rw [hb] at HR
    have HRT := Lib.hid (of_decide_eq_true hb)
    clear hb
    go_enter Try.func27, Try.ntmps27
    go_wp2_with fail
    clear hmk
    go_loopw [4] (fun i wr => ∃ j : Nat, j ≤ N ∧ i = .int .i64 j ∧ OnF wr G (inB (l.take j)) ∧ Below w.heap.size w wr) (fun i _ => N - (intOf i).toNat)
    case atStart => exact ⟨0, Nat.zero_le _, rfl, HON.out.congr (fun _ _ _ => rfl), HX0.out⟩
    case round =>
      obtain ⟨j, hj, rfl, hon, hx⟩ := hrel
      have HO := Lib.hid hon
      have HX := Lib.hid hx
      clear hon hx
      by_cases hlt : j < N
      · have hjl : j < l.length := by have := HN.out; omega
        obtain ⟨g, off, rfl, hx0, hx1⟩ := HAT.out j hjl
        have HC0 := Lib.hid (fun W (h : Below w.heap.size w W) => (h.cell (lt_of_cell hx0)).trans hx0)
        have HC1 := Lib.hid (fun W (h : Below w.heap.size w W) => (h.cell (lt_of_cell hx1)).trans hx1)
        have HSTEP := Lib.hid (List.take_succ_eq_append_getElem hjl)
        obtain ⟨hr0, hr1, hr2, hr3⟩ := ((right_step hjl).1 (right_take HRT.out _)).2
        clear hr3
        generalize l[j] = c at HC0 HC1 HSTEP hr0 hr1 hr2
        obtain ⟨cf, ct⟩ := c
        simp only at HC0 HC1 hr0 hr1 hr2
        clear hx0 hx1 hjl
        go_wp2_with fail
        refine (HR.out _ HX.out).mono ?_
        rintro e w2 ⟨rfl, hx2⟩
        have HX2 := Lib.hid (HX.out.trans (hx2.mono HX.out.size))
        have HO2 := Lib.hid (HO.out.ext hx2)
        clear hx2
        have hc0 := HC0.out w2 HX2.out
        go_wp2_with fail
        clear hc0
        obtain ⟨F, rfl⟩ := Int.eq_ofNat_of_zero_le hr0
        go_loopw [5] (fun k wk => ∃ m : Nat, F ≤ m ∧ (m : Int) ≤ ct ∧ k = .int .i64 m ∧ OnF wk G (fun x => inB (l.take j) x || (decide ((F : Int) ≤ x) && decide (x < m))) ∧ Below w.heap.size w wk) (fun k _ => ct.toNat - (intOf k).toNat)
        case atStart => exact ⟨F, Nat.le_refl _, by omega, rfl, HO2.out.congr (fun k _ _ => by
          have : (decide ((F : Int) ≤ k) && decide (k < (F : Int))) = false := by
            rw [Bool.and_eq_false_iff]
            by_cases h : (F : Int) ≤ k
            · exact .inr (decide_eq_false (by omega))
            · exact .inl (decide_eq_false h)
          rw [this, Bool.or_false]), HX2.out⟩
        case round =>
          obtain ⟨m, hm0, hm1, rfl, hon, hx⟩ := hrel
          have HO3 := Lib.hid hon
          have HX3 := Lib.hid hx
          clear hon hx
          have hc1 := HC1.out _ HX3.out
          by_cases hmt : (m : Int) < ct
          · have hcg := HO3.out.cell m (by omega)
            have hfg := HO3.out.free m
            have hm4 : m < 4096 := by omega
            have HBX := Lib.hid (show Below w.heap.size w _ from HX3.out.trans (show Below w.heap.size _ _ from (OnlyS.of_onlyP (X := fun b => b = G) (OnlyP.set G m _ (.bool true)) rfl).below HX3.out.size (fun b hb => by rw [hb, HG.out]; exact Nat.le_refl _)))
            generalize (fun x : Int => inB (l.take j) x || (decide ((F : Int) ≤ x) && decide (x < (m : Int)))) m = B0 at hcg
            go_wp2_with fail
            go_roundw
            case rel => exact ⟨m + 1, by omega, by omega, by go_num, (HO3.out.put m true).congr (fun k k0 k1 => by
              by_cases e : k = m
              · subst e
                rw [if_pos rfl, decide_eq_true (show (F : Int) ≤ m by omega), decide_eq_true (show (m : Int) < ((m + 1 : Nat) : Int) by omega)]
                simp
              · rw [if_neg e]
                congr 2
                rw [decide_eq_decide]
                omega), HBX.out⟩
            case measure => simp [intOf]; omega
          · go_wp2_with fail
            go_roundw
            case rel => exact ⟨j + 1, by omega, by go_num, HO3.out.congr (fun k k0 k1 => by
              have em : (m : Int) = ct := by omega
              rw [HSTEP.out, em]
              unfold inB
              rw [List.any_append]
              simp), HX3.out⟩
            case measure => simp [intOf]; omega
      · go_wp2_with fail
        go_ret
        exact ⟨G, rfl, by rw [HG.out]; exact Nat.le_refl _, HO.out.congr (fun k _ _ => by rw [List.take_of_length_le (by have := HN.out; omega), Bool.true_and]), HX.out⟩

end Go.Proofs.Ythiijhdgbnpihaa
