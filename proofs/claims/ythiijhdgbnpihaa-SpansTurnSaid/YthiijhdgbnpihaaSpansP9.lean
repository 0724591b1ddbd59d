/-
  The program's spans: Has.
-/
import Derived.Test.YthiijhdgbnpihaaSpansP8
import Derived.Test.YthiijhdgbnpihaaSearch
namespace Go.Proofs.Ythiijhdgbnpihaa
open Go.RowKit Go.BigFrame Go.Shelf

theorem enters_has : ∀ args w, (callFunc 29 args).run Try.prog w = .ok (.enter 29 args) w := enters_of Try.func29 (by kernel_rfl) rfl

set_option maxRecDepth 100000 in
theorem has1_any (u : Value) (l : List Sp) (i : Nat) (hi : i < l.length) (k : Int) (bp bq : Nat) (w : World) (hu : RdSp w u l) (hp : w.cell? ⟨bp, 0, none⟩ = some u) (hq : w.cell? ⟨bq, 0, none⟩ = some (.int .i64 k)) :
    Calls Try.prog 29 #[.int .i64 i, .pointer (some ⟨bp, 0, none⟩), .pointer (some ⟨bq, 0, none⟩)] w fun e w' => e = .returned (.bool (decide (k < l[i].t))) ∧ Ext w w' := by
  obtain ⟨ao, cap, rfl, h1, h2, hat, -⟩ := hu
  obtain ⟨g, off, rfl, hx0, hx1⟩ := hat i hi
  have hz : ∀ z : Later Ext w.drew, z.val.cell? ⟨g, off + i * 2 + 1, none⟩ = some (.int .i64 l[i].t) := fun z => ((Ext.trans (Ext.drew w) z.ext).cell (lt_of_cell hx1)).trans hx1
  have hzp : ∀ z : Later Ext w.drew, z.val.cell? ⟨bp, 0, none⟩ = some (.slice (some ⟨g, off, none⟩) l.length cap) := fun z => ((Ext.trans (Ext.drew w) z.ext).cell (lt_of_cell hp)).trans hp
  have hzq : ∀ z : Later Ext w.drew, z.val.cell? ⟨bq, 0, none⟩ = some (.int .i64 k) := fun z => ((Ext.trans (Ext.drew w) z.ext).cell (lt_of_cell hq)).trans hq
  clear hat hx0 hx1 hp hq
  generalize l[i].t = T at hz ⊢
  generalize l.length = N at h1 hi hzp
  unfold maxLen at h2
  go_enter Try.func29, Try.ntmps29
  go_wp2_with fail
  refine wp_region_segs Ext Ext.keeps [(List.range 8, none)] (by kernel_rfl) (by kernel_rfl) (fun c a a' w e h => (by exact ⟨e ▸ h.1, h.2⟩)) ?_
  simp only [List.range, List.range.loop, pickSegs, pickOps, List.map_cons, List.map_nil, Option.map_none, Option.getD_some, List.getElem?_toArray, List.getElem?_cons_zero, List.getElem?_cons_succ]
  refine wpSegs_none ?_
  repeat go_big_quiet_step (fail)
  refine wpQuiet_nil (wpSegs_nil ?_)
  clear hz hzp hzq
  go_wp2_with fail
  go_ret
  exact ⟨rfl, Ext.drew w⟩

/-- What the search has found tells whether the place is in one of them. -/
theorem right_at {l : List Sp} {lo : Int} (h : rightFrom lo l) {i j : Nat} (hi : i < l.length) (hj : j < l.length) (hij : i < j) : l[i].t < l[j].f := by
  induction l generalizing lo i j with
  | nil => simp at hi
  | cons s l ih =>
    obtain ⟨h1, h2, h3, h4⟩ := h
    cases j with
    | zero => omega
    | succ j =>
      have hjl : j < l.length := by simpa using hj
      cases i with
      | zero =>
        have : ∀ {lo : Int} {l : List Sp}, rightFrom lo l → ∀ x ∈ l, lo ≤ x.f := fun {lo l} => by
          induction l generalizing lo with
          | nil => intro _ x hx; cases hx
          | cons a t ih =>
            rintro ⟨g1, g2, g3, g4⟩ x hx
            rcases List.mem_cons.1 hx with rfl | hx
            · exact g1
            · have := ih g4 x hx
              omega
        have := this h4 _ (List.getElem_mem hjl)
        simp only [List.getElem_cons_zero, List.getElem_cons_succ]
        omega
      | succ i =>
        simp only [List.getElem_cons_succ]
        exact ih h4 (by simpa using hi) hjl (by omega)
theorem right_lt {l : List Sp} {lo : Int} (h : rightFrom lo l) : ∀ x ∈ l, x.f < x.t := by
  induction l generalizing lo with
  | nil => intro x hx; cases hx
  | cons a t ih =>
    obtain ⟨h1, h2, h3, h4⟩ := h
    intro x hx
    rcases List.mem_cons.1 hx with rfl | hx
    · exact h2
    · exact ih h4 x hx
theorem inB_found {l : List Sp} (h : rightFrom 0 l) {k : Int} {r : Nat} (hr : r ≤ l.length) (h0 : ∀ (hi : r - 1 < l.length), 0 < r → l[r - 1].t ≤ k) (h1 : ∀ (hi : r < l.length), k < l[r].t) :
    inB l k = true ↔ ∃ hi : r < l.length, l[r].f ≤ k := by
  rw [inB_iff]
  constructor
  · rintro ⟨s, hs, h2, h3⟩
    obtain ⟨i, hi, rfl⟩ := List.mem_iff_getElem.1 hs
    have hir : r ≤ i := by
      refine Nat.le_of_not_lt fun hlt => ?_
      have h4 := h0 (by omega) (by omega)
      by_cases e : i = r - 1
      · subst e
        omega
      · have := right_at h hi (show r - 1 < l.length by omega) (by omega)
        have := right_lt h _ (List.getElem_mem (show r - 1 < l.length by omega))
        omega
    by_cases e : i = r
    · subst e
      exact ⟨hi, h2⟩
    · have h4 := h1 (by omega)
      have := right_at h (show r < l.length by omega) hi (by omega)
      omega
  · rintro ⟨hi, h2⟩
    exact ⟨_, List.getElem_mem hi, h2, h1 hi⟩

set_option maxRecDepth 100000 in
theorem pHasSp_any (u : Value) (l : List Sp) (k : Int) (w : World) (hu : InSp w u l) (_hk : -9223372036854775808 ≤ k ∧ k ≤ 9223372036854775807) :
    Calls Try.prog 20 #[u, .int .i64 k] w fun e w' => e = .returned (.bool (hasS l k)) ∧ Ext w w' := by
  have HU := Lib.hid hu.rd
  have HFEW := Lib.hid hu.few
  have HR := Lib.hid (fun W (h : Ext w W) => pRightRd_any u l W (hu.rd.mono h))
  obtain ⟨ao, cap, rfl, h1, h2⟩ := hu.rd.shape
  obtain ⟨N, hN⟩ : ∃ N, l.length = N := ⟨_, rfl⟩
  have HN := Lib.hid hN
  unfold maxLen at h2
  rw [hN] at h1 HU HR ⊢
  have hmf : ∀ (fn : Fn) (first cap : Array Value) (w : World), (Instr.makeFunc fn first cap).run Try.prog w = .ok (.func fn first cap) w := fun _ _ _ _ => rfl
  have HB1 := Lib.hid (ext_new w (.cells #[.slice ao N cap] 24))
  have HB2 := Lib.hid (ext_new (w.alloc (.cells #[.slice ao N cap] 24)) (.cells #[.int .i64 k] 3))
  have HC1 := Lib.hid (row_new w [.slice ao N cap] 24 0 _ rfl)
  have HC2 := Lib.hid (row_new (w.alloc (.cells #[.slice ao N cap] 24)) [.int .i64 k] 3 0 _ rfl)
  clear hu hN
  cases hb : rightSp l with
  | false =>
    rw [hb] at HR
    have HANS := Lib.hid (show hasS l k = false by unfold hasS; rw [hb]; rfl)
    clear hb
    go_enter Try.func20, Try.ntmps20
    go_wp2_with fail
    refine (HR.out _ (Ext.trans HB1.out HB2.out)).mono ?_
    rintro e w1 ⟨rfl, hx1⟩
    have HX1 := Lib.hid (Ext.trans HB1.out (Ext.trans HB2.out hx1))
    clear hx1
    go_wp2_with fail
    go_ret
    exact ⟨by rw [HANS.out]; rfl, HX1.out⟩
  | true =>
    rw [hb] at HR
    have HB := Lib.hid hb
    clear hb
    go_enter Try.func20, Try.ntmps20
    go_wp2_with fail
    refine (HR.out _ (Ext.trans HB1.out HB2.out)).mono ?_
    rintro e w1 ⟨rfl, hx1⟩
    have HX0 := Lib.hid (Ext.trans HB1.out (Ext.trans HB2.out hx1))
    have HX1 := Lib.hid hx1
    clear hx1
    have hp1 : w1.cell? ⟨w.heap.size, 0, none⟩ = some (.slice ao N cap) := ((Ext.trans HB2.out HX1.out).cell (lt_of_cell HC1.out)).trans HC1.out
    have hq1 : w1.cell? ⟨w.heap.size + 1, 0, none⟩ = some (.int .i64 k) := by
      have h := (HX1.out.cell (lt_of_cell HC2.out)).trans HC2.out
      rw [add_at] at h
      simpa using h
    have HU1 := Lib.hid (HU.out.mono HX0.out)
    have HP1 := Lib.hid hp1
    have HQ1 := Lib.hid hq1
    have HN1 := Lib.hid (show N ≤ 1000000 by have := HFEW.out; have := HN.out; omega)
    have HS := Lib.hid (search_any 29 (.pointer (some ⟨w.heap.size, 0, none⟩)) (.pointer (some ⟨w.heap.size + 1, 0, none⟩)) N (fun i => if h : i < l.length then decide (k < l[i].t) else true) w1 HN1.out enters_has (fun i W hi hW => by
      have hi' : i < l.length := by have := HN.out; omega
      rw [dif_pos hi']
      refine has1_any _ l i hi' k w.heap.size (w.heap.size + 1) W (by rw [HN.out] at *; exact HU1.out.mono hW) ((hW.cell (lt_of_cell HP1.out)).trans HP1.out) ((hW.cell (lt_of_cell HQ1.out)).trans HQ1.out)))
    go_wp2_with fail
    refine HS.out.mono ?_
    rintro e w2 ⟨⟨r, rfl, hr, hr0, hr1⟩, hx2⟩
    have HX2 := Lib.hid (Ext.trans HX0.out hx2)
    have HF := Lib.hid (inB_found (r := r) (k := k) (of_decide_eq_true HB.out) (by have := HN.out; omega) (fun hi h0 => by
      have := hr0 h0
      rw [dif_pos hi] at this
      have := of_decide_eq_false this
      omega) (fun hi => by
      have := hr1 (by have := HN.out; omega)
      rw [dif_pos hi] at this
      exact of_decide_eq_true this))
    have hzp : ∀ z : Later Ext w2.drew, z.val.cell? ⟨w.heap.size, 0, none⟩ = some (.slice ao N cap) := fun z => ((Ext.trans hx2 (Ext.trans (Ext.drew w2) z.ext)).cell (lt_of_cell HP1.out)).trans HP1.out
    have hzq : ∀ z : Later Ext w2.drew, z.val.cell? ⟨w.heap.size + 1, 0, none⟩ = some (.int .i64 k) := fun z => ((Ext.trans hx2 (Ext.trans (Ext.drew w2) z.ext)).cell (lt_of_cell HQ1.out)).trans HQ1.out
    have HANS := Lib.hid (show hasS l k = inB l k by unfold hasS; rw [HB.out, Bool.true_and])
    clear hp1 hq1 hr0 hr1
    by_cases hrN : r < N
    · have hrl : r < l.length := by have := HN.out; omega
      obtain ⟨ao', cap', he, -, -, hat, -⟩ := HU.out
      simp only [Value.slice.injEq] at he
      obtain ⟨rfl, -, rfl⟩ := he
      obtain ⟨g, off, rfl, hx0, hxx⟩ := hat r hrl
      have hz : ∀ z : Later Ext w2.drew, z.val.cell? ⟨g, off + r * 2, none⟩ = some (.int .i64 l[r].f) := fun z => ((Ext.trans HX2.out (Ext.trans (Ext.drew w2) z.ext)).cell (lt_of_cell hx0)).trans hx0
      have HRES := Lib.hid (show inB l k = decide (l[r].f ≤ k) by
        cases hb : inB l k with
        | true =>
          obtain ⟨_, h⟩ := HF.out.1 hb
          exact (decide_eq_true h).symm
        | false =>
          refine (decide_eq_false (fun h => ?_)).symm
          rw [HF.out.2 ⟨hrl, h⟩] at hb
          cases hb)
      clear hat hx0 hxx hx2
      generalize l[r].f = F at hz HRES
      have d1 : decide (r < N) = true := decide_eq_true hrN
      go_wp2_with fail
      refine wp_region_segs Ext Ext.keeps [(List.range 14, none)] (by kernel_rfl) (by kernel_rfl) (fun c a a' w e h => (by exact ⟨e ▸ h.1, h.2⟩)) ?_
      simp only [List.range, List.range.loop, pickSegs, pickOps, List.map_cons, List.map_nil, Option.map_none, Option.getD_some, List.getElem?_toArray, List.getElem?_cons_zero, List.getElem?_cons_succ]
      refine wpSegs_none ?_
      repeat go_big_quiet_step (fail)
      refine wpQuiet_nil (wpSegs_nil ?_)
      clear hz hzp hzq
      go_wp2_with fail
      go_ret
      exact ⟨by rw [HANS.out, HRES.out]; rfl, Ext.trans HX2.out (Ext.drew w2)⟩
    · have HRES := Lib.hid (show inB l k = false by
        cases hb : inB l k with
        | true =>
          obtain ⟨hi, _⟩ := HF.out.1 hb
          have := HN.out
          omega
        | false => rfl)
      have d1 : decide (r < N) = false := decide_eq_false hrN
      clear hx2
      go_wp2_with fail
      refine wp_region_segs Ext Ext.keeps [(List.range 14, none)] (by kernel_rfl) (by kernel_rfl) (fun c a a' w e h => (by exact ⟨e ▸ h.1, h.2⟩)) ?_
      simp only [List.range, List.range.loop, pickSegs, pickOps, List.map_cons, List.map_nil, Option.map_none, Option.getD_some, List.getElem?_toArray, List.getElem?_cons_zero, List.getElem?_cons_succ]
      refine wpSegs_none ?_
      repeat go_big_quiet_step (fail)
      refine wpQuiet_nil (wpSegs_nil ?_)
      clear hzp hzq
      go_wp2_with fail
      go_ret
      exact ⟨by rw [HANS.out, HRES.out]; rfl, Ext.trans HX2.out (Ext.drew w2)⟩

end Go.Proofs.Ythiijhdgbnpihaa
