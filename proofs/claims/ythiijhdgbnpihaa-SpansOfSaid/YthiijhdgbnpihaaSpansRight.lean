/-
  The contracts of the document's own spans: Right, Set.
-/
import Derived.Test.YthiijhdgbnpihaaSpansRef
namespace Go.Proofs.Ythiijhdgbnpihaa
open Go.RowKit Go.BigFrame

set_option maxRecDepth 100000 in
set_option maxHeartbeats 1000000 in
theorem refRightSp_any (u : Value) (l : List Sp) (w : World) (hu : RdSp w u l) :
    Calls Try.prog 15 #[u] w fun e w' => e = .returned (.bool (rightSp l)) ∧ Ext w w' := by
  obtain ⟨ao, cap, rfl, h1, h2, hat, -⟩ := hu
  have HAT := Lib.hid hat
  obtain ⟨N, hN⟩ : ∃ N, l.length = N := ⟨_, rfl⟩
  have HN := Lib.hid hN
  unfold maxLen at h2
  rw [hN] at h1 ⊢
  clear hat hN
  have HBAD := Lib.hid (fun (j : Nat) (hj : j < l.length) (h : ¬ okAt l j hj) => (show rightSp l = false from decide_eq_false (fun hr => h ((right_step hj).1 (right_take hr _)).2)))
  go_enter Try.func15, Try.ntmps15
  go_wp2_with fail
  go_loopw [3] (fun i wr => ∃ j : Nat, j ≤ N ∧ i = .int .i64 j ∧ rightFrom 0 (l.take j) ∧ Ext w wr) (fun i _ => N - (intOf i).toNat)
  case atStart => exact ⟨0, Nat.zero_le _, rfl, trivial, Ext.keeps.refl _⟩
  case round =>
    obtain ⟨j, hj, rfl, hrt, hext⟩ := hrel
    have HT := Lib.hid hrt
    have HE := Lib.hid hext
    clear hrt hext
    by_cases hlt : j < N
    · have hjl : j < l.length := by have := HN.out; omega
      obtain ⟨g, off, rfl, hx0, hx1⟩ := HAT.out j hjl
      have mv : ∀ {b i : Nat} {u : Value}, w.cell? ⟨b, i, none⟩ = some u → ∀ z : Later Ext wr.drew, z.val.cell? ⟨b, i, none⟩ = some u := fun hc z => ((Ext.trans HE.out (Ext.trans (Ext.drew wr) z.ext)).cell (lt_of_cell hc)).trans hc
      have hz0 := mv hx0
      have hz1 := mv hx1
      have HOKA := Lib.hid (show okAt l j hjl ↔ (0 ≤ l[j].f ∧ l[j].f < l[j].t ∧ l[j].t ≤ 4096 ∧ (0 < j → (l[j - 1]'(by omega)).t < l[j].f)) from Iff.rfl)
      have HST := Lib.hid (right_step hjl)
      have HBJ := Lib.hid (HBAD.out j hjl)
      clear hx0 hx1
      by_cases hj0 : j = 0
      · subst hj0
        rw [Nat.zero_mul, Nat.add_zero] at hz0
        rw [Nat.zero_mul, Nat.add_zero] at hz1
        generalize l[0] = c at hz0 hz1 HOKA
        obtain ⟨cf, ct⟩ := c
        simp only at hz0 hz1
        clear mv
        by_cases q1 : cf < 0
        · have HNO := Lib.hid (HBJ.out (fun h => by have := HOKA.out.1 h; simp only at this; omega))
          have d1 : decide (cf < 0) = true := decide_eq_true q1
          go_wp2_with fail
          refine wp_region_segs Ext Ext.keeps [(List.range 45, none)] (by kernel_rfl) (by kernel_rfl) (fun c a a' w e h => (by exact ⟨e ▸ h.1, h.2⟩)) ?_
          simp only [List.range, List.range.loop, pickSegs, pickOps, List.map_cons, List.map_nil, Option.map_none, Option.getD_some, List.getElem?_toArray, List.getElem?_cons_zero, List.getElem?_cons_succ]
          refine wpSegs_none ?_
          repeat go_big_quiet_step (fail)
          refine wpQuiet_nil (wpSegs_nil ?_)
          clear hz0 hz1
          go_wp2_with fail
          go_ret
          exact ⟨by rw [HNO.out]; rfl, Ext.trans HE.out (Ext.drew wr)⟩
        · by_cases q2 : ct ≤ cf
          · have HNO := Lib.hid (HBJ.out (fun h => by have := HOKA.out.1 h; simp only at this; omega))
            have d1 : decide (cf < 0) = false := decide_eq_false q1
            have d2 : decide (ct ≤ cf) = true := decide_eq_true q2
            go_wp2_with fail
            refine wp_region_segs Ext Ext.keeps [(List.range 45, none)] (by kernel_rfl) (by kernel_rfl) (fun c a a' w e h => (by exact ⟨e ▸ h.1, h.2⟩)) ?_
            simp only [List.range, List.range.loop, pickSegs, pickOps, List.map_cons, List.map_nil, Option.map_none, Option.getD_some, List.getElem?_toArray, List.getElem?_cons_zero, List.getElem?_cons_succ]
            refine wpSegs_none ?_
            repeat go_big_quiet_step (fail)
            refine wpQuiet_nil (wpSegs_nil ?_)
            clear hz0 hz1
            go_wp2_with fail
            go_ret
            exact ⟨by rw [HNO.out]; rfl, Ext.trans HE.out (Ext.drew wr)⟩
          · by_cases q3 : 4096 < ct
            · have HNO := Lib.hid (HBJ.out (fun h => by have := HOKA.out.1 h; simp only at this; omega))
              have d1 : decide (cf < 0) = false := decide_eq_false q1
              have d2 : decide (ct ≤ cf) = false := decide_eq_false q2
              have d3 : decide (4096 < ct) = true := decide_eq_true q3
              go_wp2_with fail
              refine wp_region_segs Ext Ext.keeps [(List.range 45, none)] (by kernel_rfl) (by kernel_rfl) (fun c a a' w e h => (by exact ⟨e ▸ h.1, h.2⟩)) ?_
              simp only [List.range, List.range.loop, pickSegs, pickOps, List.map_cons, List.map_nil, Option.map_none, Option.getD_some, List.getElem?_toArray, List.getElem?_cons_zero, List.getElem?_cons_succ]
              refine wpSegs_none ?_
              repeat go_big_quiet_step (fail)
              refine wpQuiet_nil (wpSegs_nil ?_)
              clear hz0 hz1
              go_wp2_with fail
              go_ret
              exact ⟨by rw [HNO.out]; rfl, Ext.trans HE.out (Ext.drew wr)⟩
            · have HGOOD := Lib.hid (HOKA.out.2 ⟨by simp only; omega, by simp only; omega, by simp only; omega, fun h => absurd h (Nat.lt_irrefl 0)⟩)
              have d1 : decide (cf < 0) = false := decide_eq_false q1
              have d2 : decide (ct ≤ cf) = false := decide_eq_false q2
              have d3 : decide (4096 < ct) = false := decide_eq_false q3
              go_wp2_with fail
              refine wp_region_segs Ext Ext.keeps [(List.range 45, none)] (by kernel_rfl) (by kernel_rfl) (fun c a a' w e h => (by exact ⟨e ▸ h.1, h.2⟩)) ?_
              simp only [List.range, List.range.loop, pickSegs, pickOps, List.map_cons, List.map_nil, Option.map_none, Option.getD_some, List.getElem?_toArray, List.getElem?_cons_zero, List.getElem?_cons_succ]
              refine wpSegs_none ?_
              repeat go_big_quiet_step (fail)
              refine wpQuiet_nil (wpSegs_nil ?_)
              clear hz0 hz1
              go_wp2_with fail
              go_roundw
              case rel => exact ⟨0 + 1, by omega, by go_num, HST.out.2 ⟨HT.out, HGOOD.out⟩, Ext.trans HE.out (Ext.drew wr)⟩
              case measure => simp [intOf]; omega
      · obtain ⟨J, rfl⟩ : ∃ J, j = J + 1 := ⟨j - 1, by omega⟩
        have hJl : J < l.length := by omega
        obtain ⟨g2, off2, he2, hxx, hx2⟩ := HAT.out J hJl
        clear hxx
        simp only [Option.some.injEq, Addr.mk.injEq, and_true] at he2
        obtain ⟨rfl, rfl⟩ := he2
        have hz2 := mv hx2
        obtain ⟨pt, hpt⟩ : ∃ pt, (l[J]'hJl).t = pt := ⟨_, rfl⟩
        have HPT := Lib.hid (show (l[J + 1 - 1]'(by omega)).t = pt from hpt)
        rw [hpt] at hz2
        generalize l[J + 1] = c at hz0 hz1 HOKA
        obtain ⟨cf, ct⟩ := c
        simp only at hz0 hz1
        clear mv hpt hx2 hj0
        by_cases q1 : cf < 0
        · have HNO := Lib.hid (HBJ.out (fun h => by have := HOKA.out.1 h; simp only at this; omega))
          have d1 : decide (cf < 0) = true := decide_eq_true q1
          go_wp2_with fail
          refine wp_region_segs Ext Ext.keeps [(List.range 45, none)] (by kernel_rfl) (by kernel_rfl) (fun c a a' w e h => (by exact ⟨e ▸ h.1, h.2⟩)) ?_
          simp only [List.range, List.range.loop, pickSegs, pickOps, List.map_cons, List.map_nil, Option.map_none, Option.getD_some, List.getElem?_toArray, List.getElem?_cons_zero, List.getElem?_cons_succ]
          refine wpSegs_none ?_
          repeat go_big_quiet_step (fail)
          refine wpQuiet_nil (wpSegs_nil ?_)
          clear hz0 hz1 hz2
          go_wp2_with fail
          go_ret
          exact ⟨by rw [HNO.out]; rfl, Ext.trans HE.out (Ext.drew wr)⟩
        · by_cases q2 : ct ≤ cf
          · have HNO := Lib.hid (HBJ.out (fun h => by have := HOKA.out.1 h; simp only at this; omega))
            have d1 : decide (cf < 0) = false := decide_eq_false q1
            have d2 : decide (ct ≤ cf) = true := decide_eq_true q2
            go_wp2_with fail
            refine wp_region_segs Ext Ext.keeps [(List.range 45, none)] (by kernel_rfl) (by kernel_rfl) (fun c a a' w e h => (by exact ⟨e ▸ h.1, h.2⟩)) ?_
            simp only [List.range, List.range.loop, pickSegs, pickOps, List.map_cons, List.map_nil, Option.map_none, Option.getD_some, List.getElem?_toArray, List.getElem?_cons_zero, List.getElem?_cons_succ]
            refine wpSegs_none ?_
            repeat go_big_quiet_step (fail)
            refine wpQuiet_nil (wpSegs_nil ?_)
            clear hz0 hz1 hz2
            go_wp2_with fail
            go_ret
            exact ⟨by rw [HNO.out]; rfl, Ext.trans HE.out (Ext.drew wr)⟩
          · by_cases q3 : 4096 < ct
            · have HNO := Lib.hid (HBJ.out (fun h => by have := HOKA.out.1 h; simp only at this; omega))
              have d1 : decide (cf < 0) = false := decide_eq_false q1
              have d2 : decide (ct ≤ cf) = false := decide_eq_false q2
              have d3 : decide (4096 < ct) = true := decide_eq_true q3
              go_wp2_with fail
              refine wp_region_segs Ext Ext.keeps [(List.range 45, none)] (by kernel_rfl) (by kernel_rfl) (fun c a a' w e h => (by exact ⟨e ▸ h.1, h.2⟩)) ?_
              simp only [List.range, List.range.loop, pickSegs, pickOps, List.map_cons, List.map_nil, Option.map_none, Option.getD_some, List.getElem?_toArray, List.getElem?_cons_zero, List.getElem?_cons_succ]
              refine wpSegs_none ?_
              repeat go_big_quiet_step (fail)
              refine wpQuiet_nil (wpSegs_nil ?_)
              clear hz0 hz1 hz2
              go_wp2_with fail
              go_ret
              exact ⟨by rw [HNO.out]; rfl, Ext.trans HE.out (Ext.drew wr)⟩
            · by_cases q4 : cf ≤ pt
              · have HNO := Lib.hid (HBJ.out (fun h => by have := (HOKA.out.1 h).2.2.2 (Nat.succ_pos _); have := HPT.out; simp only at *; omega))
                have d1 : decide (cf < 0) = false := decide_eq_false q1
                have d2 : decide (ct ≤ cf) = false := decide_eq_false q2
                have d3 : decide (4096 < ct) = false := decide_eq_false q3
                have d4 : decide (cf ≤ pt) = true := decide_eq_true q4
                go_wp2_with fail
                refine wp_region_segs Ext Ext.keeps [(List.range 45, none)] (by kernel_rfl) (by kernel_rfl) (fun c a a' w e h => (by exact ⟨e ▸ h.1, h.2⟩)) ?_
                simp only [List.range, List.range.loop, pickSegs, pickOps, List.map_cons, List.map_nil, Option.map_none, Option.getD_some, List.getElem?_toArray, List.getElem?_cons_zero, List.getElem?_cons_succ]
                refine wpSegs_none ?_
                repeat go_big_quiet_step (fail)
                refine wpQuiet_nil (wpSegs_nil ?_)
                clear hz0 hz1 hz2
                go_wp2_with fail
                go_ret
                exact ⟨by rw [HNO.out]; rfl, Ext.trans HE.out (Ext.drew wr)⟩
              · have HGOOD := Lib.hid (HOKA.out.2 ⟨by simp only; omega, by simp only; omega, by simp only; omega, fun _ => by have := HPT.out; simp only at *; omega⟩)
                have d1 : decide (cf < 0) = false := decide_eq_false q1
                have d2 : decide (ct ≤ cf) = false := decide_eq_false q2
                have d3 : decide (4096 < ct) = false := decide_eq_false q3
                have d4 : decide (cf ≤ pt) = false := decide_eq_false q4
                go_wp2_with fail
                refine wp_region_segs Ext Ext.keeps [(List.range 45, none)] (by kernel_rfl) (by kernel_rfl) (fun c a a' w e h => (by exact ⟨e ▸ h.1, h.2⟩)) ?_
                simp only [List.range, List.range.loop, pickSegs, pickOps, List.map_cons, List.map_nil, Option.map_none, Option.getD_some, List.getElem?_toArray, List.getElem?_cons_zero, List.getElem?_cons_succ]
                refine wpSegs_none ?_
                repeat go_big_quiet_step (fail)
                refine wpQuiet_nil (wpSegs_nil ?_)
                clear hz0 hz1 hz2
                go_wp2_with fail
                go_roundw
                case rel => exact ⟨J + 1 + 1, by omega, by go_num, HST.out.2 ⟨HT.out, HGOOD.out⟩, Ext.trans HE.out (Ext.drew wr)⟩
                case measure => simp [intOf]; omega
    · have HOK := Lib.hid (show rightSp l = true from decide_eq_true (by have h := HT.out; rwa [List.take_of_length_le (by have := HN.out; omega)] at h))
      go_wp2_with fail
      go_ret
      exact ⟨by rw [HOK.out]; rfl, HE.out⟩

end Go.Proofs.Ythiijhdgbnpihaa
