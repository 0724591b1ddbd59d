/-
  The contracts of the document's own runs: Same.
-/
import Derived.RegionTactic
import Derived.ChangeAlike
import Derived.BigQuiet
import Derived.Laws.OwnMore
import Derived.Test.YthjkfkajkbaegaaSpansMem
import Derived.Test.YthjkfkajkbaegaaRunsPure
namespace Go.Proofs.Ythjkfkajkbaegaa
open Go.RowKit Go.BigFrame

theorem Try.info_bool9 : (Try.prog.info? 4).map (fun i => (i.zero, i.size, i.bytes)) = some (some (.bool false), 1, 1) := by kernel_rfl
theorem Try.info_run : (Try.prog.info? 45).map (fun i => (i.zero, i.size, i.bytes)) = some (some (.agg #[.int .i64 0, .int .i64 0]), 2, 16) := by kernel_rfl

theorem neq_run (f t f' t' : Int) (w : World) : (binOp .neq 45 (.agg #[.int .i64 f, .int .i64 t]) (.agg #[.int .i64 f', .int .i64 t'])).run Try.prog w = .ok (.bool (!decide ((⟨f, t⟩ : Sp) = ⟨f', t'⟩))) w := by
  simp only [Sp.mk.injEq]
  simp [go_sem]
  by_cases h1 : f = f' <;> by_cases h2 : t = t' <;> simp [h1, h2]

set_option maxRecDepth 100000 in
theorem refSameR_any (u v : Value) (xs ys : List Sp) (w : World) (hu : RdSp w u xs) (hv : RdSp w v ys) :
    Calls Try.prog 12 #[u, v] w fun e w' => e = .returned (.bool (decide (xs = ys))) ∧ Ext w w' := by
  obtain ⟨ao, ca, rfl, h1, h2, hca, -⟩ := hu
  obtain ⟨bo, cb, rfl, h3, h4, hcb, -⟩ := hv
  have HA := Lib.hid hca
  have HB := Lib.hid hcb
  unfold maxLen at h2 h4
  clear hca hcb
  by_cases hL : xs.length = ys.length
  · have HL := Lib.hid hL
    generalize hN : ys.length = N at h3
    rw [hL, hN] at h1 ⊢
    replace hN := Lib.hid hN
    clear hL
    go_enter Try.func12, Try.ntmps12
    go_wp2_with fail
    go_loopw [5] (fun i wr => ∃ j : Nat, j ≤ N ∧ i = .int .i64 j ∧ xs.take j = ys.take j ∧ Ext w wr) (fun i _ => N - (intOf i).toNat)
    case atStart => exact ⟨0, Nat.zero_le _, rfl, rfl, Ext.keeps.refl _⟩
    case round =>
      obtain ⟨j, hj, rfl, htk, hext⟩ := hrel
      have HT := Lib.hid htk
      have HE := Lib.hid hext
      clear htk hext
      by_cases hlt : j < N
      · have hjx : j < xs.length := by have := HL.out; have := hN.out; omega
        have hjy : j < ys.length := by have := hN.out; omega
        obtain ⟨g, off, rfl, hx0, hx1⟩ := HA.out j hjx
        obtain ⟨g', off', rfl, hy0, hy1⟩ := HB.out j hjy
        have mv : ∀ {b i : Nat} {u : Value}, w.cell? ⟨b, i, none⟩ = some u → ∀ z : Later Ext wr.drew, z.val.cell? ⟨b, i, none⟩ = some u := fun hc z => ((Ext.trans HE.out (Ext.trans (Ext.drew wr) z.ext)).cell (lt_of_cell hc)).trans hc
        have hzx0 := mv hx0
        have hzx1 := mv hx1
        have hzy0 := mv hy0
        have hzy1 := mv hy1
        clear mv hx0 hx1 hy0 hy1
        have HS := Lib.hid (show xs.take (j + 1) = xs.take j ++ [xs[j]] ∧ ys.take (j + 1) = ys.take j ++ [ys[j]] from ⟨List.take_succ_eq_append_getElem hjx, List.take_succ_eq_append_getElem hjy⟩)
        have HG := Lib.hid (show xs[j]? = some xs[j] ∧ ys[j]? = some ys[j] from ⟨List.getElem?_eq_getElem hjx, List.getElem?_eq_getElem hjy⟩)
        generalize xs[j] = c at hzx0 hzx1 HS HG
        generalize ys[j] = d at hzy0 hzy1 HS HG
        obtain ⟨cf, ct⟩ := c
        obtain ⟨df, dt⟩ := d
        simp only at hzx0 hzx1 hzy0 hzy1
        clear hjx hjy
        have hEQ := fun w => neq_run cf ct df dt w
        by_cases hcd : (⟨cf, ct⟩ : Sp) = ⟨df, dt⟩
        · rw [decide_eq_true hcd] at hEQ
          have HCD := Lib.hid hcd
          clear hcd
          go_wp2_with fail
          refine wp_region_segs Ext Ext.keeps [([0, 1, 2, 3, 4, 5, 6, 7, 8], none)] (by kernel_rfl) (by kernel_rfl) (fun c a a' w e h => (by exact ⟨e ▸ h.1, h.2⟩)) ?_
          simp only [pickSegs, pickOps, List.map_cons, List.map_nil, Option.map_none, Option.getD_some, List.getElem?_toArray, List.getElem?_cons_zero, List.getElem?_cons_succ]
          refine wpSegs_none ?_
          repeat go_big_quiet_step (fail)
          refine wpQuiet_nil (wpSegs_nil ?_)
          clear hzx0 hzx1 hzy0 hzy1 hEQ
          go_wp2_with fail
          go_roundw
          case rel => exact ⟨j + 1, by omega, by go_num, by rw [HS.out.1, HS.out.2, HT.out, HCD.out], Ext.trans HE.out (Ext.drew wr)⟩
          case measure => simp [intOf]; omega
        · rw [decide_eq_false hcd] at hEQ
          have HNE := Lib.hid (show decide (xs = ys) = false from decide_eq_false (fun h => by subst h; have h1 := HG.out.1; rw [HG.out.2] at h1; exact hcd (Option.some.inj h1).symm))
          clear hcd
          go_wp2_with fail
          refine wp_region_segs Ext Ext.keeps [([0, 1, 2, 3, 4, 5, 6, 7, 8], none)] (by kernel_rfl) (by kernel_rfl) (fun c a a' w e h => (by exact ⟨e ▸ h.1, h.2⟩)) ?_
          simp only [pickSegs, pickOps, List.map_cons, List.map_nil, Option.map_none, Option.getD_some, List.getElem?_toArray, List.getElem?_cons_zero, List.getElem?_cons_succ]
          refine wpSegs_none ?_
          repeat go_big_quiet_step (fail)
          refine wpQuiet_nil (wpSegs_nil ?_)
          clear hzx0 hzx1 hzy0 hzy1 hEQ
          go_wp2_with fail
          go_ret
          exact ⟨by rw [HNE.out]; rfl, Ext.trans HE.out (Ext.drew wr)⟩
      · have HEQ := Lib.hid (show decide (xs = ys) = true from decide_eq_true (by have h := HT.out; rw [List.take_of_length_le (by have := HL.out; have := hN.out; omega), List.take_of_length_le (by have := hN.out; omega)] at h; exact h))
        go_wp2_with fail
        go_ret
        exact ⟨by rw [HEQ.out]; rfl, HE.out⟩
  · have HNE := Lib.hid (show decide (xs = ys) = false from decide_eq_false (fun h => hL (by rw [h])))
    have hq : ((xs.length : Int) == (ys.length : Int)) = false := by rw [beq_eq_false_iff_ne]; omega
    clear hL
    generalize xs.length = M at hq h1 ⊢
    generalize ys.length = N at hq h3 ⊢
    go_enter Try.func12, Try.ntmps12
    go_wp2_with fail
    go_ret
    exact ⟨by rw [HNE.out]; rfl, Ext.keeps.refl _⟩

end Go.Proofs.Ythjkfkajkbaegaa
