/-
  Texts of this proof, merged: OrdRef3, OrdRef4, OrdRef5, RowsOwn, RowsCopy.
-/
import Derived.Deep.CutBlock
import Derived.Lib.OwnKind
import Derived.Lib.SmallJoins
import Derived.Test.YtjpdpgjalbjmgaaZ3
/-
  The document's own answers: do keys begin with others, why rows can't be ordered so.
-/
namespace Go.Proofs.Ytjpdpgjalbjmgaa
open Go.RowKit Go.BigFrame

theorem ne_key (a b : Ky) (w : World) : (binOp .neq 43 a.val b.val).run Try.prog w = .ok (.bool (decide (a ≠ b))) w := by
  obtain ⟨k, n⟩ := a
  obtain ⟨k', n'⟩ := b
  unfold Ky.val
  simp only [ne_eq, Ky.mk.injEq]
  simp [go_sem]
  by_cases h1 : k = k' <;> by_cases h2 : n = n' <;> simp [h1, h2]

theorem begins_iff (ks bs : List Ky) : beginsK ks bs = true ↔ bs.length ≤ ks.length ∧ bs = ks.take bs.length := by
  unfold beginsK
  rw [decide_eq_true_eq]
  exact ⟨fun h => ⟨h.2, h.1⟩, fun h => ⟨h.2, h.1⟩⟩

set_option maxRecDepth 100000 in
set_option maxHeartbeats 1000000 in
theorem refBegins15_any (u v : Value) (ks bs : List Ky) (w : World) (hu : RdKs w u ks) (hv : RdKs w v bs) :
    Calls Try.prog 23 #[u, v] w fun e w' => e = .returned (.bool (beginsK ks bs)) ∧ Ext w w' := by
  obtain ⟨ao, ca, rfl, -, -⟩ := hu.shape
  obtain ⟨bo, cb, rfl, -, -⟩ := hv.shape
  obtain ⟨-, h1, h2, hca⟩ := hu.plain
  obtain ⟨-, h3, h4, hcb⟩ := hv.plain
  have HA := Lib.hid hca
  have HB := Lib.hid hcb
  unfold maxLen at h2 h4
  obtain ⟨K, hK⟩ : ∃ K, ks.length = K := ⟨_, rfl⟩
  obtain ⟨N, hN⟩ : ∃ N, bs.length = N := ⟨_, rfl⟩
  have HK := Lib.hid hK
  have HN := Lib.hid hN
  rw [hK] at h1 ⊢
  rw [hN] at h3 ⊢
  clear hu hv hca hcb hK hN
  by_cases hlen : K < N
  · have HR := Lib.hid (show beginsK ks bs = false from by
      cases h : beginsK ks bs with
      | false => rfl
      | true => have := ((begins_iff ks bs).1 h).1; have := HK.out; have := HN.out; omega)
    go_enter Try.func23, Try.ntmps23
    go_wp2_with fail
    go_ret
    exact ⟨by rw [HR.out]; rfl, Ext.keeps.refl _⟩
  · go_enter Try.func23, Try.ntmps23
    go_wp2_with fail
    go_loopw [5] (fun i wr => ∃ j : Nat, j ≤ N ∧ i = .int .i64 j ∧ bs.take j = ks.take j ∧ Ext w wr) (fun i _ => N - (intOf i).toNat)
    case atStart => exact ⟨0, Nat.zero_le _, rfl, rfl, Ext.keeps.refl _⟩
    case round =>
      obtain ⟨j, hj, rfl, htk, hext⟩ := hrel
      have HT := Lib.hid htk
      have HE := Lib.hid hext
      clear htk hext
      by_cases hlt : j < N
      · have hjx : j < ks.length := by have := HK.out; omega
        have hjy : j < bs.length := by have := HN.out; omega
        obtain ⟨g, off, rfl, c0, c1⟩ := HA.out j hjx
        obtain ⟨g', off', rfl, d0, d1⟩ := HB.out j hjy
        have z0 : ∀ z : Later Ext wr.drew, z.val.cell? ⟨g, off + j * 2, none⟩ = some (.int .i64 ks[j].col) := fun z => ((Ext.trans HE.out (Ext.trans (Ext.drew wr) z.ext)).cell (lt_of_cell c0)).trans c0
        have z1 : ∀ z : Later Ext wr.drew, z.val.cell? ⟨g, off + j * 2 + 1, none⟩ = some (.bool ks[j].down) := fun z => ((Ext.trans HE.out (Ext.trans (Ext.drew wr) z.ext)).cell (lt_of_cell c1)).trans c1
        have y0 : ∀ z : Later Ext wr.drew, z.val.cell? ⟨g', off' + j * 2, none⟩ = some (.int .i64 bs[j].col) := fun z => ((Ext.trans HE.out (Ext.trans (Ext.drew wr) z.ext)).cell (lt_of_cell d0)).trans d0
        have y1 : ∀ z : Later Ext wr.drew, z.val.cell? ⟨g', off' + j * 2 + 1, none⟩ = some (.bool bs[j].down) := fun z => ((Ext.trans HE.out (Ext.trans (Ext.drew wr) z.ext)).cell (lt_of_cell d1)).trans d1
        have HS := Lib.hid (show ks.take (j + 1) = ks.take j ++ [ks[j]] ∧ bs.take (j + 1) = bs.take j ++ [bs[j]] from ⟨List.take_succ_eq_append_getElem hjx, List.take_succ_eq_append_getElem hjy⟩)
        have HNO := Lib.hid (show ks[j] ≠ bs[j] → beginsK ks bs = false from fun hne => by
          cases h : beginsK ks bs with
          | false => rfl
          | true =>
            exfalso
            have h2 := ((begins_iff ks bs).1 h).2
            have h3 : bs[j]? = (ks.take bs.length)[j]? := congrArg (·[j]?) h2
            rw [List.getElem?_take, if_pos hjy, List.getElem?_eq_getElem hjx, List.getElem?_eq_getElem hjy] at h3
            exact hne (Option.some.inj h3).symm)
        have hne := ne_key ks[j] bs[j]
        unfold Ky.val at hne
        generalize ks[j] = c at z0 z1 HS HNO hne
        generalize bs[j] = d at y0 y1 HS HNO hne
        obtain ⟨ck, cd⟩ := c
        obtain ⟨dk, dd⟩ := d
        simp only at z0 z1 y0 y1 hne
        clear c0 c1 d0 d1
        by_cases he : (⟨ck, cd⟩ : Ky) = ⟨dk, dd⟩
        · rw [decide_eq_false (fun h => h he)] at hne
          have HEQ := Lib.hid he
          clear he
          go_wp2_with fail
          refine wp_region_segs Ext Ext.keeps [(List.range 9, none)] (by kernel_rfl) (by kernel_rfl) (fun c a a' w e h => (by exact ⟨e ▸ h.1, h.2⟩)) ?_
          simp only [List.range, List.range.loop, pickSegs, pickOps, List.map_cons, List.map_nil, Option.map_none, Option.getD_some, List.getElem?_toArray, List.getElem?_cons_zero, List.getElem?_cons_succ]
          refine wpSegs_none ?_
          repeat go_big_quiet_step (fail)
          refine wpQuiet_nil (wpSegs_nil ?_)
          clear z0 z1 y0 y1
          go_wp2_with fail
          go_roundw
          case rel => exact ⟨j + 1, by omega, by go_num, by rw [HS.out.1, HS.out.2, HT.out, HEQ.out], Ext.trans HE.out (Ext.drew wr)⟩
          case measure => simp [intOf]; omega
        · rw [decide_eq_true he] at hne
          have HR := Lib.hid (HNO.out he)
          clear he
          go_wp2_with fail
          refine wp_region_segs Ext Ext.keeps [(List.range 9, none)] (by kernel_rfl) (by kernel_rfl) (fun c a a' w e h => (by exact ⟨e ▸ h.1, h.2⟩)) ?_
          simp only [List.range, List.range.loop, pickSegs, pickOps, List.map_cons, List.map_nil, Option.map_none, Option.getD_some, List.getElem?_toArray, List.getElem?_cons_zero, List.getElem?_cons_succ]
          refine wpSegs_none ?_
          repeat go_big_quiet_step (fail)
          refine wpQuiet_nil (wpSegs_nil ?_)
          clear z0 z1 y0 y1
          go_wp2_with fail
          go_ret
          exact ⟨by rw [HR.out]; rfl, Ext.trans HE.out (Ext.drew wr)⟩
      · have HR := Lib.hid (show beginsK ks bs = true from (begins_iff ks bs).2 ⟨by have := HK.out; have := HN.out; omega, by
          have h := HT.out
          rwa [List.take_of_length_le (by have := HN.out; omega), show j = bs.length by have := HN.out; omega] at h⟩)
        go_wp2_with fail
        go_ret
        exact ⟨by rw [HR.out]; rfl, HE.out⟩

theorem rightK_neg {cols : Int} {ks : List Ky} (h : cols < 0) : rightK cols ks = 1 := by unfold rightK; rw [if_pos h]
theorem rightK_long {cols : Int} {ks : List Ky} (h : ¬ cols < 0) (h2 : 8 < ks.length) : rightK cols ks = 3 := by unfold rightK; rw [if_neg h, if_pos h2]
theorem rightK_ok {cols : Int} {ks : List Ky} (h : ¬ cols < 0) (h2 : ¬ 8 < ks.length) (h3 : ∀ i, (hi : i < ks.length) → 0 ≤ ks[i].col ∧ ks[i].col < cols ∧ ∀ j, (hj : j < i) → (ks[j]'(by omega)).col ≠ ks[i].col) : rightK cols ks = 0 := by
  unfold rightK; rw [if_neg h, if_neg h2, if_pos h3]
theorem rightK_no {cols : Int} {ks : List Ky} (h : ¬ cols < 0) (h2 : ¬ 8 < ks.length) (h3 : ¬ ∀ i, (hi : i < ks.length) → 0 ≤ ks[i].col ∧ ks[i].col < cols ∧ ∀ j, (hj : j < i) → (ks[j]'(by omega)).col ≠ ks[i].col) : rightK cols ks = 1 := by
  unfold rightK; rw [if_neg h, if_neg h2, if_neg h3]

set_option maxRecDepth 100000 in
set_option maxHeartbeats 1000000 in
theorem refRight15_any (cols : Int) (v : Value) (ks : List Ky) (w : World) (hv : RdKs w v ks) :
    Calls Try.prog 19 #[.int .i64 cols, v] w fun e w' => e = .returned (.int .i64 (rightK cols ks)) ∧ Ext w w' := by
  obtain ⟨ao, ca, rfl, -, -⟩ := hv.shape
  obtain ⟨-, h1, h2, hca⟩ := hv.plain
  have HA := Lib.hid hca
  unfold maxLen at h2
  obtain ⟨N, hN⟩ : ∃ N, ks.length = N := ⟨_, rfl⟩
  have HN := Lib.hid hN
  rw [hN] at h1 ⊢
  clear hv hca hN
  by_cases hneg : cols < 0
  · have HR := Lib.hid (rightK_neg (ks := ks) hneg)
    go_enter Try.func19, Try.ntmps19
    go_wp2_with fail
    go_ret
    exact ⟨by rw [HR.out]; rfl, Ext.keeps.refl _⟩
  · have d0 : decide (cols < 0) = false := decide_eq_false hneg
    by_cases hlong : 8 < N
    · have HR := Lib.hid (rightK_long (ks := ks) hneg (by have := HN.out; omega))
      have d1 : decide (8 < N) = true := decide_eq_true hlong
      have d1' : decide ((8 : Int) < (N : Int)) = true := decide_eq_true (by omega)
      go_enter Try.func19, Try.ntmps19
      go_wp2_with fail
      go_ret
      exact ⟨by rw [HR.out]; rfl, Ext.keeps.refl _⟩
    · have d1 : decide (8 < N) = false := decide_eq_false hlong
      have d1' : decide ((8 : Int) < (N : Int)) = false := decide_eq_false (by omega)
      have HYES := Lib.hid (fun h3 => rightK_ok (ks := ks) hneg (by have := HN.out; omega) h3)
      have HNO := Lib.hid (fun h3 => rightK_no (ks := ks) hneg (by have := HN.out; omega) h3)
      go_enter Try.func19, Try.ntmps19
      go_wp2_with fail
      go_loopw [5, 6] (fun i _ wr => ∃ j : Nat, j ≤ N ∧ i = .int .i64 j ∧ (∀ i, (hi : i < ks.length) → i < j → 0 ≤ ks[i].col ∧ ks[i].col < cols ∧ ∀ k, (hk : k < i) → (ks[k]'(by omega)).col ≠ ks[i].col) ∧ Ext w wr) (fun i _ _ => N - (intOf i).toNat)
      case atStart => exact ⟨0, Nat.zero_le _, rfl, fun i _ h => absurd h (Nat.not_lt_zero _), Ext.keeps.refl _⟩
      case round =>
        obtain ⟨j, hj, rfl, hs, hext⟩ := hrel
        have HS := Lib.hid hs
        have HE := Lib.hid hext
        clear hs hext
        by_cases hlt : j < N
        · have hjl : j < ks.length := by have := HN.out; omega
          obtain ⟨g, off, rfl, c0, -⟩ := HA.out j hjl
          have x0 := (HE.out.cell (lt_of_cell c0)).trans c0
          have HBAD := Lib.hid (fun (h : ¬ (0 ≤ ks[j].col ∧ ks[j].col < cols)) => HNO.out fun h3 => h ⟨(h3 j hjl).1, (h3 j hjl).2.1⟩)
          have HDUP := Lib.hid (fun k (hk : k < j) (h : (ks[k]'(by omega)).col = ks[j].col) => HNO.out fun h3 => (h3 j hjl).2.2 k hk h)
          have HNX := Lib.hid (show 0 ≤ ks[j].col → ks[j].col < cols → (∀ k, (hk : k < j) → (ks[k]'(by omega)).col ≠ ks[j].col) → ∀ i, (hi : i < ks.length) → i < j + 1 → 0 ≤ ks[i].col ∧ ks[i].col < cols ∧ ∀ k, (hk : k < i) → (ks[k]'(by omega)).col ≠ ks[i].col from fun a b c i hi hij => by
            by_cases e : i = j
            · subst e; exact ⟨a, b, c⟩
            · exact HS.out i hi (by omega))
          have HCJ := Lib.hid (fun W (h : Ext w W) => (h.cell (lt_of_cell c0)).trans c0)
          generalize hcol : ks[j].col = col at x0 HBAD HDUP HNX HCJ
          clear c0 hcol
          by_cases hc0 : col < 0
          · have HR := Lib.hid (HBAD.out (fun h => by omega))
            have e0 : decide (col < 0) = true := decide_eq_true hc0
            go_wp2_with fail
            go_ret
            exact ⟨by rw [HR.out]; rfl, HE.out⟩
          · have e0 : decide (col < 0) = false := decide_eq_false hc0
            by_cases hc1 : cols ≤ col
            · have HR := Lib.hid (HBAD.out (fun h => by omega))
              have e1 : decide (col ≥ cols) = true := decide_eq_true hc1
              go_wp2_with fail
              go_ret
              exact ⟨by rw [HR.out]; rfl, HE.out⟩
            · have e1 : decide (col ≥ cols) = false := decide_eq_false hc1
              have HNX2 := Lib.hid (HNX.out (by omega) (by omega))
              go_wp2_with fail
              generalize wr = wo at HE ⊢
              go_loopw [6] (fun i wr => ∃ k : Nat, k ≤ j ∧ i = .int .i64 k ∧ (∀ i, (hi : i < j) → i < k → (ks[i]'(by omega)).col ≠ col) ∧ Ext w wr) (fun i _ => j - (intOf i).toNat)
              case atStart => exact ⟨0, Nat.zero_le _, rfl, fun i _ h => absurd h (Nat.not_lt_zero _), HE.out⟩
              case round =>
                obtain ⟨k, hk, rfl, hs, hext⟩ := hrel
                have HS2 := Lib.hid hs
                have HE2 := Lib.hid hext
                clear hs hext
                by_cases hlt2 : k < j
                · have hkl : k < ks.length := by omega
                  obtain ⟨g2, off2, hgo, d0', -⟩ := HA.out k hkl
                  have hgo2 : g2 = g ∧ off2 = off := by simpa [eq_comm] using hgo
                  obtain ⟨rfl, rfl⟩ := hgo2
                  have z0 : ∀ z : Later Ext wr.drew, z.val.cell? ⟨g2, off2 + j * 2, none⟩ = some (.int .i64 col) := fun z => HCJ.out z.val (Ext.trans HE2.out (Ext.trans (Ext.drew wr) z.ext))
                  have z1 : ∀ z : Later Ext wr.drew, z.val.cell? ⟨g2, off2 + k * 2, none⟩ = some (.int .i64 ks[k].col) := fun z => ((Ext.trans HE2.out (Ext.trans (Ext.drew wr) z.ext)).cell (lt_of_cell d0')).trans d0'
                  have HD := Lib.hid (HDUP.out k hlt2)
                  have HN3 := Lib.hid (show ks[k].col ≠ col → ∀ i, (hi : i < j) → i < k + 1 → (ks[i]'(by omega)).col ≠ col from fun a i hi hik => by
                    by_cases e : i = k
                    · subst e; exact a
                    · exact HS2.out i hi (by omega))
                  generalize ks[k].col = ck at z1 HD HN3
                  clear d0' hgo
                  by_cases he : ck = col
                  · have HR := Lib.hid (HD.out he)
                    have q1 : (ck == col) = true := beq_iff_eq.2 he
                    clear he
                    go_wp2_with fail
                    refine wp_region_segs Ext Ext.keeps [(List.range 11, none)] (by kernel_rfl) (by kernel_rfl) (fun c a a' w e h => (by exact ⟨e ▸ h.1, h.2⟩)) ?_
                    simp only [List.range, List.range.loop, pickSegs, pickOps, List.map_cons, List.map_nil, Option.map_none, Option.getD_some, List.getElem?_toArray, List.getElem?_cons_zero, List.getElem?_cons_succ]
                    refine wpSegs_none ?_
                    repeat go_big_quiet_step (fail)
                    refine wpQuiet_nil (wpSegs_nil ?_)
                    clear z0 z1
                    go_wp2_with fail
                    go_ret
                    exact ⟨by rw [HR.out]; rfl, Ext.trans HE2.out (Ext.drew wr)⟩
                  · have HR := Lib.hid (HN3.out he)
                    have q1 : (ck == col) = false := beq_eq_false_iff_ne.2 he
                    clear he
                    go_wp2_with fail
                    refine wp_region_segs Ext Ext.keeps [(List.range 11, none)] (by kernel_rfl) (by kernel_rfl) (fun c a a' w e h => (by exact ⟨e ▸ h.1, h.2⟩)) ?_
                    simp only [List.range, List.range.loop, pickSegs, pickOps, List.map_cons, List.map_nil, Option.map_none, Option.getD_some, List.getElem?_toArray, List.getElem?_cons_zero, List.getElem?_cons_succ]
                    refine wpSegs_none ?_
                    repeat go_big_quiet_step (fail)
                    refine wpQuiet_nil (wpSegs_nil ?_)
                    clear z0 z1
                    go_wp2_with fail
                    go_roundw
                    case rel => exact ⟨k + 1, by omega, by go_num, HR.out, Ext.trans HE2.out (Ext.drew wr)⟩
                    case measure => simp [intOf]; omega
                · have HR := Lib.hid (HNX2.out fun i hi => HS2.out i hi (by omega))
                  go_wp2_with fail
                  go_roundw
                  case rel => exact ⟨j + 1, by omega, by go_num, HR.out, HE2.out⟩
                  case measure => simp [intOf]; omega
        · have HR := Lib.hid (HYES.out fun i hi => HS.out i hi (by have := HN.out; omega))
          go_wp2_with fail
          go_ret
          exact ⟨by rw [HR.out]; rfl, HE.out⟩

end Go.Proofs.Ytjpdpgjalbjmgaa

/-
  The document's own answers: two lists of rows as one.
-/
namespace Go.Proofs.Ytjpdpgjalbjmgaa
open Go.RowKit Go.BigFrame

theorem merge_cons_le {ks : List Ky} {out x y : List (List V)} {r s : List V} (h : cmpR ks r s ≤ 0) : out ++ OrdPure.mergeS (cmpR ks) (r :: x) (s :: y) = (out ++ [r]) ++ OrdPure.mergeS (cmpR ks) x (s :: y) := by
  rw [OrdPure.mergeS_le h, List.append_assoc]
  rfl
theorem merge_cons_gt {ks : List Ky} {out x y : List (List V)} {r s : List V} (h : ¬ cmpR ks r s ≤ 0) : out ++ OrdPure.mergeS (cmpR ks) (r :: x) (s :: y) = (out ++ [s]) ++ OrdPure.mergeS (cmpR ks) (r :: x) y := by
  rw [OrdPure.mergeS_gt h, List.append_assoc]
  rfl

set_option maxRecDepth 100000 in
set_option maxHeartbeats 4000000 in
theorem refMerge15_any (u v x : Value) (xs ys : List (List V)) (ks : List Ky) (m : Nat) (w : World) (hu : RdRV w u xs) (hv : RdRV w v ys) (hx : RdKs w x ks) (hfx : FitRs m xs) (hfy : FitRs m ys) (hl : xs.length + ys.length ≤ 1000000) :
    Calls Try.prog 21 #[u, v, x] w fun e w' => (∃ o, e = .returned o ∧ AnsR w.heap.size w' o (OrdPure.mergeS (cmpR ks) xs ys)) ∧ Ext w w' := by
  obtain ⟨i1, hi1, hy0, hy1, hy2⟩ := info_parts Try.info_row
  obtain ⟨ao, ca, rfl, -, -⟩ := hu.shape
  obtain ⟨bo, cb, rfl, -, -⟩ := hv.shape
  obtain ⟨ko, kcap, rfl, -, -⟩ := hx.shape
  have HC := Lib.hid (fun a b u v W (h : Ext w W) (hu : RdVals W u a) (hv : RdVals W v b) (ha : FitR m a) (hb : FitR m b) => refCompare15_any u v _ a b ks m W hu hv (hx.mono h) ha hb)
  generalize ks.length = KN at HC ⊢
  have HU := Lib.hid hu
  have HV := Lib.hid hv
  have HFX := Lib.hid hfx
  have HFY := Lib.hid hfy
  obtain ⟨A0, hA0⟩ : ∃ A0, xs.length = A0 := ⟨_, rfl⟩
  obtain ⟨B0, hB0⟩ : ∃ B0, ys.length = B0 := ⟨_, rfl⟩
  have HA0 := Lib.hid hA0
  have HB0 := Lib.hid hB0
  rw [hA0, hB0] at hl
  rw [hA0] at HU ⊢
  rw [hB0] at HV ⊢
  clear hu hv hx hfx hfy hA0 hB0
  go_enter Try.func21, Try.ntmps21
  go_wp2_with fail
  go_loopw [0, 1, 7] (fun a b o wr => ∃ (A B ca cb : Nat) (ao bo : Option Addr) (X Y out : List (List V)) (oh : List Value), a = .slice ao A ca ∧ b = .slice bo B cb ∧ X.length = A ∧ Y.length = B ∧ oh.length + A + B ≤ 1000000 ∧ RdRV w (.slice ao A ca) X ∧ RdRV w (.slice bo B cb) Y ∧ FitRs m X ∧ FitRs m Y ∧ wr.ownsRow w.heap.size 33 1 o oh.length oh ∧ HdRows w oh out ∧ OrdPure.mergeS (cmpR ks) xs ys = out ++ OrdPure.mergeS (cmpR ks) X Y ∧ Ext w wr) (fun a b _ _ => (match a with | .slice _ n _ => n | _ => 0) + (match b with | .slice _ n _ => n | _ => 0))
  case atStart => exact ⟨A0, B0, ca, cb, ao, bo, xs, ys, [], [], rfl, rfl, HA0.out, HB0.out, by simp; omega, HU.out, HV.out, HFX.out, HFY.out, owns_nil _ _ _ _, HdRows.nil _, by rw [List.nil_append], Ext.keeps.refl _⟩
  case round =>
    obtain ⟨A, B, ca, cb, ao, bo, X, Y, out, oh, rfl, rfl, hXl, hYl, hsz, hX, hY, hfX, hfY, ho, hh, hm, hext⟩ := hrel
    have HX := Lib.hid hX
    have HY := Lib.hid hY
    have HFX2 := Lib.hid hfX
    have HFY2 := Lib.hid hfY
    have HO := Lib.hid ho
    have HH := Lib.hid hh
    have HM := Lib.hid hm
    have HE := Lib.hid hext
    have HXL := Lib.hid hXl
    have HYL := Lib.hid hYl
    clear hX hY hfX hfY ho hh hm hext hXl hYl
    by_cases hA : 0 < A
    · by_cases hB : 0 < B
      · obtain ⟨a1, a2, a3, g, off, r, X', ao', ca', rfl, rfl, c0, hr, hX', hsX⟩ := HX.out.cut hA
        obtain ⟨b1, b2, b3, g', off', s, Y', bo', cb', rfl, rfl, c1, hs, hY', hsY⟩ := HY.out.cut hB
        have x0 := (HE.out.cell (lt_of_cell c0)).trans c0
        have x1 := (HE.out.cell (lt_of_cell c1)).trans c1
        have z0 : ∀ z : Later Ext wr.drew, z.val.cell? ⟨g, off, none⟩ = some (.slice a1 a2 a3) := fun z => ((Ext.trans (Ext.drew wr) z.ext).cell (lt_of_cell x0)).trans x0
        have z1 : ∀ z : Later Ext wr.drew, z.val.cell? ⟨g', off', none⟩ = some (.slice b1 b2 b3) := fun z => ((Ext.trans (Ext.drew wr) z.ext).cell (lt_of_cell x1)).trans x1
        have HCC := Lib.hid (HC.out r s _ _ wr.drew (Ext.trans HE.out (Ext.drew wr)) (hr.mono (Ext.trans HE.out (Ext.drew wr))) (hs.mono (Ext.trans HE.out (Ext.drew wr))) (HFX2.out r (by simp)) (HFY2.out s (by simp)))
        have HMLE := Lib.hid (fun h => HM.out.trans (merge_cons_le (ks := ks) (out := out) (x := X') (y := Y') (r := r) (s := s) h))
        have HMGT := Lib.hid (fun h => HM.out.trans (merge_cons_gt (ks := ks) (out := out) (x := X') (y := Y') (r := r) (s := s) h))
        generalize cmpR ks r s = C at HCC HMLE HMGT
        have HHR := Lib.hid (HdRows.one hr)
        have HHS := Lib.hid (HdRows.one hs)
        have HX' := Lib.hid hX'
        have HY' := Lib.hid hY'
        have HK0 := Lib.hid (fun W (h : Ext wr W) => (h.cell (lt_of_cell x0)).trans x0)
        have HK1 := Lib.hid (fun W (h : Ext wr W) => (h.cell (lt_of_cell x1)).trans x1)
        clear hr hs hX' hY' c0 c1 x0 x1
        obtain ⟨oa, oc, rfl, ho1, ho2⟩ := own_shapeP HO.out
        unfold maxLen at ho2
        by_cases hC : C ≤ 0
        · have HML := Lib.hid (HMLE.out hC)
          have d1 : decide (C ≤ 0) = true := decide_eq_true hC
          clear hC
          go_wp2_with fail
          refine wp_region_segs Ext Ext.keeps [([0, 1, 2, 3, 4, 5, 6], some 7), ([8], none)] (by kernel_rfl) (by kernel_rfl) (fun c a a' w e h => (by exact ⟨e ▸ h.1, h.2⟩)) ?_
          simp only [pickSegs, pickOps, List.map_cons, List.map_nil, Option.map_some, Option.map_none, Option.getD_some, List.getElem?_toArray, List.getElem?_cons_zero, List.getElem?_cons_succ]
          refine wpSegs_some fun K' hK' => ?_
          repeat go_big_quiet_step (fail)
          refine wpQuiet_nil ?_
          clear z0 z1
          go_wp2_with fail
          refine (HCC.out).mono ?_
          rintro e w3 ⟨rfl, hx3⟩
          have HX3 := Lib.hid hx3
          clear hx3
          go_wp2_with fail
          refine ⟨HX3.out, hK' _ _ ?_⟩
          clear hK' K'
          refine wpSegs_none ?_
          repeat go_big_quiet_step (fail)
          refine wpQuiet_nil (wpSegs_nil ?_)
          have x0 := HK0.out w3 (Ext.trans (Ext.drew wr) HX3.out)
          have HX03 := Lib.hid (Ext.trans HE.out (Ext.trans (Ext.drew wr) HX3.out))
          have HO3 := Lib.hid (owns_extS HO.out (Ext.trans (Ext.drew wr) HX3.out))
          have HSZ := Lib.hid HX03.out.size
          have hoh : oh.length ≤ 10000000 := by omega
          go_wp2_with (at_builtin; go_must (refine wpList_append_one rfl (.tmp 25) (.tmp 29) 22 rfl w.heap.size 33 i1 (.slice none 0 0) 1 24 Try.underlying22 hi1 hy0 hy1 hy2 rfl (by decide) (by decide) _ oh.length oh [.slice a1 a2 a3] rfl HO3.out rfl rfl (by simp [Value.oneCell']) hoh HSZ.out ?_); intro v5 w5 h5a h5b h5c h5d; have HO5 := Lib.hid h5a; have HB5 := Lib.hid h5b; clear h5a h5b h5c h5d)
          have HE5 := Lib.hid (show Ext w w5 from (show Below w.heap.size w w3 from HX03.out).trans HB5.out)
          go_roundw
          case rel => exact ⟨A - 1, B, ca', cb, ao', _, X', _, out ++ [r], oh ++ [.slice a1 a2 a3], rfl, rfl, by have := HXL.out; simp at this; omega, HYL.out, by simp; omega, HX'.out, HY.out, fun q hq => HFX2.out q (by simp [hq]), HFY2.out, by rw [List.length_append]; exact HO5.out, HH.out.append HHR.out, HML.out, HE5.out⟩
          case measure => simp; omega
        · have HMG := Lib.hid (HMGT.out hC)
          have d1 : decide (C ≤ 0) = false := decide_eq_false hC
          clear hC
          go_wp2_with fail
          refine wp_region_segs Ext Ext.keeps [([0, 1, 2, 3, 4, 5, 6], some 7), ([8], none)] (by kernel_rfl) (by kernel_rfl) (fun c a a' w e h => (by exact ⟨e ▸ h.1, h.2⟩)) ?_
          simp only [pickSegs, pickOps, List.map_cons, List.map_nil, Option.map_some, Option.map_none, Option.getD_some, List.getElem?_toArray, List.getElem?_cons_zero, List.getElem?_cons_succ]
          refine wpSegs_some fun K' hK' => ?_
          repeat go_big_quiet_step (fail)
          refine wpQuiet_nil ?_
          clear z0 z1
          go_wp2_with fail
          refine (HCC.out).mono ?_
          rintro e w3 ⟨rfl, hx3⟩
          have HX3 := Lib.hid hx3
          clear hx3
          go_wp2_with fail
          refine ⟨HX3.out, hK' _ _ ?_⟩
          clear hK' K'
          refine wpSegs_none ?_
          repeat go_big_quiet_step (fail)
          refine wpQuiet_nil (wpSegs_nil ?_)
          have x0 := HK1.out w3 (Ext.trans (Ext.drew wr) HX3.out)
          have HX03 := Lib.hid (Ext.trans HE.out (Ext.trans (Ext.drew wr) HX3.out))
          have HO3 := Lib.hid (owns_extS HO.out (Ext.trans (Ext.drew wr) HX3.out))
          have HSZ := Lib.hid HX03.out.size
          have hoh : oh.length ≤ 10000000 := by omega
          go_wp2_with (at_builtin; go_must (refine wpList_append_one rfl (.tmp 33) (.tmp 37) 22 rfl w.heap.size 33 i1 (.slice none 0 0) 1 24 Try.underlying22 hi1 hy0 hy1 hy2 rfl (by decide) (by decide) _ oh.length oh [.slice b1 b2 b3] rfl HO3.out rfl rfl (by simp [Value.oneCell']) hoh HSZ.out ?_); intro v5 w5 h5a h5b h5c h5d; have HO5 := Lib.hid h5a; have HB5 := Lib.hid h5b; clear h5a h5b h5c h5d)
          have HE5 := Lib.hid (show Ext w w5 from (show Below w.heap.size w w3 from HX03.out).trans HB5.out)
          go_roundw
          case rel => exact ⟨A, B - 1, ca, cb', _, bo', _, Y', out ++ [s], oh ++ [.slice b1 b2 b3], rfl, rfl, HXL.out, by have := HYL.out; simp at this; omega, by simp; omega, HX.out, HY'.out, HFX2.out, fun q hq => HFY2.out q (by simp [hq]), by rw [List.length_append]; exact HO5.out, HH.out.append HHS.out, HMG.out, HE5.out⟩
          case measure => simp; omega
      · have HFIN := Lib.hid (show OrdPure.mergeS (cmpR ks) xs ys = out ++ X from by
          rw [HM.out, show Y = [] from List.eq_nil_of_length_eq_zero (by have := HYL.out; omega), OrdPure.mergeS_nil_right])
        obtain ⟨xh, hx1, hx2⟩ := HX.out
        obtain ⟨yh, hy1', hy2'⟩ := HY.out
        have HXH := Lib.hid (hx1.mono HE.out)
        have HYB := Lib.hid hy1'
        have HX2 := Lib.hid hx2
        have HYN := Lib.hid (show yh = [] from List.eq_nil_of_length_eq_zero (by have := hy2'.1; have := HYL.out; omega))
        have hxl : xh.length ≤ 1000000 := by have := hx2.1; have := HXL.out; omega
        have hyl : yh.length = 0 := by rw [HYN.out]; rfl
        have HOX := Lib.hid hx2.oneCell
        have HOY := Lib.hid hy2'.oneCell
        clear hx1 hx2 hy1' hy2'
        obtain ⟨oa, oc, rfl, ho1, ho2⟩ := own_shapeP HO.out
        unfold maxLen at ho2
        have HSZ := Lib.hid HE.out.size
        go_upto_region 9 with (at_builtin; go_must (refine wpList_append_rd rfl (.tmp 41) (.tmp 42) 22 rfl w.heap.size 33 i1 (.slice none 0 0) 24 Try.underlying22 hi1 hy0 hy1 hy2 rfl _ _ _ rfl HO.out _ _ rfl HXH.out HOX.out (by unfold maxLen; omega) (by omega) HSZ.out ?_); intro v5 w5 h5a h5b; have HO5 := Lib.hid h5a; have HB5 := Lib.hid ((Below.refl w.heap.size wr).grown h5b HSZ.out (fun b hb => (HO.out.lt b hb).1)); have HYH5 := Lib.hid (RdV.mono (HYB.out) (show Below w.heap.size w w5 from (show Below w.heap.size w wr from HE.out).trans HB5.out)); clear h5a h5b)
        have HE5 := Lib.hid (show Ext w w5 from (show Below w.heap.size w wr from HE.out).trans HB5.out)
        have HSZ5 := Lib.hid HE5.out.size
        obtain ⟨oa5, oc5, rfl, ho15, ho25⟩ := own_shapeP HO5.out
        unfold maxLen at ho25
        go_wp2_with (at_builtin; go_must (refine wpList_append_rd rfl (.tmp 44) (.tmp 45) 22 rfl w.heap.size 33 i1 (.slice none 0 0) 24 Try.underlying22 hi1 hy0 hy1 hy2 rfl _ _ _ rfl HO5.out _ _ rfl HYH5.out HOY.out (by unfold maxLen; omega) (by omega) HSZ5.out ?_); intro v6 w6 h6a h6b; have HO6 := Lib.hid h6a; have HB6 := Lib.hid ((Below.refl w.heap.size w5).grown h6b HSZ5.out (fun b hb => (HO5.out.lt b hb).1)); clear h6a h6b)
        have HE6 := Lib.hid (show Ext w w6 from (show Below w.heap.size w w5 from HE5.out).trans HB6.out)
        go_ret
        exact ⟨⟨_, rfl, (oh ++ xh) ++ yh, by rw [List.length_append, List.length_append]; exact HO6.out, by rw [HFIN.out]; exact by rw [HYN.out, List.append_nil]; exact (HH.out.append HX2.out).mono HE6.out⟩, HE6.out⟩
    · have HFIN := Lib.hid (show OrdPure.mergeS (cmpR ks) xs ys = out ++ Y from by
        rw [HM.out, show X = [] from List.eq_nil_of_length_eq_zero (by have := HXL.out; omega), OrdPure.mergeS_nil_left])
      obtain ⟨xh, hx1, hx2⟩ := HX.out
      obtain ⟨yh, hy1', hy2'⟩ := HY.out
      have HXH := Lib.hid (hx1.mono HE.out)
      have HYB := Lib.hid hy1'
      have HY2 := Lib.hid hy2'
      have HXN := Lib.hid (show xh = [] from List.eq_nil_of_length_eq_zero (by have := hx2.1; have := HXL.out; omega))
      have hyl : yh.length ≤ 1000000 := by have := hy2'.1; have := HYL.out; omega
      have hxl : xh.length = 0 := by rw [HXN.out]; rfl
      have HOX := Lib.hid hx2.oneCell
      have HOY := Lib.hid hy2'.oneCell
      clear hx1 hx2 hy1' hy2'
      obtain ⟨oa, oc, rfl, ho1, ho2⟩ := own_shapeP HO.out
      unfold maxLen at ho2
      have HSZ := Lib.hid HE.out.size
      go_upto_region 9 with (at_builtin; go_must (refine wpList_append_rd rfl (.tmp 41) (.tmp 42) 22 rfl w.heap.size 33 i1 (.slice none 0 0) 24 Try.underlying22 hi1 hy0 hy1 hy2 rfl _ _ _ rfl HO.out _ _ rfl HXH.out HOX.out (by unfold maxLen; omega) (by omega) HSZ.out ?_); intro v5 w5 h5a h5b; have HO5 := Lib.hid h5a; have HB5 := Lib.hid ((Below.refl w.heap.size wr).grown h5b HSZ.out (fun b hb => (HO.out.lt b hb).1)); have HYH5 := Lib.hid (RdV.mono (HYB.out) (show Below w.heap.size w w5 from (show Below w.heap.size w wr from HE.out).trans HB5.out)); clear h5a h5b)
      have HE5 := Lib.hid (show Ext w w5 from (show Below w.heap.size w wr from HE.out).trans HB5.out)
      have HSZ5 := Lib.hid HE5.out.size
      obtain ⟨oa5, oc5, rfl, ho15, ho25⟩ := own_shapeP HO5.out
      unfold maxLen at ho25
      go_wp2_with (at_builtin; go_must (refine wpList_append_rd rfl (.tmp 44) (.tmp 45) 22 rfl w.heap.size 33 i1 (.slice none 0 0) 24 Try.underlying22 hi1 hy0 hy1 hy2 rfl _ _ _ rfl HO5.out _ _ rfl HYH5.out HOY.out (by unfold maxLen; omega) (by omega) HSZ5.out ?_); intro v6 w6 h6a h6b; have HO6 := Lib.hid h6a; have HB6 := Lib.hid ((Below.refl w.heap.size w5).grown h6b HSZ5.out (fun b hb => (HO5.out.lt b hb).1)); clear h6a h6b)
      have HE6 := Lib.hid (show Ext w w6 from (show Below w.heap.size w w5 from HE5.out).trans HB6.out)
      go_ret
      exact ⟨⟨_, rfl, (oh ++ xh) ++ yh, by rw [List.length_append, List.length_append]; exact HO6.out, by rw [HFIN.out]; exact by rw [HXN.out, List.append_nil]; exact (HH.out.append HY2.out).mono HE6.out⟩, HE6.out⟩

end Go.Proofs.Ytjpdpgjalbjmgaa

/-
  The document's own answers: rows in order.
-/
namespace Go.Proofs.Ytjpdpgjalbjmgaa
open Go.RowKit Go.BigFrame

/-- What the search for a place is at. -/
def Seek (ks : List Ky) (s : List (List V)) (r : List V) (k : Nat) : Prop := k ≤ s.length ∧ ∀ y ∈ s.drop k, 0 < cmpR ks y r
theorem Seek.start (ks : List Ky) (s : List (List V)) (r : List V) : Seek ks s r s.length := ⟨Nat.le_refl _, by simp⟩
theorem Seek.next {ks : List Ky} {s : List (List V)} {r : List V} {k : Nat} (h : Seek ks s r k) (hk : 0 < k) (hc : 0 < cmpR ks (s[k - 1]'(by have := h.1; omega)) r) : Seek ks s r (k - 1) := by
  refine ⟨by have := h.1; omega, fun y hy => ?_⟩
  have hk2 : k - 1 < s.length := by have := h.1; omega
  rw [List.drop_eq_getElem_cons hk2, show k - 1 + 1 = k by omega] at hy
  rcases List.mem_cons.1 hy with rfl | hy
  · exact hc
  · exact h.2 y hy
theorem Seek.place {ks : List Ky} {s : List (List V)} {r : List V} {k : Nat} (h : Seek ks s r k) (hc : ∀ (_ : 0 < k), cmpR ks (s[k - 1]'(by have := h.1; omega)) r ≤ 0) : OrdPure.IsPlace (cmpR ks) s r k :=
  ⟨h.1, h.2, fun j hj e => by
    subst e
    exact hc (by omega)⟩

set_option maxRecDepth 100000 in
set_option maxHeartbeats 4000000 in
theorem refSort15_any (u x : Value) (rs : List (List V)) (ks : List Ky) (m : Nat) (w : World) (hu : RdRows w u rs) (hx : RdKs w x ks) (hf : FitRs m rs) (hl : rs.length ≤ 1000000) :
    Calls Try.prog 14 #[u, x] w fun e w' => (∃ o, e = .returned o ∧ AnsR w.heap.size w' o (sortS ks rs)) ∧ Ext w w' := by
  obtain ⟨i1, hi1, hy0, hy1, hy2⟩ := info_parts Try.info_row
  obtain ⟨ao, ca, rfl, -, -⟩ := hu.shape
  obtain ⟨ko, kcap, rfl, -, -⟩ := hx.shape
  obtain ⟨as', ha1, -, h1, h2, hca⟩ := hu.heads
  have HA := Lib.hid hca
  have HHA := Lib.hid ha1
  have HC := Lib.hid (fun a b u v W (h : Ext w W) (hu : RdVals W u a) (hv : RdVals W v b) (ha : FitR m a) (hb : FitR m b) => refCompare15_any u v _ a b ks m W hu hv (hx.mono h) ha hb)
  generalize ks.length = KN at HC ⊢
  have HF := Lib.hid hf
  have HP := Lib.hid (cmpR_pre ks)
  unfold maxLen at h2
  obtain ⟨N, hN⟩ : ∃ N, rs.length = N := ⟨_, rfl⟩
  have HN := Lib.hid hN
  rw [hN] at h1 hl ⊢
  clear hu hx hca ha1 hf hN
  go_enter Try.func14, Try.ntmps14
  go_wp2_with fail
  go_loopw [5, 6, 7, 8] (fun o i _ _ wr => ∃ (j : Nat) (s : List (List V)) (oh : List Value), j ≤ N ∧ i = .int .i64 j ∧ OrdPure.IsSort (cmpR ks) (rs.take j) s ∧ wr.ownsRow w.heap.size 33 1 o oh.length oh ∧ HdRows w oh s ∧ Ext w wr) (fun _ i _ _ _ => N - (intOf i).toNat)
  case atStart => exact ⟨0, [], [], Nat.zero_le _, rfl, by rw [List.take_zero]; exact OrdPure.IsSort.nil, owns_nil _ _ _ _, HdRows.nil _, Ext.keeps.refl _⟩
  case round =>
    obtain ⟨j, s, oh, hj, rfl, hs, ho, hh, hext⟩ := hrel
    have hsl := hs.length HP.out
    rw [List.length_take] at hsl
    have hoh : oh.length ≤ 1000000 := by have := hh.1; omega
    have HSL := Lib.hid hh.1
    have HS := Lib.hid hs
    have HO := Lib.hid ho
    have HH := Lib.hid hh
    have HE := Lib.hid hext
    obtain ⟨oa, oc, rfl, ho1, ho2⟩ := own_shapeP ho
    unfold maxLen at ho2
    clear hs ho hh hext hsl
    by_cases hlt : j < N
    · have hjl : j < rs.length := by have := HN.out; omega
      obtain ⟨b1, b2, b3, hb, hrb⟩ := HHA.out.get j hjl
      obtain ⟨g', off', rfl, c1⟩ := HA.out j _ hb
      have HFR := Lib.hid (HF.out rs[j] (List.getElem_mem hjl))
      have HFS := Lib.hid (show FitRs m s from fun q hq => HF.out q (List.mem_of_mem_take ((HS.out.mem HP.out).1 hq)))
      have HTK := Lib.hid (List.take_succ_eq_append_getElem hjl)
      have HRB := Lib.hid hrb
      have HC1 := Lib.hid (fun W (h : Ext w W) => (h.cell (lt_of_cell c1)).trans c1)
      generalize rs[j] = r at HFR HTK HRB
      clear hb hrb c1
      have hohl : oh.length = oh.length := rfl
      go_upto_block 2 with fail
      go_cut [7] from 17 to 34 (fun kv W => ∃ k : Nat, kv = .int .i64 k ∧ k ≤ oh.length ∧ OrdPure.IsPlace (cmpR ks) s r k ∧ W.ownsRow w.heap.size 33 1 (.slice oa oh.length oc) oh.length oh ∧ Ext w W)
      case first =>
        go_wp2_with fail
        generalize wr = wo at HO HE ⊢
        go_loopw [7] (fun kv wr => ∃ k : Nat, kv = .int .i64 k ∧ k ≤ oh.length ∧ Seek ks s r k ∧ wr.ownsRow w.heap.size 33 1 (.slice oa oh.length oc) oh.length oh ∧ Ext w wr) (fun kv _ => (intOf kv).toNat)
        case atStart => exact ⟨oh.length, rfl, Nat.le_refl _, by rw [HSL.out]; exact Seek.start ks s r, HO.out, HE.out⟩
        case round =>
          obtain ⟨k, rfl, hk, hsk, ho3, hx3⟩ := hrel
          have HSK := Lib.hid hsk
          have HO2 := Lib.hid ho3
          have HE2 := Lib.hid hx3
          clear hsk ho3 hx3
          by_cases hk0 : 0 < k
          · have hks : k - 1 < s.length := by have := HSL.out; omega
            obtain ⟨a1, a2, a3, ha, hra⟩ := HH.out.get (k - 1) hks
            obtain ⟨g, off, hgo, c0⟩ := (RdV.plainV (RdV.of_owns HO2.out)).2.2.2 (k - 1) _ ha
            subst hgo
            have e1 : (k : Int) - 1 = ((k - 1 : Nat) : Int) := by omega
            have d0 : decide ((k : Int) > 0) = true := decide_eq_true (by omega)
            have d0' : decide (k > 0) = true := decide_eq_true hk0
            have z0 : ∀ z : Later Ext wr.drew, z.val.cell? ⟨g, off + (k - 1), none⟩ = some (.slice a1 a2 a3) := fun z => ((Ext.trans (Ext.drew wr) z.ext).cell (lt_of_cell c0)).trans c0
            have z1 : ∀ z : Later Ext wr.drew, z.val.cell? ⟨g', off' + j, none⟩ = some (.slice b1 b2 b3) := fun z => HC1.out z.val (Ext.trans HE2.out (Ext.trans (Ext.drew wr) z.ext))
            have HCC := Lib.hid (HC.out s[k - 1] r _ _ wr.drew (Ext.trans HE2.out (Ext.drew wr)) (hra.mono (Ext.trans HE2.out (Ext.drew wr))) (HRB.out.mono (Ext.trans HE2.out (Ext.drew wr))) (HFS.out _ (List.getElem_mem _)) HFR.out)
            have HNX := Lib.hid (fun h => HSK.out.next hk0 h)
            have HPL := Lib.hid (fun (h : cmpR ks (s[k - 1]'hks) r ≤ 0) => HSK.out.place (fun _ => h))
            generalize cmpR ks s[k - 1] r = C at HCC HNX HPL
            clear ha hra c0
            by_cases hC : 0 < C
            · have HR := Lib.hid (HNX.out hC)
              have d1 : decide (C > 0) = true := decide_eq_true hC
              clear hC
              go_wp2_with fail
              refine wp_region_segs Ext Ext.keeps [([0, 1, 2, 3, 4, 5, 6, 7, 8, 9, 10, 11, 12], some 13), ([14, 15], none)] (by kernel_rfl) (by kernel_rfl) (fun c a a' w e h => (by exact ⟨e ▸ h.1, h.2⟩)) ?_
              simp only [pickSegs, pickOps, List.map_cons, List.map_nil, Option.map_some, Option.map_none, Option.getD_some, List.getElem?_toArray, List.getElem?_cons_zero, List.getElem?_cons_succ]
              refine wpSegs_some fun K' hK' => ?_
              repeat go_big_quiet_step (fail)
              refine wpQuiet_nil ?_
              clear z0 z1
              go_wp2_with fail
              refine (HCC.out).mono ?_
              rintro e w3 ⟨rfl, hx3⟩
              have HX3 := Lib.hid hx3
              clear hx3
              go_wp2_with fail
              refine ⟨HX3.out, hK' _ _ ?_⟩
              clear hK' K'
              refine wpSegs_none ?_
              repeat go_big_quiet_step (fail)
              refine wpQuiet_nil (wpSegs_nil ?_)
              go_wp2_with fail
              go_roundw
              case rel => exact ⟨k - 1, by go_num, by omega, HR.out, owns_extS HO2.out (Ext.trans (Ext.drew wr) HX3.out), Ext.trans HE2.out (Ext.trans (Ext.drew wr) HX3.out)⟩
              case measure => simp [intOf]; omega
            · have HR := Lib.hid (HPL.out (by omega))
              have d1 : decide (C > 0) = false := decide_eq_false hC
              clear hC
              go_wp2_with fail
              refine wp_region_segs Ext Ext.keeps [([0, 1, 2, 3, 4, 5, 6, 7, 8, 9, 10, 11, 12], some 13), ([14, 15], none)] (by kernel_rfl) (by kernel_rfl) (fun c a a' w e h => (by exact ⟨e ▸ h.1, h.2⟩)) ?_
              simp only [pickSegs, pickOps, List.map_cons, List.map_nil, Option.map_some, Option.map_none, Option.getD_some, List.getElem?_toArray, List.getElem?_cons_zero, List.getElem?_cons_succ]
              refine wpSegs_some fun K' hK' => ?_
              repeat go_big_quiet_step (fail)
              refine wpQuiet_nil ?_
              clear z0 z1
              go_wp2_with fail
              refine (HCC.out).mono ?_
              rintro e w3 ⟨rfl, hx3⟩
              have HX3 := Lib.hid hx3
              clear hx3
              go_wp2_with fail
              refine ⟨HX3.out, hK' _ _ ?_⟩
              clear hK' K'
              refine wpSegs_none ?_
              repeat go_big_quiet_step (fail)
              refine wpQuiet_nil (wpSegs_nil ?_)
              go_wp2_with fail
              go_meet
              exact ⟨k, rfl, hk, HR.out, owns_extS HO2.out (Ext.trans (Ext.drew wr) HX3.out), Ext.trans HE2.out (Ext.trans (Ext.drew wr) HX3.out)⟩
          · have HR := Lib.hid (HSK.out.place (fun h => absurd h hk0))
            have d0 : decide ((k : Int) > 0) = false := decide_eq_false (by omega)
            have d0' : decide (k > 0) = false := decide_eq_false hk0
            go_wp2_with fail
            refine wp_region_segs Ext Ext.keeps [([0, 1, 2, 3, 4, 5, 6, 7, 8, 9, 10, 11, 12], some 13), ([14, 15], none)] (by kernel_rfl) (by kernel_rfl) (fun c a a' w e h => (by exact ⟨e ▸ h.1, h.2⟩)) ?_
            simp only [pickSegs, pickOps, List.map_cons, List.map_nil, Option.map_some, Option.map_none, Option.getD_some, List.getElem?_toArray, List.getElem?_cons_zero, List.getElem?_cons_succ]
            refine wpSegs_some fun K' hK' => ?_
            repeat go_big_quiet_step (fail)
            refine wpQuiet_nil ?_
            go_wp2_with fail
            refine ⟨Ext.keeps.refl _, hK' _ _ ?_⟩
            clear hK' K'
            refine wpSegs_none ?_
            repeat go_big_quiet_step (fail)
            refine wpQuiet_nil (wpSegs_nil ?_)
            go_wp2_with fail
            go_meet
            exact ⟨k, rfl, hk, HR.out, owns_extS HO2.out (Ext.drew wr), Ext.trans HE2.out (Ext.drew wr)⟩
      case rest =>
      obtain ⟨k, rfl, hk, hpl, ho3, hx3⟩ := hcut
      have HPLC := Lib.hid hpl
      have HOC := Lib.hid ho3
      have HEC := Lib.hid hx3
      clear hpl ho3 hx3
      obtain ⟨ra, rcap, hrr, hsl⟩ := slice_restV Try.underlying22 hi1 hy1 (RdV.of_owns HOC.out) k hk
      have HRR := Lib.hid (hrr.mono (ext_new wc (.cells #[] 33)))
      have HTO := Lib.hid ((HH.out.drop k).oneCell)
      have HDL := Lib.hid (show (oh.drop k).length = oh.length - k by rw [List.length_drop])
      clear hrr HO HE
      go_upto_region 9 with (at_builtin; go_must (refine wpList_append_rd rfl (.tmp 35) (.tmp 38) 22 rfl wc.heap.size 33 i1 (.slice none 0 0) 24 Try.underlying22 hi1 hy0 hy1 hy2 rfl _ _ _ rfl (empty_rows wc) _ _ rfl HRR.out HTO.out (by rw [HDL.out]; unfold maxLen; omega) (by rw [HDL.out]; omega) (by simp) ?_); intro v5 w5 hown5 hgrow5; have HO5 := Lib.hid hown5; have HX5 := Lib.hid (show Ext wc w5 from (ext_new wc _).grown hgrow5 (by simp) (fun k hk => by cases hk; exact Nat.le_refl _)); clear hown5 hgrow5)
      have HX05 := Lib.hid (show Below w.heap.size w w5 from Ext.trans HEC.out HX5.out)
      have hcl5 : ∀ z : Later (Below w.heap.size) w5.drew, z.val.cell? ⟨g', off' + j, none⟩ = some (.slice b1 b2 b3) := fun z => HC1.out z.val (HX05.out.trans ((Below.drew (Below.refl w.heap.size w5)).trans z.ext))
      have HO6 := Lib.hid (owns_extS (owns_extS HOC.out HX5.out) (Ext.drew w5))
      have HX6 := Lib.hid (show Below w.heap.size w w5.drew from HX05.out.trans (Below.drew (Below.refl w.heap.size w5)))
      have HR6 := Lib.hid ((RdV.of_owns HO5.out).mono (Ext.drew w5))
      have HBL := Lib.hid (show ∀ k, v5.ownBlock = some k → wc.heap.size ≤ k from fun k hk => (HO5.out.lt k hk).1)
      have HBW := Lib.hid (fun (n k : Nat) (hk : (Value.slice oa n oc).ownBlock = some k) => (show k < wc.heap.size from (HOC.out.lt k ((ownBlock_len oa oh.length n oc).trans hk)).2))
      rw [List.nil_append] at HR6
      go_wp2_with fail
      refine wp_region_segs (Below w.heap.size) (Below.keepsD _) [([0, 1, 2, 3, 4, 5, 6], some 7), ([], some 8), ([9], none)] (by kernel_rfl) (by kernel_rfl) (fun c a a' w e h => (by exact ⟨e ▸ h.1, h.2⟩)) ?_
      simp only [pickSegs, pickOps, List.map_cons, List.map_nil, Option.map_some, Option.map_none, Option.getD_some, List.getElem?_toArray, List.getElem?_cons_zero, List.getElem?_cons_succ]
      refine wpSegs_some fun KK hKK => ?_
      repeat go_big_quiet_step (fail)
      refine wpQuiet_nil ?_
      clear hcl5
      generalize w5.drew = w6 at HO6 HX6 HR6 ⊢
      have HSZ6 := Lib.hid HX6.out.size
      go_wp2_with fail
      refine ⟨(Below.refl w.heap.size w6).alloc HSZ6.out _, hKK _ _ ?_⟩
      clear hKK KK
      refine wpSegs_some fun KK hKK => ?_
      refine wpQuiet_nil ?_
      have HO6k := Lib.hid (owns_take HO6.out k hk)
      go_wp2_with (at_builtin; go_must (refine wpList_append_own _ rfl (.tmp 42) (.tmp 47) 22 rfl w.heap.size 33 i1 (.slice none 0 0) 1 24 Try.underlying22 hi1 hy0 hy1 hy2 rfl (by decide) _ _ _ rfl (HO6k.out.alloc _) ⟨w6.heap.size, 0, none⟩ 1 1 [.slice b1 b2 b3] rfl rfl (row_new _ _ _) (by simp [Value.oneCell']) (by unfold maxLen; omega) (by omega) (by have := HSZ6.out; simp; omega) ?_); intro v7 w7 hown7 hgrow7 _; have HO7 := Lib.hid hown7; have HG7 := Lib.hid (OnlyS.of_grown hgrow7); have HB7 := Lib.hid ((Below.refl w.heap.size (w6.alloc (.cells #[.slice b1 b2 b3] 33))).grown hgrow7 (by have := HSZ6.out; simp; omega) (fun b hb => (HO6k.out.lt b hb).1)); clear hown7 hgrow7)
      refine ⟨HB7.out, hKK _ _ ?_⟩
      clear hKK KK
      simp only [Act.put, List.setIfInBounds_toArray, List.set]
      refine wpSegs_none ?_
      repeat go_big_quiet_step (fail)
      refine wpQuiet_nil (wpSegs_nil ?_)
      have HR7 := Lib.hid (RdV.onlyS (HR6.out.mono (ext_new w6 (.cells #[.slice b1 b2 b3] 33))) HG7.out (fun _ k' hk' hx => by
        have h1 := HBL.out k' hk'
        have h2 := HBW.out k k' hx
        omega))
      have HX7 := Lib.hid (show Below w.heap.size w w7 from HX6.out.trans (((Below.refl w.heap.size w6).alloc HSZ6.out _).trans HB7.out))
      have HSZ7 := Lib.hid HX7.out.size
      go_wp2_with (at_builtin; go_must (refine wpList_append_rd rfl (.tmp 49) (.tmp 50) 22 rfl w.heap.size 33 i1 (.slice none 0 0) 24 Try.underlying22 hi1 hy0 hy1 hy2 rfl _ _ _ rfl HO7.out _ _ rfl HR7.out HTO.out (by rw [HDL.out]; unfold maxLen; omega) (by rw [HDL.out]; omega) HSZ7.out ?_); intro v8 w8 hown8 hgrow8; have HO8 := Lib.hid hown8; have HB8 := Lib.hid ((Below.refl w.heap.size w7).grown hgrow8 HSZ7.out (fun b hb => (HO7.out.lt b hb).1)); clear hown8 hgrow8)
      go_roundw
      case rel =>
        refine ⟨j + 1, _, oh.take k ++ [.slice b1 b2 b3] ++ oh.drop k, by omega, by go_num, by rw [HTK.out]; exact HS.out.snoc HP.out HPLC.out, ?_, ?_, HX7.out.trans HB8.out⟩
        · have h := HO8.out
          rw [HDL.out] at h
          have e1 : (oh.take k ++ [Value.slice b1 b2 b3] ++ oh.drop k).length = k + 1 + (oh.length - k) := by
            rw [List.length_append, List.length_append, List.length_take, List.length_drop, List.length_singleton]
            omega
          rw [e1]
          exact h
        · have h := ((HH.out.take k).append (HdRows.one HRB.out)).append (HH.out.drop k)
          rw [List.append_assoc (s.take k)] at h
          exact h
      case measure => simp [intOf]; omega
    · have HALL := Lib.hid (show rs.take j = rs from List.take_of_length_le (by have := HN.out; omega))
      go_wp2_with fail
      go_ret
      exact ⟨⟨_, rfl, oh, HO.out, by rw [← sortS_eq (HALL.out ▸ HS.out)]; exact HH.out.mono HE.out⟩, HE.out⟩

end Go.Proofs.Ytjpdpgjalbjmgaa

/-
  Rows of rows of values in memory of one's own: the heads, and what they head.
-/
namespace Go.Proofs.Ytjpdpgjalbjmgaa
open Go.RowKit Go.BigFrame

/-- These slices are rows of one's own. -/
def OwnRows (base : Nat) (w : World) (hs : List Value) (rs : List (List V)) : Prop :=
  hs.length = rs.length ∧ ∀ i, (h : i < hs.length) → (h' : i < rs.length) → w.ownsRow base 35 3 hs[i] rs[i].length (rs[i].flatMap V.cells)

theorem OwnRows.nil (base : Nat) (w : World) : OwnRows base w [] [] := ⟨rfl, fun _ h => absurd h (Nat.not_lt_zero _)⟩
theorem OwnRows.rd {base : Nat} {w : World} {hs : List Value} {rs : List (List V)} (h : OwnRows base w hs rs) : HdRows w hs rs := ⟨h.1, fun i h1 h2 => RdVals.of_owns (h.2 i h1 h2)⟩
theorem OwnRows.ext {base : Nat} {w w' : World} {hs : List Value} {rs : List (List V)} (h : OwnRows base w hs rs) (hx : Ext w w') : OwnRows base w' hs rs := ⟨h.1, fun i h1 h2 => owns_extS (h.2 i h1 h2) hx⟩
theorem OwnRows.base_le {base base' : Nat} {w : World} {hs : List Value} {rs : List (List V)} (h : OwnRows base w hs rs) (hb : base' ≤ base) : OwnRows base' w hs rs := ⟨h.1, fun i h1 h2 => Joins.ownsRow_le (h.2 i h1 h2) hb⟩
theorem OwnRows.append {base : Nat} {w : World} {hs hs' : List Value} {rs rs' : List (List V)} (h : OwnRows base w hs rs) (h' : OwnRows base w hs' rs') : OwnRows base w (hs ++ hs') (rs ++ rs') := by
  refine ⟨by rw [List.length_append, List.length_append, h.1, h'.1], fun i h1 h2 => ?_⟩
  rw [List.length_append] at h1 h2
  by_cases hi : i < hs.length
  · have e1 : (hs ++ hs')[i] = hs[i] := List.getElem_append_left hi
    have e2 : (rs ++ rs')[i] = rs[i]'(h.1 ▸ hi) := List.getElem_append_left (h.1 ▸ hi)
    rw [e1, e2]
    exact h.2 i hi (h.1 ▸ hi)
  · have e := h.1
    have e1 : (hs ++ hs')[i] = hs'[i - hs.length]'(by omega) := List.getElem_append_right (by omega)
    have e2 : (rs ++ rs')[i] = rs'[i - rs.length]'(by omega) := List.getElem_append_right (by omega)
    rw [e1, e2]
    have k := h'.2 (i - hs.length) (by omega) (by omega)
    simp only [e] at k ⊢
    exact k
theorem OwnRows.one {base : Nat} {w : World} {v : Value} {r : List V} (h : w.ownsRow base 35 3 v r.length (r.flatMap V.cells)) : OwnRows base w [v] [r] := ⟨rfl, fun i h1 _ => by
  have : i = 0 := by simpa using h1
  subst this
  exact h⟩
/-- A row of heads changes: what they head stays. -/
theorem rows_apart {base base' size n n' : Nat} {w : World} {u v : Value} {xs ys : List Value} (h : w.ownsRow base 35 size u n xs) (h' : w.ownsRow base' 33 1 v n' ys) : ApartV u v := fun k h1 h2 => by
  obtain ⟨c, fz, e1⟩ := Lib.ownsRow_kind h k h1
  obtain ⟨c', fz', e2⟩ := Lib.ownsRow_kind h' k h2
  rw [e1] at e2
  injection e2 with e3
  injection e3 with e4 e5
  exact absurd e5 (by decide)
theorem OwnRows.beside {base base' n : Nat} {w w' : World} {v : Value} {ys hs : List Value} {rs : List (List V)} (h : OwnRows base w hs rs) (ho : w.ownsRow base' 33 1 v n ys) (hw : OnlyS (fun k => v.ownBlock = some k) w w') : OwnRows base w' hs rs :=
  ⟨h.1, fun i h1 h2 => owns_beside (h.2 i h1 h2) hw (rows_apart (h.2 i h1 h2) ho)⟩

/-- Rows in memory of one's own. -/
def AnsRR (base : Nat) (w : World) (u : Value) (rs : List (List V)) : Prop := ∃ hs, w.ownsRow base 33 1 u hs.length hs ∧ OwnRows base w hs rs
theorem AnsRR.ans {base : Nat} {w : World} {u : Value} {rs : List (List V)} (h : AnsRR base w u rs) : AnsR base w u rs := by
  obtain ⟨hs, h1, h2⟩ := h
  exact ⟨hs, h1, h2.rd⟩
theorem AnsRR.ext {base : Nat} {w w' : World} {u : Value} {rs : List (List V)} (h : AnsRR base w u rs) (hx : Ext w w') : AnsRR base w' u rs := by
  obtain ⟨hs, h1, h2⟩ := h
  exact ⟨hs, owns_extS h1 hx, h2.ext hx⟩

theorem run_append_noneC {P : Program} {w : World} (base : Nat) (t ty e : TypeId) (i : TypeInfo) (size c : Nat) (ht : P.underlying t = some (.slice e)) (hi : P.info? e = some i)
    (v : Value) (n : Nat) (xs : List Value) (hown : w.ownsRow base e size v n xs) :
    (Builtin.append_ #[t, t] ty #[v, .slice none 0 c]).run P w = .ok v w := by
  rcases hown.2 with ⟨rfl, rfl⟩ | ⟨g, cap, cur, rfl, _, _, hnc, _⟩
  · simp [Builtin.append_, run_underlying ht, sizeOf, typeInfo, hi, Builtin.lenOf, Builtin.firstCells]
  · simp [Builtin.append_, run_underlying ht, sizeOf, typeInfo, hi, Builtin.lenOf, Builtin.firstCells, hnc, storeCells]
/-- append(l, r...) of a row of values to one of the call's own. -/
theorem wpList_append_vals {ops : Array Oper} {rest : List Oper} {o : Oper} {a : Act} {Q : Exit → Act → World → Prop} {w : World} (hgd : o.guard = none) (s x : Operand) (t : TypeId)
    (ho : o.op = .call { callee := .builtin .append, args := #[s, x], argTypes := #[t, t] }) (ht : Try.prog.underlying t = some (.slice 35))
    (base : Nat) (v : Value) (ps : List V) (u : Value) (r : List V) (hs : a.eval s = v) (hown : w.ownsRow base 35 3 v ps.length (ps.flatMap V.cells))
    (hx : a.eval x = u) (hu : RdVals w u r) (hp : ps.length + r.length ≤ 100000000) (hbase : base ≤ w.heap.size)
    (h : ∀ v' w', w'.ownsRow base 35 3 v' (ps ++ r).length ((ps ++ r).flatMap V.cells) → Below base w w' → OnlyS (fun k => v.ownBlock = some k) w w' → wpList Try.prog ops Q rest (a.put o.dst v') w') :
    wpList Try.prog ops Q (o :: rest) a w := by
  obtain ⟨i0, hi, hz0, hz1, hz2⟩ := info_parts Try.info_val
  obtain ⟨ao, c, rfl, hlen, hcap, hat⟩ := hu
  have key : ∀ ad : Addr, ao = some ad → ∀ j y, (r.flatMap V.cells)[j]? = some y → w.cell? (ad.add j) = some y := fun ad e j y hj => by
    have hjl : j < r.length * 3 := by
      have := (List.getElem?_eq_some_iff.1 hj).1
      rwa [valCells_length] at this
    obtain ⟨q, m, hq, hm⟩ : ∃ q m, j = q * 3 + m ∧ m < 3 := ⟨j / 3, j % 3, by omega, by omega⟩
    subst hq
    have hql : q < r.length := by omega
    obtain ⟨g, off, e2, hc⟩ := hat q hql
    rw [e] at e2
    rw [Option.some.inj e2, add_at, ← Nat.add_assoc]
    exact hc m y ((valCells r q hql m hm).symm.trans hj)
  have hone : ∀ y ∈ r.flatMap V.cells, y.oneCell' = true := fun y hy => by
    obtain ⟨e, -, he⟩ := List.mem_flatMap.1 hy
    exact val_oneCell e y he
  cases ao with
  | none =>
    have hr : r = [] := by
      cases r with
      | nil => rfl
      | cons b t => obtain ⟨g, off, e, -⟩ := hat 0 (by simp); cases e
    subst hr
    refine wpList_plain hgd fun K hK => ?_
    have hrun := run_append_noneC (P := Try.prog) (w := w) base t o.type 35 i0 3 c ht hi v _ _ hown
    unfold Oper.wp
    simp [execOp, ho, resolve, invoke, builtin, hs, hx, hrun, Result.andThen]
    exact hK _ _ (h v w (by simpa using hown) (Below.refl _ _) (OnlyS.refl _ _))
  | some ad =>
    refine wpList_append_own _ hgd s x t ho base 35 i0 _ 3 32 ht hi hz0 hz1 hz2 rfl (by decide) v ps.length _ hs hown ad r.length c (r.flatMap V.cells) hx (valCells_length r) (key ad rfl) hone (by unfold maxLen; omega) (by omega) hbase fun v' w' h1 h2 _ => h v' w' ?_ ?_ ?_
    · rw [List.length_append, List.flatMap_append]
      exact h1
    · exact (Below.refl base w).grown h2 hbase (fun b hb => (hown.lt b hb).1)
    · exact OnlyS.of_grown h2
theorem empty_vals (w : World) : (w.alloc (.cells #[] 35)).ownsRow w.heap.size 35 3 (.slice (some ⟨w.heap.size, 0, none⟩) 0 0) ([] : List V).length (([] : List V).flatMap V.cells) := World.ownsRow_made w #[] 0 (Nat.le_refl _) (by simp [maxLen]) rfl

theorem owns3_shape {base : Nat} {e : TypeId} {w : World} {v : Value} {n : Nat} {xs : List Value} (h : w.ownsRow base e 3 v n xs) : ∃ a cap, v = .slice a n cap := by
  rcases h.2 with ⟨rfl, rfl⟩ | ⟨g, cap, cur, rfl, _⟩
  · exact ⟨none, 0, rfl⟩
  · exact ⟨_, cap, rfl⟩

end Go.Proofs.Ytjpdpgjalbjmgaa

/-
  Rows that a call has copied: in memory of its own, but for slices of nothing, which may point anywhere.
-/
namespace Go.Proofs.Ytjpdpgjalbjmgaa
open Go.RowKit Go.BigFrame

/-- A row of values of one's own, or a slice of none. -/
def OwnV (base : Nat) (w : World) (v : Value) (r : List V) : Prop := w.ownsRow base 35 3 v r.length (r.flatMap V.cells) ∨ (r = [] ∧ ∃ ao c, v = .slice ao 0 c ∧ c ≤ maxLen)
theorem OwnV.rd {base : Nat} {w : World} {v : Value} {r : List V} (h : OwnV base w v r) : RdVals w v r := by
  rcases h with h | ⟨rfl, ao, c, rfl, hc⟩
  · exact RdVals.of_owns h
  · exact ⟨ao, c, rfl, Nat.zero_le _, hc, fun j hj => absurd hj (Nat.not_lt_zero _)⟩
theorem OwnV.ext {base : Nat} {w w' : World} {v : Value} {r : List V} (h : OwnV base w v r) (hx : Ext w w') : OwnV base w' v r := by
  rcases h with h | h
  · exact .inl (owns_extS h hx)
  · exact .inr h
theorem OwnV.base_le {base base' : Nat} {w : World} {v : Value} {r : List V} (h : OwnV base w v r) (hb : base' ≤ base) : OwnV base' w v r := by
  rcases h with h | h
  · exact .inl (Joins.ownsRow_le h hb)
  · exact .inr h
theorem OwnV.beside {base base' n : Nat} {w w' : World} {u v : Value} {r : List V} {ys : List Value} (h : OwnV base w u r) (ho : w.ownsRow base' 33 1 v n ys) (hw : OnlyS (fun k => v.ownBlock = some k) w w') : OwnV base w' u r := by
  rcases h with h | h
  · exact .inl (owns_beside h hw (rows_apart h ho))
  · exact .inr h

/-- These slices are copies: rows of one's own, or of nothing. -/
def CopyRows (base : Nat) (w : World) (hs : List Value) (rs : List (List V)) : Prop := hs.length = rs.length ∧ ∀ i, (h : i < hs.length) → (h' : i < rs.length) → OwnV base w hs[i] rs[i]
theorem CopyRows.nil (base : Nat) (w : World) : CopyRows base w [] [] := ⟨rfl, fun _ h => absurd h (Nat.not_lt_zero _)⟩
theorem CopyRows.rd {base : Nat} {w : World} {hs : List Value} {rs : List (List V)} (h : CopyRows base w hs rs) : HdRows w hs rs := ⟨h.1, fun i h1 h2 => (h.2 i h1 h2).rd⟩
theorem CopyRows.ext {base : Nat} {w w' : World} {hs : List Value} {rs : List (List V)} (h : CopyRows base w hs rs) (hx : Ext w w') : CopyRows base w' hs rs := ⟨h.1, fun i h1 h2 => (h.2 i h1 h2).ext hx⟩
theorem CopyRows.base_le {base base' : Nat} {w : World} {hs : List Value} {rs : List (List V)} (h : CopyRows base w hs rs) (hb : base' ≤ base) : CopyRows base' w hs rs := ⟨h.1, fun i h1 h2 => (h.2 i h1 h2).base_le hb⟩
theorem CopyRows.beside {base base' n : Nat} {w w' : World} {v : Value} {ys hs : List Value} {rs : List (List V)} (h : CopyRows base w hs rs) (ho : w.ownsRow base' 33 1 v n ys) (hw : OnlyS (fun k => v.ownBlock = some k) w w') : CopyRows base w' hs rs := ⟨h.1, fun i h1 h2 => (h.2 i h1 h2).beside ho hw⟩
theorem CopyRows.append {base : Nat} {w : World} {hs hs' : List Value} {rs rs' : List (List V)} (h : CopyRows base w hs rs) (h' : CopyRows base w hs' rs') : CopyRows base w (hs ++ hs') (rs ++ rs') := by
  refine ⟨by rw [List.length_append, List.length_append, h.1, h'.1], fun i h1 h2 => ?_⟩
  rw [List.length_append] at h1 h2
  by_cases hi : i < hs.length
  · have e1 : (hs ++ hs')[i] = hs[i] := List.getElem_append_left hi
    have e2 : (rs ++ rs')[i] = rs[i]'(h.1 ▸ hi) := List.getElem_append_left (h.1 ▸ hi)
    rw [e1, e2]
    exact h.2 i hi (h.1 ▸ hi)
  · have e := h.1
    have e1 : (hs ++ hs')[i] = hs'[i - hs.length]'(by omega) := List.getElem_append_right (by omega)
    have e2 : (rs ++ rs')[i] = rs'[i - rs.length]'(by omega) := List.getElem_append_right (by omega)
    rw [e1, e2]
    have k := h'.2 (i - hs.length) (by omega) (by omega)
    simp only [e] at k ⊢
    exact k
theorem CopyRows.one {base : Nat} {w : World} {v : Value} {r : List V} (h : OwnV base w v r) : CopyRows base w [v] [r] := ⟨rfl, fun i h1 _ => by
  have : i = 0 := by simpa using h1
  subst this
  exact h⟩
theorem OwnRows.copy {base : Nat} {w : World} {hs : List Value} {rs : List (List V)} (h : OwnRows base w hs rs) : CopyRows base w hs rs := ⟨h.1, fun i h1 h2 => .inl (h.2 i h1 h2)⟩

/-- A row of heads of one's own, or of none. -/
def HeadOwn (base : Nat) (w : World) (u : Value) (hs : List Value) : Prop := w.ownsRow base 33 1 u hs.length hs ∨ (hs = [] ∧ ∃ a c, u = .slice (some a) 0 c ∧ c ≤ maxLen)
theorem HeadOwn.rd {base : Nat} {w : World} {u : Value} {hs : List Value} (h : HeadOwn base w u hs) : RdV w u hs := by
  rcases h with h | ⟨rfl, a, c, rfl, hc⟩
  · exact RdV.of_owns h
  · exact .inr ⟨a, c, rfl, Nat.zero_le _, hc, fun i u hu => by simp at hu⟩
theorem HeadOwn.ext {base : Nat} {w w' : World} {u : Value} {hs : List Value} (h : HeadOwn base w u hs) (hx : Ext w w') : HeadOwn base w' u hs := by
  rcases h with h | h
  · exact .inl (owns_extS h hx)
  · exact .inr h

/-- Rows that a call has copied. -/
def Cp (base : Nat) (w : World) (u : Value) (rs : List (List V)) : Prop := ∃ hs, HeadOwn base w u hs ∧ CopyRows base w hs rs
theorem Cp.rv {base : Nat} {w : World} {u : Value} {rs : List (List V)} (h : Cp base w u rs) : RdRV w u rs := by
  obtain ⟨hs, h1, h2⟩ := h
  exact ⟨hs, h1.rd, h2.rd⟩
theorem Cp.rd {base : Nat} {w : World} {u : Value} {rs : List (List V)} (h : Cp base w u rs) : RdRows w u rs := h.rv.rd
theorem Cp.ext {base : Nat} {w w' : World} {u : Value} {rs : List (List V)} (h : Cp base w u rs) (hx : Ext w w') : Cp base w' u rs := by
  obtain ⟨hs, h1, h2⟩ := h
  exact ⟨hs, h1.ext hx, h2.ext hx⟩
theorem AnsRR.cp {base : Nat} {w : World} {u : Value} {rs : List (List V)} (h : AnsRR base w u rs) : Cp base w u rs := by
  obtain ⟨hs, h1, h2⟩ := h
  exact ⟨hs, .inl h1, h2.copy⟩

end Go.Proofs.Ytjpdpgjalbjmgaa
