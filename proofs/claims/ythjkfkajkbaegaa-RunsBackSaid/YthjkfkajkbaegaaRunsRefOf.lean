/-
  The contracts of the document's own runs: Of.
-/
import Derived.Test.YthjkfkajkbaegaaHead
import Derived.Test.YthjkfkajkbaegaaRunsRef
namespace Go.Proofs.Ythjkfkajkbaegaa
open Go.RowKit Go.BigFrame

theorem sumR_nonneg {rs : List Sp} (h : goodR rs) : 0 ≤ sumR rs := by
  induction rs with
  | nil => exact Int.le_refl _
  | cons s t ih =>
    have h1 := h s (by simp)
    have h2 := ih fun y hy => h y (by simp [hy])
    rw [sumR]; omega
theorem len_le_sumR {rs : List Sp} (h : goodR rs) : (rs.length : Int) ≤ sumR rs := by
  induction rs with
  | nil => exact Int.le_refl _
  | cons s t ih =>
    have h1 := h s (by simp)
    have h2 := ih fun y hy => h y (by simp [hy])
    rw [sumR, List.length_cons]; omega
theorem sumR_ofR (l : List Int) : sumR (ofR l) = l.length := by
  rw [← flat_length (good_ofR l), flat_ofR]
theorem ofR_len (l : List Int) : (ofR l).length ≤ l.length := by
  have h := len_le_sumR (good_ofR l)
  rw [sumR_ofR] at h
  omega
theorem ofR_last {l k : List Int} {x : Int} (h : l = k ++ [x]) : ∃ (m : List Sp) (a : Int), ofR l = m ++ [⟨x, a⟩] ∧ 1 ≤ a ∧ a ≤ l.length := by
  obtain ⟨m, a, hm, ha⟩ := (ofR_ok _ l rfl).last k x h
  refine ⟨m, a, hm, ha, ?_⟩
  have hs := sumR_ofR l
  have hg := good_ofR l
  rw [hm] at hs hg
  have h0 := sumR_nonneg (fun s hs => hg s (List.mem_append.2 (.inl hs)) : goodR m)
  rw [sumR_append, sumR, sumR] at hs
  simp only at hs
  omega

theorem runs_oneCell (s : Sp) : ∀ u ∈ s.cells, u.oneCell' = true := by
  intro u hu
  simp only [Sp.cells, List.mem_cons, List.not_mem_nil, or_false] at hu
  rcases hu with rfl | rfl <;> rfl

/-- append(l, s) of a run. -/
theorem wpList_append_run {ops : Array Oper} {rest : List Oper} {o : Oper} {a : Act} {Q : Exit → Act → World → Prop} {w : World} (hgd : o.guard = none) (s x : Operand)
    (ho : o.op = .call { callee := .builtin .append, args := #[s, x], argTypes := #[30, 30] })
    (base : Nat) (v : Value) (ps : List Sp) (e : Sp) (hs : a.eval s = v) (hown : w.ownsRow base 45 2 v ps.length (ps.flatMap Sp.cells))
    (hx : a.eval x = .slice (some ⟨w.heap.size, 0, none⟩) 1 1) (hp : ps.length ≤ 100000000) (hbase : base ≤ w.heap.size)
    (h : ∀ v' w', w'.ownsRow base 45 2 v' (ps ++ [e]).length ((ps ++ [e]).flatMap Sp.cells) → Below base w w' → wpList Try.prog ops Q rest (a.put o.dst v') w') :
    wpList Try.prog ops Q (o :: rest) a (w.alloc (.cells e.cells.toArray 45)) := by
  obtain ⟨i0, hi, hz0, hz1, hz2⟩ := info_parts Try.info_run
  have hc := row_new w e.cells 45
  refine wpList_append_own _ hgd s x 30 ho base 45 i0 _ 2 16 Try.underlying30 hi hz0 hz1 hz2 rfl (by decide) v ps.length _ hs (hown.alloc _) ⟨w.heap.size, 0, none⟩ 1 1 e.cells hx rfl hc (runs_oneCell e) (by unfold maxLen; omega) (by omega) (by simp; omega) fun v' w' h1 h2 _ => h v' w' ?_ ?_
  · rw [List.length_append, List.flatMap_append]
    simpa using h1
  · exact (((Below.refl base w).alloc hbase _).grown h2 (by simp; omega) (fun b hb => (hown.lt b hb).1))
theorem runs_bump (m : List Sp) (a b c : Int) : (((m ++ [(⟨a, b⟩ : Sp)]).flatMap Sp.cells).set (m.length * 2 + 1) (Value.int .i64 c)) = (m ++ [(⟨a, c⟩ : Sp)]).flatMap Sp.cells := by
  have hl : (m.flatMap Sp.cells).length = m.length * 2 := spCells_length m
  rw [List.flatMap_append, List.flatMap_append, List.set_append_right _ _ (by omega), hl, show m.length * 2 + 1 - m.length * 2 = 1 by omega]
  rfl

theorem ofR_take_new {xs : List Int} {k : Nat} (hk : k < xs.length) (h : k = 0 ∨ ∃ (J : Nat) (hJ : J < xs.length), k = J + 1 ∧ xs[J] ≠ xs[k]) : ofR (xs.take (k + 1)) = ofR (xs.take k) ++ [⟨xs[k], 1⟩] := by
  rw [List.take_succ_eq_append_getElem hk, ofR_snoc]
  rcases h with rfl | ⟨J, hJ, rfl, hne⟩
  · rfl
  · obtain ⟨m, a, hm, _⟩ := ofR_last (List.take_succ_eq_append_getElem hJ)
    rw [hm, snocR_new _ _ _ _ hne]
theorem ofR_take_same {xs : List Int} {J : Nat} (hJ : J < xs.length) (hk : J + 1 < xs.length) (he : xs[J] = xs[J + 1]) : ∃ (m : List Sp) (a : Int), ofR (xs.take (J + 1)) = m ++ [⟨xs[J + 1], a⟩] ∧ ofR (xs.take (J + 1 + 1)) = m ++ [⟨xs[J + 1], a + 1⟩] ∧ 1 ≤ a ∧ a ≤ J + 1 := by
  obtain ⟨m, a, hm, h1, h2⟩ := ofR_last (List.take_succ_eq_append_getElem hJ)
  rw [List.length_take] at h2
  rw [he] at hm
  exact ⟨m, a, hm, by rw [List.take_succ_eq_append_getElem hk, ofR_snoc, hm, snocR_same], h1, by omega⟩

set_option maxRecDepth 100000 in
set_option maxHeartbeats 2000000 in
theorem refOfR_any (u : Value) (xs : List Int) (w : World) (hu : RdV w u (xs.map (Value.int .i64))) (hxl : xs.length ≤ 5000) :
    Calls Try.prog 14 #[u] w fun e w' => (∃ v, e = .returned v ∧ OwnSp w.heap.size w' v (ofR xs)) ∧ Ext w w' := by
  obtain ⟨ao, ca, rfl, -, -, -⟩ := RdV.cellsAt hu
  simp only [List.length_map] at *
  obtain ⟨-, h1, h2, hca⟩ := RdV.plain hu
  have HA := Lib.hid hca
  obtain ⟨N, hN⟩ : ∃ N, xs.length = N := ⟨_, rfl⟩
  have HN := Lib.hid hN
  unfold maxLen at h2
  rw [hN] at h1 hxl ⊢
  clear hu hca hN
  go_enter Try.func14, Try.ntmps14
  go_wp2_with fail
  go_loopw [3, 4] (fun l i wr => ∃ k : Nat, k ≤ N ∧ i = .int .i64 k ∧ wr.ownsRow w.heap.size 45 2 l (ofR (xs.take k)).length ((ofR (xs.take k)).flatMap Sp.cells) ∧ Below w.heap.size w wr) (fun _ i _ => N - (intOf i).toNat)
  case atStart => exact ⟨0, Nat.zero_le _, rfl, ⟨rfl, .inl ⟨rfl, rfl⟩⟩, Ext.keeps.refl _⟩
  case round =>
    obtain ⟨k, hk, rfl, hown, hx⟩ := hrel
    have HOWN := Lib.hid hown
    have HX := Lib.hid hx
    clear hown hx
    by_cases hlt : k < N
    · have hkx : k < xs.length := by have := HN.out; omega
      have HLEN := Lib.hid (show (ofR (xs.take k)).length ≤ k from Nat.le_trans (ofR_len _) (by rw [List.length_take]; omega))
      have HW := Lib.hid HX.out.size
      obtain ⟨g, off, rfl, hcx⟩ := HA.out k hkx
      have HC := Lib.hid (fun W (h : Below w.heap.size w W) => (h.cell (lt_of_cell hcx)).trans hcx)
      by_cases hk0 : k = 0
      · subst hk0
        have HS := Lib.hid (ofR_take_new hkx (.inl rfl))
        generalize xs[0] = X at HC HS
        rw [Nat.add_zero] at HC
        have hz : ∀ z : Later Ext wr.drew, z.val.cell? ⟨g, off, none⟩ = some (.int .i64 X) := fun z => HC.out _ (HX.out.trans ((Ext.trans (Ext.drew wr) z.ext).mono HW.out))
        have hc0 : (wr.drew).cell? ⟨g, off, none⟩ = some (.int .i64 X) := HC.out _ (HX.out.trans ((Ext.drew wr).mono HW.out))
        clear hcx hkx
        go_wp2_with fail
        refine wp_region_segs Ext Ext.keeps [(List.range 14, none)] (by kernel_rfl) (by kernel_rfl) (fun c a a' w e h => (by exact ⟨e ▸ h.1, h.2⟩)) ?_
        simp only [List.range, List.range.loop, pickSegs, pickOps, List.map_cons, List.map_nil, Option.map_none, Option.getD_some, List.getElem?_toArray, List.getElem?_cons_zero, List.getElem?_cons_succ]
        refine wpSegs_none ?_
        repeat go_big_quiet_step (fail)
        refine wpQuiet_nil (wpSegs_nil ?_)
        have HOWND := Lib.hid HOWN.out.drew
        have HXD := Lib.hid (HX.out.trans ((Ext.drew wr).mono HW.out))
        have HWD := Lib.hid HXD.out.size
        clear hz HOWN HX HW
        generalize wr.drew = wd at hc0 HOWND HXD HWD ⊢
        go_wp2_with (at_builtin; go_must (refine wpList_append_run rfl (.tmp 35) (.tmp 41) rfl w.heap.size _ (ofR (xs.take 0)) ⟨X, 1⟩ rfl HOWND.out rfl (by have := HLEN.out; omega) HWD.out ?_); intro v3 w3 hown3 hb3; have HO3 := Lib.hid hown3; have HB3 := Lib.hid hb3; clear hown3 hb3)
        go_roundw
        case rel => exact ⟨0 + 1, by omega, by go_num, by rw [HS.out]; exact HO3.out, HXD.out.trans HB3.out⟩
        case measure => simp [intOf]; omega
      · obtain ⟨J, rfl⟩ : ∃ J, k = J + 1 := ⟨k - 1, by omega⟩
        have hjx : J < xs.length := by omega
        obtain ⟨g', off', hx', hcp⟩ := HA.out J hjx
        simp only [Option.some.injEq, Addr.mk.injEq, and_true] at hx'
        obtain ⟨rfl, rfl⟩ := hx'
        have HCP := Lib.hid (fun W (h : Below w.heap.size w W) => (h.cell (lt_of_cell hcp)).trans hcp)
        have HNEW := Lib.hid (fun h => ofR_take_new hkx (.inr ⟨J, hjx, rfl, h⟩))
        have HSAME := Lib.hid (fun h => ofR_take_same hjx hkx h)
        generalize xs[J + 1] = X at HC HNEW HSAME
        generalize xs[J] = Y at HCP HNEW HSAME
        have hz : ∀ z : Later Ext wr.drew, z.val.cell? ⟨g, off + (J + 1), none⟩ = some (.int .i64 X) := fun z => HC.out _ (HX.out.trans ((Ext.trans (Ext.drew wr) z.ext).mono HW.out))
        have hzp : ∀ z : Later Ext wr.drew, z.val.cell? ⟨g, off + J, none⟩ = some (.int .i64 Y) := fun z => HCP.out _ (HX.out.trans ((Ext.trans (Ext.drew wr) z.ext).mono HW.out))
        have hc0 : (wr.drew).cell? ⟨g, off + (J + 1), none⟩ = some (.int .i64 X) := HC.out _ (HX.out.trans ((Ext.drew wr).mono HW.out))
        clear hcx hkx hcp hjx
        have e1 : (((J + 1 : Nat) : Int) - 1) = (J : Int) := by omega
        by_cases he : Y = X
        · subst he
          obtain ⟨m, a, hm, hm', ha1, ha2⟩ := HSAME.out rfl
          have HS := Lib.hid hm'
          have heq : (Y == Y) = true := beq_self_eq_true Y
          go_wp2_with fail
          refine wp_region_segs Ext Ext.keeps [(List.range 14, none)] (by kernel_rfl) (by kernel_rfl) (fun c a a' w e h => (by exact ⟨e ▸ h.1, h.2⟩)) ?_
          simp only [List.range, List.range.loop, pickSegs, pickOps, List.map_cons, List.map_nil, Option.map_none, Option.getD_some, List.getElem?_toArray, List.getElem?_cons_zero, List.getElem?_cons_succ]
          refine wpSegs_none ?_
          repeat go_big_quiet_step (fail)
          refine wpQuiet_nil (wpSegs_nil ?_)
          have HOWND := Lib.hid HOWN.out.drew
          have HXD := Lib.hid (HX.out.trans ((Ext.drew wr).mono HW.out))
          have HWD := Lib.hid HXD.out.size
          clear hz hzp heq hc0 HOWN HX HW hm' HNEW HSAME HC HCP
          generalize wr.drew = wd at HOWND HXD HWD ⊢
          have HR := HOWND.out
          have HLL := HLEN.out
          rw [hm] at HR HLL
          have hlen : (m ++ [(⟨Y, a⟩ : Sp)]).length = m.length + 1 := by simp
          rw [hlen] at HR HLL
          obtain ⟨g', cap, rfl, hg0, hg1, hc0, hc1⟩ : ∃ g cap, u3 = .slice (some ⟨g, 0, none⟩) (m.length + 1) cap ∧ w.heap.size ≤ g ∧ g < wd.heap.size ∧ m.length + 1 ≤ cap ∧ cap ≤ maxLen := by
            rcases HR.2 with ⟨_, h⟩ | ⟨g, cap, cur, h1, h2, h3, h4, h5, _⟩
            · omega
            · exact ⟨g, cap, h1, h2, (Array.getElem?_eq_some_iff.1 h3).1, h4, h5⟩
          have hcell : wd.cell? ⟨g', m.length * 2 + 1, none⟩ = some (.int .i64 a) := by
            have h := HR.cells (g := g') rfl (m.length * 2 + 1) (Value.int .i64 a) (by
              rw [List.flatMap_append, List.getElem?_append_right (by rw [spCells_length]; omega), spCells_length, show m.length * 2 + 1 - m.length * 2 = 1 by omega]
              rfl)
            rw [add_at, Nat.zero_add] at h
            exact h
          have hfree := HR.frozenAt (m.length * 2 + 1)
          have HST := Lib.hid (show (wd.setCell ⟨g', m.length * 2 + 1, none⟩ (Value.int .i64 (a + 1))).ownsRow w.heap.size 45 2 (.slice (some ⟨g', 0, none⟩) (m.length + 1) cap) (m.length + 1) ((m ++ [(⟨Y, a + 1⟩ : Sp)]).flatMap Sp.cells) ∧ Below w.heap.size w (wd.setCell ⟨g', m.length * 2 + 1, none⟩ (Value.int .i64 (a + 1))) from by
            have h := (HR.stored (m.length * 2 + 1) (Value.int .i64 (a + 1))).1
            rw [runs_bump] at h
            exact ⟨by simpa using h, HXD.out.trans ((OnlyS.of_onlyP (X := fun b => b = g') (OnlyP.set g' (m.length * 2 + 1) wd (Value.int .i64 (a + 1))) rfl).below HWD.out (fun b hb => by rw [hb]; exact hg0))⟩)
          unfold maxLen at hc1
          clear HR hm hlen
          generalize hM : m.length = M at hcell hfree HST HLL hc0 ⊢
          have HLM := Lib.hid hM
          clear hM
          go_wp2_with fail
          go_roundw
          case rel => exact ⟨J + 1 + 1, by omega, by go_num, by rw [HS.out, List.length_append, HLM.out]; exact HST.out.1, HST.out.2⟩
          case measure => simp [intOf]; omega
        · have HS := Lib.hid (HNEW.out he)
          have hne : (X == Y) = false := by rw [beq_eq_false_iff_ne]; exact fun h => he h.symm
          go_wp2_with fail
          refine wp_region_segs Ext Ext.keeps [(List.range 14, none)] (by kernel_rfl) (by kernel_rfl) (fun c a a' w e h => (by exact ⟨e ▸ h.1, h.2⟩)) ?_
          simp only [List.range, List.range.loop, pickSegs, pickOps, List.map_cons, List.map_nil, Option.map_none, Option.getD_some, List.getElem?_toArray, List.getElem?_cons_zero, List.getElem?_cons_succ]
          refine wpSegs_none ?_
          repeat go_big_quiet_step (fail)
          refine wpQuiet_nil (wpSegs_nil ?_)
          have HOWND := Lib.hid HOWN.out.drew
          have HXD := Lib.hid (HX.out.trans ((Ext.drew wr).mono HW.out))
          have HWD := Lib.hid HXD.out.size
          clear hz hzp HOWN HX HW
          generalize wr.drew = wd at hc0 HOWND HXD HWD ⊢
          go_wp2_with (at_builtin; go_must (refine wpList_append_run rfl (.tmp 35) (.tmp 41) rfl w.heap.size _ (ofR (xs.take (J + 1))) ⟨X, 1⟩ rfl HOWND.out rfl (by have := HLEN.out; omega) HWD.out ?_); intro v3 w3 hown3 hb3; have HO3 := Lib.hid hown3; have HB3 := Lib.hid hb3; clear hown3 hb3)
          go_roundw
          case rel => exact ⟨(J + 1) + 1, by omega, by go_num, by rw [HS.out]; exact HO3.out, HXD.out.trans HB3.out⟩
          case measure => simp [intOf]; omega
    · have HK := Lib.hid (show k = N by omega)
      go_wp2_with fail
      go_ret
      refine ⟨⟨_, rfl, ?_⟩, HX.out⟩
      have h := OwnSp.of_owns HOWN.out
      rw [HK.out, List.take_of_length_le (by rw [HN.out]; exact Nat.le_refl _)] at h
      exact h

end Go.Proofs.Ythjkfkajkbaegaa
