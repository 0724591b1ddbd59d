/-
  Texts of this proof, merged: SameRow, RowsOwn, SpillBack, SpiOne, PagesBInv.
-/
import Derived.Lib.OwnKind
import Derived.Lib.SmallJoins
import Derived.Laws.BitsLemmas
import Derived.Test.YtoagpaphghgkmaaZ8
import Derived.Test.YtoagpaphghgkmaaZ7
import Derived.Test.YtoagpaphghgkmaaZ9
import Derived.Test.YtoagpaphghgkmaaZ19
import Derived.Test.YtoagpaphghgkmaaZ6
/-
  The contract of the document's own SameRow.
-/
namespace Go.Proofs.Ytoagpaphghgkmaa
open Go.RowKit Go.BigFrame

theorem ne_val (a b : V) (w : World) : (binOp .neq 59 a.val b.val).run Try.prog w = .ok (.bool (decide (a ≠ b))) w := by
  obtain ⟨k, n, s⟩ := a
  obtain ⟨k', n', s'⟩ := b
  unfold V.val
  simp only [ne_eq, V.mk.injEq]
  simp [go_sem]
  by_cases h1 : k = k' <;> by_cases h2 : n = n' <;> by_cases h3 : s = s' <;> simp [h1, h2, h3]

set_option maxRecDepth 100000 in
theorem refSameRow_any (u v : Value) (xs ys : List V) (w : World) (hu : RdVals w u xs) (hv : RdVals w v ys) :
    Calls Try.prog 29 #[u, v] w fun e w' => e = .returned (.bool (decide (xs = ys))) ∧ Ext w w' := by
  obtain ⟨ao, ca, rfl, -, -⟩ := hu.shape
  obtain ⟨bo, cb, rfl, -, -⟩ := hv.shape
  obtain ⟨-, h1, h2, hca⟩ := hu.plain
  obtain ⟨-, h3, h4, hcb⟩ := hv.plain
  have HA := Lib.hid hca
  have HB := Lib.hid hcb
  unfold maxLen at h2 h4
  clear hu hv hca hcb
  by_cases hL : xs.length = ys.length
  · have HL := Lib.hid hL
    generalize hN : ys.length = N at h3
    rw [hL, hN] at h1 ⊢
    replace hN := Lib.hid hN
    clear hL
    go_enter Try.func29, Try.ntmps29
    go_wp2_with fail
    go_loopw [5] (fun i wr => ∃ j : Nat, j ≤ N ∧ i = .int .i64 j ∧ xs.take j = ys.take j ∧ Ext w wr) (fun i _ => N - (intOf i).toNat)
    case atStart => exact ⟨0, Nat.zero_le _, rfl, rfl, Ext.keeps.refl _⟩
    case round =>
      obtain ⟨j, hj, rfl, htk, hext⟩ := hrel
      have HT := Lib.hid htk
      have HE := Lib.hid hext
      clear htk hext
      by_cases hlt : j < N
      · have hjx : j < xs.length := by have := HL.out; have := hN.out; omega
        have hjy : j < ys.length := by have := hN.out; omega
        obtain ⟨g, off, rfl, a0, a1, a2⟩ := HA.out j hjx
        obtain ⟨g', off', rfl, b0, b1, b2⟩ := HB.out j hjy
        have LA := Lib.hid (fun (x : Addr) (y : Value) (h : w.cell? x = some y) (z : Later Ext wr.drew) => (show z.val.cell? x = some y from ((Ext.trans HE.out (Ext.trans (Ext.drew wr) z.ext)).cell (lt_of_cell h)).trans h))
        replace a0 := LA.out _ _ a0
        replace a1 := LA.out _ _ a1
        replace a2 := LA.out _ _ a2
        replace b0 := LA.out _ _ b0
        replace b1 := LA.out _ _ b1
        replace b2 := LA.out _ _ b2
        have HS := Lib.hid (show xs.take (j + 1) = xs.take j ++ [xs[j]] ∧ ys.take (j + 1) = ys.take j ++ [ys[j]] from ⟨List.take_succ_eq_append_getElem hjx, List.take_succ_eq_append_getElem hjy⟩)
        have HG := Lib.hid (show xs[j]? = some xs[j] ∧ ys[j]? = some ys[j] from ⟨List.getElem?_eq_getElem hjx, List.getElem?_eq_getElem hjy⟩)
        have hne := ne_val xs[j] ys[j]
        unfold V.val at hne
        generalize xs[j] = c at a0 a1 a2 HS HG hne
        generalize ys[j] = d at b0 b1 b2 HS HG hne
        clear hjx hjy
        by_cases hcd : c = d
        · subst hcd
          simp only [ne_eq, not_true_eq_false, decide_false] at hne
          go_wp2_with fail
          refine wp_region_segs Ext Ext.keeps [(List.range 9, none)] (by kernel_rfl) (by kernel_rfl) (fun c a a' w e h => (by exact ⟨e ▸ h.1, h.2⟩)) ?_
          simp only [List.range, List.range.loop, pickSegs, pickOps, List.map_cons, List.map_nil, Option.map_none, Option.getD_some, List.getElem?_toArray, List.getElem?_cons_zero, List.getElem?_cons_succ]
          refine wpSegs_none ?_
          repeat go_big_quiet_step (fail)
          refine wpQuiet_nil (wpSegs_nil ?_)
          clear a0 a1 a2 b0 b1 b2 hne
          go_wp2_with fail
          go_roundw
          case rel => exact ⟨j + 1, by omega, by go_num, by rw [HS.out.1, HS.out.2, HT.out], Ext.trans HE.out (Ext.drew wr)⟩
          case measure => simp [intOf]; omega
        · simp only [ne_eq, hcd, not_false_eq_true, decide_true] at hne
          have HNE := Lib.hid (show decide (xs = ys) = false from decide_eq_false (fun h => by subst h; have h1 := HG.out.1; rw [HG.out.2] at h1; exact hcd (Option.some.inj h1).symm))
          clear hcd
          go_wp2_with fail
          refine wp_region_segs Ext Ext.keeps [(List.range 9, none)] (by kernel_rfl) (by kernel_rfl) (fun c a a' w e h => (by exact ⟨e ▸ h.1, h.2⟩)) ?_
          simp only [List.range, List.range.loop, pickSegs, pickOps, List.map_cons, List.map_nil, Option.map_none, Option.getD_some, List.getElem?_toArray, List.getElem?_cons_zero, List.getElem?_cons_succ]
          refine wpSegs_none ?_
          repeat go_big_quiet_step (fail)
          refine wpQuiet_nil (wpSegs_nil ?_)
          clear a0 a1 a2 b0 b1 b2 hne
          go_wp2_with fail
          go_ret
          exact ⟨by rw [HNE.out]; rfl, Ext.trans HE.out (Ext.drew wr)⟩
      · have HEQ := Lib.hid (show decide (xs = ys) = true from decide_eq_true (by have h := HT.out; rw [List.take_of_length_le (by have := HL.out; have := hN.out; omega), List.take_of_length_le (by have := hN.out; omega)] at h; exact h))
        go_wp2_with fail
        go_ret
        exact ⟨by rw [HEQ.out]; rfl, HE.out⟩
  · have HNE := Lib.hid (show decide (xs = ys) = false from decide_eq_false (fun h => hL (by rw [h])))
    have hq : ((xs.length : Int) == (ys.length : Int)) = false := by rw [beq_eq_false_iff_ne]; omega
    clear hL
    generalize xs.length = M at hq h1 ⊢
    generalize ys.length = N at hq h3 ⊢
    go_enter Try.func29, Try.ntmps29
    go_wp2_with fail
    go_ret
    exact ⟨by rw [HNE.out]; rfl, Ext.keeps.refl _⟩

end Go.Proofs.Ytoagpaphghgkmaa

/-
  Rows of rows of values in memory of one's own: the heads, and what they head.
-/
namespace Go.Proofs.Ytoagpaphghgkmaa
open Go.RowKit Go.BigFrame

/-- These slices are rows of one's own. -/
def OwnRows (base : Nat) (w : World) (hs : List Value) (rs : List (List V)) : Prop :=
  hs.length = rs.length ∧ ∀ i, (h : i < hs.length) → (h' : i < rs.length) → w.ownsRow base 59 3 hs[i] rs[i].length (rs[i].flatMap V.cells)

theorem OwnRows.nil (base : Nat) (w : World) : OwnRows base w [] [] := ⟨rfl, fun _ h => absurd h (Nat.not_lt_zero _)⟩
theorem OwnRows.rd {base : Nat} {w : World} {hs : List Value} {rs : List (List V)} (h : OwnRows base w hs rs) : HdRows w hs rs := ⟨h.1, fun i h1 h2 => RdVals.of_owns (h.2 i h1 h2)⟩
theorem OwnRows.ext {base : Nat} {w w' : World} {hs : List Value} {rs : List (List V)} (h : OwnRows base w hs rs) (hx : Ext w w') : OwnRows base w' hs rs := ⟨h.1, fun i h1 h2 => owns_extS (h.2 i h1 h2) hx⟩
theorem OwnRows.base_le {base base' : Nat} {w : World} {hs : List Value} {rs : List (List V)} (h : OwnRows base w hs rs) (hb : base' ≤ base) : OwnRows base' w hs rs := ⟨h.1, fun i h1 h2 => Joins.ownsRow_le (h.2 i h1 h2) hb⟩
theorem OwnRows.append {base : Nat} {w : World} {hs hs' : List Value} {rs rs' : List (List V)} (h : OwnRows base w hs rs) (h' : OwnRows base w hs' rs') : OwnRows base w (hs ++ hs') (rs ++ rs') := by
  refine ⟨by rw [List.length_append, List.length_append, h.1, h'.1], fun i h1 h2 => ?_⟩
  rw [List.length_append] at h1 h2
  by_cases hi : i < hs.length
  · have e1 : (hs ++ hs')[i] = hs[i] := List.getElem_append_left hi
    have e2 : (rs ++ rs')[i] = rs[i]'(h.1 ▸ hi) := List.getElem_append_left (h.1 ▸ hi)
    rw [e1, e2]
    exact h.2 i hi (h.1 ▸ hi)
  · have e := h.1
    have e1 : (hs ++ hs')[i] = hs'[i - hs.length]'(by omega) := List.getElem_append_right (by omega)
    have e2 : (rs ++ rs')[i] = rs'[i - rs.length]'(by omega) := List.getElem_append_right (by omega)
    rw [e1, e2]
    have k := h'.2 (i - hs.length) (by omega) (by omega)
    simp only [e] at k ⊢
    exact k
theorem OwnRows.one {base : Nat} {w : World} {v : Value} {r : List V} (h : w.ownsRow base 59 3 v r.length (r.flatMap V.cells)) : OwnRows base w [v] [r] := ⟨rfl, fun i h1 _ => by
  have : i = 0 := by simpa using h1
  subst this
  exact h⟩
/-- A row of heads changes: what they head stays. -/
theorem rows_apart {base base' size n n' : Nat} {w : World} {u v : Value} {xs ys : List Value} (h : w.ownsRow base 59 size u n xs) (h' : w.ownsRow base' 54 1 v n' ys) : ApartV u v := fun k h1 h2 => by
  obtain ⟨c, fz, e1⟩ := Lib.ownsRow_kind h k h1
  obtain ⟨c', fz', e2⟩ := Lib.ownsRow_kind h' k h2
  rw [e1] at e2
  injection e2 with e3
  injection e3 with e4 e5
  exact absurd e5 (by decide)
theorem OwnRows.beside {base base' n : Nat} {w w' : World} {v : Value} {ys hs : List Value} {rs : List (List V)} (h : OwnRows base w hs rs) (ho : w.ownsRow base' 54 1 v n ys) (hw : OnlyS (fun k => v.ownBlock = some k) w w') : OwnRows base w' hs rs :=
  ⟨h.1, fun i h1 h2 => owns_beside (h.2 i h1 h2) hw (rows_apart (h.2 i h1 h2) ho)⟩

/-- Rows in memory of one's own. -/
def AnsRR (base : Nat) (w : World) (u : Value) (rs : List (List V)) : Prop := ∃ hs, w.ownsRow base 54 1 u hs.length hs ∧ OwnRows base w hs rs
theorem AnsRR.ans {base : Nat} {w : World} {u : Value} {rs : List (List V)} (h : AnsRR base w u rs) : AnsR base w u rs := by
  obtain ⟨hs, h1, h2⟩ := h
  exact ⟨hs, h1, h2.rd⟩
theorem AnsRR.ext {base : Nat} {w w' : World} {u : Value} {rs : List (List V)} (h : AnsRR base w u rs) (hx : Ext w w') : AnsRR base w' u rs := by
  obtain ⟨hs, h1, h2⟩ := h
  exact ⟨hs, owns_extS h1 hx, h2.ext hx⟩

theorem run_append_noneC {P : Program} {w : World} (base : Nat) (t ty e : TypeId) (i : TypeInfo) (size c : Nat) (ht : P.underlying t = some (.slice e)) (hi : P.info? e = some i)
    (v : Value) (n : Nat) (xs : List Value) (hown : w.ownsRow base e size v n xs) :
    (Builtin.append_ #[t, t] ty #[v, .slice none 0 c]).run P w = .ok v w := by
  rcases hown.2 with ⟨rfl, rfl⟩ | ⟨g, cap, cur, rfl, _, _, hnc, _⟩
  · simp [Builtin.append_, run_underlying ht, sizeOf, typeInfo, hi, Builtin.lenOf, Builtin.firstCells]
  · simp [Builtin.append_, run_underlying ht, sizeOf, typeInfo, hi, Builtin.lenOf, Builtin.firstCells, hnc, storeCells]
/-- append(l, r...) of a row of values to one of the call's own. -/
theorem wpList_append_vals {ops : Array Oper} {rest : List Oper} {o : Oper} {a : Act} {Q : Exit → Act → World → Prop} {w : World} (hgd : o.guard = none) (s x : Operand) (t : TypeId)
    (ho : o.op = .call { callee := .builtin .append, args := #[s, x], argTypes := #[t, t] }) (ht : Try.prog.underlying t = some (.slice 59))
    (base : Nat) (v : Value) (ps : List V) (u : Value) (r : List V) (hs : a.eval s = v) (hown : w.ownsRow base 59 3 v ps.length (ps.flatMap V.cells))
    (hx : a.eval x = u) (hu : RdVals w u r) (hp : ps.length + r.length ≤ 100000000) (hbase : base ≤ w.heap.size)
    (h : ∀ v' w', w'.ownsRow base 59 3 v' (ps ++ r).length ((ps ++ r).flatMap V.cells) → Below base w w' → OnlyS (fun k => v.ownBlock = some k) w w' → wpList Try.prog ops Q rest (a.put o.dst v') w') :
    wpList Try.prog ops Q (o :: rest) a w := by
  obtain ⟨i0, hi, hz0, hz1, hz2⟩ := info_parts Try.info_val
  obtain ⟨ao, c, rfl, hlen, hcap, hat⟩ := hu
  have key : ∀ ad : Addr, ao = some ad → ∀ j y, (r.flatMap V.cells)[j]? = some y → w.cell? (ad.add j) = some y := fun ad e j y hj => by
    have hjl : j < r.length * 3 := by
      have := (List.getElem?_eq_some_iff.1 hj).1
      rwa [valCells_length] at this
    obtain ⟨q, m, hq, hm⟩ : ∃ q m, j = q * 3 + m ∧ m < 3 := ⟨j / 3, j % 3, by omega, by omega⟩
    subst hq
    have hql : q < r.length := by omega
    obtain ⟨g, off, e2, hc⟩ := hat q hql
    rw [e] at e2
    rw [Option.some.inj e2, add_at, ← Nat.add_assoc]
    exact hc m y ((valCells r q hql m hm).symm.trans hj)
  have hone : ∀ y ∈ r.flatMap V.cells, y.oneCell' = true := fun y hy => by
    obtain ⟨e, -, he⟩ := List.mem_flatMap.1 hy
    exact val_oneCell e y he
  cases ao with
  | none =>
    have hr : r = [] := by
      cases r with
      | nil => rfl
      | cons b t => obtain ⟨g, off, e, -⟩ := hat 0 (by simp); cases e
    subst hr
    refine wpList_plain hgd fun K hK => ?_
    have hrun := run_append_noneC (P := Try.prog) (w := w) base t o.type 59 i0 3 c ht hi v _ _ hown
    unfold Oper.wp
    simp [execOp, ho, resolve, invoke, builtin, hs, hx, hrun, Result.andThen]
    exact hK _ _ (h v w (by simpa using hown) (Below.refl _ _) (OnlyS.refl _ _))
  | some ad =>
    refine wpList_append_own _ hgd s x t ho base 59 i0 _ 3 32 ht hi hz0 hz1 hz2 rfl (by decide) v ps.length _ hs hown ad r.length c (r.flatMap V.cells) hx (valCells_length r) (key ad rfl) hone (by unfold maxLen; omega) (by omega) hbase fun v' w' h1 h2 _ => h v' w' ?_ ?_ ?_
    · rw [List.length_append, List.flatMap_append]
      exact h1
    · exact (Below.refl base w).grown h2 hbase (fun b hb => (hown.lt b hb).1)
    · exact OnlyS.of_grown h2
theorem empty_vals (w : World) : (w.alloc (.cells #[] 59)).ownsRow w.heap.size 59 3 (.slice (some ⟨w.heap.size, 0, none⟩) 0 0) ([] : List V).length (([] : List V).flatMap V.cells) := World.ownsRow_made w #[] 0 (Nat.le_refl _) (by simp [maxLen]) rfl

theorem owns3_shape {base : Nat} {e : TypeId} {w : World} {v : Value} {n : Nat} {xs : List Value} (h : w.ownsRow base e 3 v n xs) : ∃ a cap, v = .slice a n cap := by
  rcases h.2 with ⟨rfl, rfl⟩ | ⟨g, cap, cur, rfl, _⟩
  · exact ⟨none, 0, rfl⟩
  · exact ⟨_, cap, rfl⟩

end Go.Proofs.Ytoagpaphghgkmaa

/-
  The walk of the law SpillBack.
-/
namespace Go.Proofs.Ytoagpaphghgkmaa
open Go.RowKit Go.BigFrame

set_option maxRecDepth 100000 in
set_option maxHeartbeats 8000000 in
theorem spillBack_walk (u : Value) (ls : List (List V)) (w : World) (hu : RdRows w u ls) (hf : ∀ r ∈ ls, ∀ v ∈ r, v.fits ∧ v.s.length ≤ maxLen) :
    Calls Try.prog 4 #[u] w fun e w' => e = .returned (.bool true) ∧ Below w.heap.size w w' := by
  have HU := Lib.hid hu
  have HF := Lib.hid hf
  clear hu hf
  go_enter Try.func4, Try.ntmps4
  go_wp2_with fail
  refine (shown17_any _).mono ?_
  rintro e w1 ⟨rfl, hx1⟩
  have HX1 := Lib.hid hx1
  clear hx1
  go_wp2_with fail
  refine (pNew_any 600 (by decide)).mono ?_
  rintro e w2 hN
  unfold PNewed at hN
  rcases hN with ⟨_, _, p, O2, rfl, hp2, ho2, hx2⟩ | ⟨hbad, rfl, hx2⟩
  · have HP2 := Lib.hid (show PSto O2 w2 p (List.replicate 600 none) from hp2)
    have HO2 := Lib.hid (show ∀ b, O2 b → w.heap.size ≤ b from fun b hb => Nat.le_trans HX1.out.size (ho2 b hb))
    have HX2 := Lib.hid (Ext.trans HX1.out hx2)
    clear hp2 ho2 hx2
    go_wp2_with fail
    refine (few17_any u ls w w2 HU.out HX2.out HF.out).mono ?_
    rintro e w3 ⟨⟨v3, M, rfl, h3, hfew⟩, x3⟩
    have HX3 := Lib.hid (Ext.trans HX2.out x3)
    have HS3 := Lib.hid x3.size
    have HP3 := Lib.hid (HP2.out.mono x3)
    generalize ls.take M = x0 at h3 hfew
    have H3 := Lib.hid h3
    have HFEW0 := Lib.hid hfew
    clear h3 hfew x3
    go_wp2_with fail
    refine (laid17_any v3 x0 w w3 H3.out HX3.out HFEW0.out).mono ?_
    rintro e w4 ⟨⟨v4, hs, rfl, hown, hh⟩, x4⟩
    have HX4 := Lib.hid (Ext.trans HX3.out x4)
    have HP4 := Lib.hid (HP3.out.mono x4)
    have HMAY := Lib.hid (laidL_may x0)
    have HFEW := Lib.hid HFEW0.out.laid
    generalize laidL x0 = y at hh HMAY HFEW
    have HOWN := Lib.hid hown
    have HNO := Lib.hid (show ∀ W, OnlyS (fun b => O2 b ∨ w4.heap.size ≤ b) w4 W → RdRows W v4 y from fun W hW => by
      have hE : Ext w W := Below.trans (show Below w.heap.size w w4 from HX4.out) (hW.below HX4.out.size (fun b hb => by
        rcases hb with hb | hb
        · exact HO2.out b hb
        · exact Nat.le_trans HX4.out.size hb))
      refine RdRows.of_heads ((RdV.of_owns HOWN.out).onlyS hW (fun _ k hk hx => ?_)) (hh.mono hE)
      have h1 := HOWN.out.lt k hk
      rcases hx with hx | hx
      · have h2 := HP2.out.lt k hx
        have h3 := HS3.out
        omega
      · omega)
    have HNH := Lib.hid (show ∀ W, OnlyS (fun b => O2 b ∨ w4.heap.size ≤ b) w4 W → RdV W v4 hs ∧ HdRows W hs y from fun W hW => by
      have hE : Ext w W := Below.trans (show Below w.heap.size w w4 from HX4.out) (hW.below HX4.out.size (fun b hb => by
        rcases hb with hb | hb
        · exact HO2.out b hb
        · exact Nat.le_trans HX4.out.size hb))
      refine ⟨(RdV.of_owns HOWN.out).onlyS hW (fun _ k hk hx => ?_), hh.mono hE⟩
      have h1 := HOWN.out.lt k hk
      rcases hx with hx | hx
      · have h2 := HP2.out.lt k hx
        have h3 := HS3.out
        omega
      · omega)
    obtain ⟨ids, s, h600⟩ := on600 HFEW.out HMAY.out
    have H600 := Lib.hid h600
    clear hown hh x4 HP3 HOWN h600
    go_wp2_with fail
    refine (pPut17_any O2 p (List.replicate 600 none) v4 y w4 HP4.out ⟨by rw [List.length_replicate]; decide, fun q hq => by have := List.eq_of_mem_replicate hq; cases this⟩ (fun W hW => HNO.out W (hW.mono (fun b _ hb => .inl hb))) HFEW.out.fit).mono ?_
    rintro e w5 ⟨v5, O5, rfl, hp5, ho5, hn5, hv5⟩
    rw [H600.out.put] at hp5 hv5 ⊢
    rcases hv5 with ⟨hv5, -⟩ | ⟨-, f, F, rfl, hf5, hF5⟩
    · exact absurd rfl hv5
    have HP5 := Lib.hid (show PSto O5 w5 p s from hp5)
    have HF5 := Lib.hid (show Fil F w5 f p ids y.length from hf5)
    have HFO := Lib.hid hF5
    have HC5 := Lib.hid (show OnlyS (fun b => O2 b ∨ w4.heap.size ≤ b) w4 w5 from ho5.mono (fun b _ hb => .inl hb))
    have HN5 := Lib.hid (show ∀ b, O5 b → O2 b ∨ w4.heap.size ≤ b from hn5)
    have HR5 := Lib.hid (HNO.out w5 HC5.out)
    have HFD := Lib.hid (show ∀ i, O5 i → ¬ F i from fun i hi hf => (hF5 i hf).2 hi)
    have HX5 := Lib.hid (show Ext w w5 from Below.trans (show Below w.heap.size w w4 from HX4.out) (HC5.out.below HX4.out.size (fun b hb => by
      rcases hb with hb | hb
      · exact HO2.out b hb
      · exact Nat.le_trans HX4.out.size hb)))
    obtain ⟨N, hN⟩ : ∃ N, y.length = N := ⟨_, rfl⟩
    have HN := Lib.hid hN
    obtain ⟨ya, yc, rfl, hyl, hyc⟩ := HR5.out.shape
    rw [hN] at hyl HNO HR5 ⊢
    have HGET := Lib.hid (show ∀ i, (hi : i < y.length) → ∃ g off b1 b2 b3, ya = some ⟨g, off, none⟩ ∧ ∀ W, OnlyS (fun b => O2 b ∨ w4.heap.size ≤ b) w4 W → W.cell? ⟨g, off + i, none⟩ = some (.slice b1 b2 b3) ∧ RdVals W (.slice b1 b2 b3) y[i] from fun i hi => by
      obtain ⟨b1, b2, b3, hb, -⟩ := (HNH.out w4 (OnlyS.refl _ _)).2.get i hi
      obtain ⟨fh, hfh, -, -, -, hat⟩ := (HNO.out w4 (OnlyS.refl _ _)).heads
      obtain ⟨c1, c2, c3, hc, -⟩ := hfh.get i hi
      obtain ⟨g, off, rfl, -⟩ := hat i _ hc
      refine ⟨g, off, b1, b2, b3, rfl, fun W hW => ?_⟩
      obtain ⟨hrv, hhd⟩ := HNH.out W hW
      obtain ⟨ao, cap, e2, -, -, hcell⟩ := RdV.cellsAt hrv
      simp only [Value.slice.injEq] at e2
      obtain ⟨rfl, -, -⟩ := e2
      obtain ⟨x', ex, hx'⟩ := hcell i _ hb
      cases ex
      rw [add_at] at hx'
      obtain ⟨d1, d2, d3, hd, hr2⟩ := hhd.get i hi
      have e3 := hb.symm.trans hd
      simp only [Option.some.injEq] at e3
      rw [← e3] at hr2
      exact ⟨hx', hr2⟩)
    have HS45 := Lib.hid (show w4.heap.size ≤ w5.heap.size from HC5.out.size)
    clear hp5 ho5 hn5 hf5 hF5 hN
    go_wp2_with fail
    refine (pMany17_any F f p ids N w5 (HN.out ▸ HF5.out)).mono ?_
    rintro e w6 ⟨rfl, x6⟩
    have HX6 := Lib.hid x6
    clear x6
    have q0 : ((N : Int) != (N : Int)) = false := bne_self_eq_false _
    go_wp2_with fail
    refine (pOpen17_any F f p ids y w6 (HF5.out.keep (OnlyS.of_ext (X := fun _ => False) HX6.out) (fun _ h => h.elim))).mono ?_
    rintro e w7 ⟨⟨a, A, rfl, hca, hA⟩, x7⟩
    have HX7 := Lib.hid (Ext.trans HX6.out x7)
    have HCA := Lib.hid hca
    have HAB := Lib.hid (show ∀ i, A i → w5.heap.size ≤ i from fun i hi => Nat.le_trans HX6.out.size (hA i hi))
    clear hca hA x7
    go_wp2_with fail
    refine (pOpen17_any F f p ids y w7 (HF5.out.keep (OnlyS.of_ext (X := fun _ => False) HX7.out) (fun _ h => h.elim))).mono ?_
    rintro e w8 ⟨⟨b, B, rfl, hcb, hB⟩, x8⟩
    have HI8 := Lib.hid (show BackI w4.heap.size w4 w8 O2 O5 F A B p f a b s ids y 0 0 from by
      have hx : Ext w5 w8 := Ext.trans HX7.out x8
      have lo := fun i (hi : O5 i) => HP5.out.lt i hi
      have lf := fun i (hi : F i) => HF5.out.lt hi
      have la := fun i (hi : A i) => HCA.out.lt hi
      have s7 := HX7.out.size
      refine ⟨HP5.out.mono hx, HF5.out.keep (OnlyS.of_ext (X := fun _ => False) hx) (fun _ h => h.elim), HCA.out.keep (OnlyS.of_ext (X := fun _ => False) x8) (fun _ h => h.elim), hcb, HFD.out, fun i hi hx => ?_, fun i hi hx => ?_, fun i hi hx => ?_, fun i hi hx => ?_, fun i hi hx => ?_, HC5.out.trans (OnlyS.of_ext (X := fun _ => False) hx) (fun _ _ h => h.elim), HN5.out, fun i hi => ?_, fun i hi => ?_, ?_⟩
      · have := lo i hi; have := HAB.out i hx; omega
      · have := lo i hi; have := hB i hx; omega
      · have := lf i hi; have := HAB.out i hx; omega
      · have := lf i hi; have := hB i hx; omega
      · have := la i hi; have := hB i hx; omega
      · exact .inr (Nat.le_trans HS45.out (HAB.out i hi))
      · exact .inr (Nat.le_trans HS45.out (Nat.le_trans s7 (hB i hi)))
      · exact Nat.le_trans HS45.out hx.size)
    have HREAD := Lib.hid H600.out.readTo
    have HCNT := Lib.hid H600.out.count
    have HENDS := Lib.hid H600.out.ends
    have HOK := Lib.hid H600.out.ok
    clear hcb hB x8 HCA HAB HX6 HX7 HP5 HF5 HFD HC5 HN5 HR5 HP4 HP2 HX1 HX2 HX3 H3 HS3 HFEW0 H600
    have hN60 : N ≤ 60 := HN.out ▸ HFEW.out.1
    go_wp2_with fail
    go_loopw [11, 12, 13, 14, 15, 16, 17, 18, 19, 59] (fun _ _ _ _ _ _ _ _ _ i wr => ∃ (j : Nat) (O A B : Nat → Prop), j ≤ N ∧ i = .int .i64 j ∧ BackI w4.heap.size w4 wr O2 O F A B p f a b s ids y j ((j + 1) / 2)) (fun _ _ _ _ _ _ _ _ _ i _ => N - (intOf i).toNat)
    case atStart => exact ⟨0, O5, A, B, Nat.zero_le _, rfl, HI8.out⟩
    case round =>
      obtain ⟨j, O, A, B, hj, rfl, hI⟩ := hrel
      have HI := Lib.hid hI
      clear hI
      by_cases hlt : j < N
      · have hjl : j < y.length := by have := HN.out; omega
        obtain ⟨g, off, a1, a2, a3, rfl, hcr⟩ := HGET.out j hjl
        have HCR := Lib.hid hcr
        have c0 := (hcr wr HI.out.only).1
        clear hcr
        go_wp2_with fail
        refine (pNextRow17_any O F A s a f p ids.length j ids y wr HI.out.sto HOK.out HI.out.fil HI.out.curA HI.out.oa HFEW.out.fit HMAY.out HCNT.out HREAD.out hjl (HENDS.out (j + 1))).mono ?_
        rintro e w9 ⟨v, O', A', rfl, hown, hp9, hc9, ho9, hno9, hna9, hoa9, hv9⟩
        have HI9 := Lib.hid (HI.out.step hp9 hc9 ho9 hno9 hna9 hoa9)
        have HRR := Lib.hid (HCR.out w9 HI9.out.only).2
        obtain ⟨va, vc, rfl⟩ := owns3_shape hown
        have HRV := Lib.hid (show RdVals w9 _ y[j] from RdVals.of_owns hown)
        have HOWN9 := Lib.hid hown
        have HVB := Lib.hid (show ∀ i, (Value.slice va y[j].length vc).ownBlock = some i → w4.heap.size ≤ i ∧ ¬ O' i ∧ ¬ F i ∧ ¬ A' i ∧ ¬ B i from fun i hi => by
          have h1 := (hown.lt i hi).1
          have h2 := HI.out.size
          refine ⟨by omega, (hv9 i hi).1, fun h => ?_, (hv9 i hi).2, fun h => ?_⟩
          · have := HI.out.fil.lt h; omega
          · have := HI.out.curB.lt h; omega)
        clear hown hp9 hc9 ho9 hno9 hna9 hoa9 hv9 c0
        have HMEM := Lib.hid (List.getElem_mem hjl)
        generalize y[j] = r at HRR HRV HOWN9 HVB HMEM ⊢
        go_wp2_with fail
        refine (refSameRow_any _ _ r r w9 HRV.out HRR.out).mono ?_
        rintro e w10 ⟨rfl, x10⟩
        rw [decide_eq_true rfl]
        have HI10 := Lib.hid (HI9.out.ext x10)
        have HOWN10 := Lib.hid (owns_extS HOWN9.out x10)
        clear x10
        go_wp2_with fail
        obtain ⟨L, hL⟩ : ∃ L, r.length = L := ⟨_, rfl⟩
        have hL3 : (r.flatMap V.cells).length = 3 * L := by rw [valCells_length, hL]; omega
        rw [hL] at HOWN10 HVB ⊢
        generalize r.flatMap V.cells = cells at HOWN10 hL3
        have hLm : L ≤ 40 := hL ▸ (HFEW.out.2.1 _ HMEM.out).1
        clear hL HRV HRR HOWN9
        go_loopw [16, 84] (fun _ i wz => ∃ (c : Nat) (cells : List Value), c ≤ L ∧ i = .int .i64 c ∧ Hid (cells.length = 3 * L) ∧ wz.ownsRow wr.heap.size 59 3 (.slice va L vc) L cells ∧ BackI w4.heap.size w4 wz O2 O' F A' B p f a b s ids y (j + 1) ((j + 1) / 2)) (fun _ i _ => L - (intOf i).toNat)
        case atStart => exact ⟨0, cells, Nat.zero_le _, rfl, Lib.hid hL3, HOWN10.out, HI10.out⟩
        case round =>
          obtain ⟨c, cs, hc, rfl, HCL, hown, hI⟩ := hrel
          have HOZ := Lib.hid hown
          have HIZ := Lib.hid hI
          clear hown hI
          by_cases hlt2 : c < L
          · rcases HOZ.out.2 with ⟨-, h0⟩ | ⟨G, cap, cur, he, -⟩
            · omega
            simp only [Value.slice.injEq] at he
            obtain ⟨rfl, -, rfl⟩ := he
            have hcell := HOZ.out.cellAt (3 * c + 1) (by omega)
            obtain ⟨old, hold⟩ : ∃ old, cs[3 * c + 1]? = some old := ⟨_, List.getElem?_eq_getElem (by have := HCL.out; omega)⟩
            rw [hold] at hcell
            have e1 : 3 * c + 1 = c * 3 + 1 := by omega
            rw [e1] at hcell
            have hfr := HOZ.out.frozenAt (c * 3 + 1)
            have HST := Lib.hid (HOZ.out.stored (c * 3 + 1) (.int .i64 (-77))).1
            have HIS := Lib.hid (HIZ.out.apart (X := fun i => i = G) (OnlyS.of_onlyP (OnlyP.set G (c * 3 + 1) wr (.int .i64 (-77))) rfl) (fun i hi => HVB.out i (by rw [hi]; rfl)))
            clear hold e1
            go_wp2_with fail
            have HCL2 := Lib.hid (show (cs.set (c * 3 + 1) (.int .i64 (-77))).length = 3 * L from by rw [List.length_set]; exact HCL.out)
            go_roundw
            case rel => exact ⟨c + 1, _, by omega, by go_num, HCL2, HST.out, HIS.out⟩
            case measure => simp [intOf]; omega
          · clear HOZ HCL HVB HOWN10
            obtain ⟨m, hm⟩ : ∃ m, j = 2 * m ∨ j = 2 * m + 1 := ⟨j / 2, by omega⟩
            rcases hm with rfl | rfl
            · have t1 : ((((2 * m : Nat) : Int)).tmod 2 == 0) = true := by simp
              have t2 : ((((2 * m : Nat) : Int)) % 2 == 0) = true := by simp
              have t3 : (((2 * m % 2 : Nat) : Int) == 0) = true := by simp
              have e1 : (2 * m + 1) / 2 = m := by omega
              have hml : m < y.length := by omega
              obtain ⟨g', off', b1, b2, b3, e2, hcr⟩ := HGET.out m hml
              cases e2
              have HCB := Lib.hid hcr
              have HIB := Lib.hid (show BackI w4.heap.size w4 wr O2 O' F A' B p f a b s ids y (2 * m + 1) m from by have h := HIZ.out; rwa [e1] at h)
              clear hcr e1 HIZ
              go_wp2_with fail
              refine (pNextRow17_any O' F B s b f p ids.length m ids y wr HIB.out.sto HOK.out HIB.out.fil HIB.out.curB HIB.out.ob HFEW.out.fit HMAY.out HCNT.out HREAD.out hml (HENDS.out (m + 1))).mono ?_
              rintro e w11 ⟨v', O3, B3, rfl, hown, hp9, hc9, ho9, hno9, hna9, hoa9, hv9⟩
              have HI11 := Lib.hid (HIB.out.swap.step hp9 hc9 ho9 hno9 hna9 hoa9).swap
              have HRR := Lib.hid (HCB.out w11 HI11.out.only).2
              have c1 := (HCB.out w11 HI11.out.only).1
              have HRV := Lib.hid (show RdVals w11 _ y[m] from RdVals.of_owns hown)
              clear hown hp9 hc9 ho9 hno9 hna9 hoa9 hv9
              generalize y[m] = r2 at HRR HRV
              have q1 : (((2 * m : Nat) : Int)).tdiv 2 = (m : Int) := by rw [Int.tdiv_eq_ediv_of_nonneg (by omega)]; omega
              have q2 : (((2 * m : Nat) : Int)) / 2 = (m : Int) := by omega
              go_wp2_with fail
              refine (refSameRow_any _ _ r2 r2 w11 HRV.out HRR.out).mono ?_
              rintro e w12 ⟨rfl, x12⟩
              rw [decide_eq_true rfl]
              have HI12 := Lib.hid (HI11.out.ext x12)
              have HI13 := Lib.hid (show BackI w4.heap.size w4 w12 O2 O3 F A' B3 p f a b s ids y (2 * m + 1) ((2 * m + 1 + 1) / 2) from (show m + 1 = (2 * m + 1 + 1) / 2 by omega) ▸ HI12.out)
              clear x12 t1 t2 t3 q1 q2 c1
              go_wp2_with fail
              go_roundw
              case rel => exact ⟨2 * m + 1, O3, A', B3, by omega, by go_num, HI13.out⟩
              case measure => simp [intOf]; omega
            · have t1 : ((((2 * m + 1 : Nat) : Int)).tmod 2 == 0) = false := by rw [Int.tmod_eq_emod_of_nonneg (by omega)]; simp
              have t2 : ((((2 * m + 1 : Nat) : Int)) % 2 == 0) = false := by simp
              have HIB := Lib.hid (show BackI w4.heap.size w4 wr O2 O' F A' B p f a b s ids y (2 * m + 1 + 1) ((2 * m + 1 + 1) / 2) from HIZ.out)
              have HIC := Lib.hid (show BackI w4.heap.size w4 wr O2 O' F A' B p f a b s ids y (2 * m + 1 + 1) ((2 * m + 1 + 1 + 1) / 2) from (show (2 * m + 1 + 1) / 2 = (2 * m + 1 + 1 + 1) / 2 by omega) ▸ HIB.out)
              clear HIB HIZ
              go_wp2_with fail
              go_roundw
              case rel => exact ⟨2 * m + 1 + 1, O', A', B, by omega, by go_num, HIC.out⟩
              case measure => simp [intOf]; omega
      · have hjN : j = N := by omega
        subst hjN
        have HIE := Lib.hid (show BackI w4.heap.size w4 wr O2 O F A B p f a b s ids y y.length ((j + 1) / 2) from by rw [HN.out]; exact HI.out)
        clear HI
        go_wp2_with fail
        refine (pNextEnd17_any O F A s a f p ids y wr HIE.out.sto HOK.out HIE.out.fil HIE.out.curA HIE.out.oa HFEW.out.fit HMAY.out HCNT.out HREAD.out).mono ?_
        rintro e w9 ⟨v, O', A', rfl, -, hp9, hc9, ho9, hno9, hna9, hoa9⟩
        have HI9 := Lib.hid (HIE.out.step hp9 hc9 ho9 hno9 hna9 hoa9)
        clear hp9 hc9 ho9 hno9 hna9 hoa9
        go_wp2_with fail
        refine (pNextEnd17_any O' F A' s a f p ids y w9 HI9.out.sto HOK.out HI9.out.fil HI9.out.curA HI9.out.oa HFEW.out.fit HMAY.out HCNT.out HREAD.out).mono ?_
        rintro e w10 ⟨v2, O3, A3, rfl, -, hp9, hc9, ho9, hno9, hna9, hoa9⟩
        have HI10 := Lib.hid (HI9.out.step hp9 hc9 ho9 hno9 hna9 hoa9)
        clear hp9 hc9 ho9 hno9 hna9 hoa9
        go_wp2_with fail
        go_ret
        exact ⟨rfl, Below.trans (show Below w.heap.size w w4 from HX4.out) (HI10.out.only.below HX4.out.size (fun b hb => by
          rcases hb with hb | hb
          · exact HO2.out b hb
          · exact Nat.le_trans HX4.out.size hb))⟩
  · exact absurd (by decide) hbad

end Go.Proofs.Ytoagpaphghgkmaa

/-
  One cursor of a file: what holds between its calls.
-/
namespace Go.Proofs.Ytoagpaphghgkmaa
open Go.RowKit Go.BigFrame

/-- A store, its file, a cursor of it, each in blocks of its own; since w4 nothing has changed but the store's blocks and what is new since N. -/
structure OneI (N : Nat) (w4 w : World) (O2 O F A : Nat → Prop) (p f a : Nat) (s : St) (ids : List Nat) (x : List (List V)) (k : Nat) : Prop where
  sto : PSto O w p s
  fil : Fil F w f p ids x.length
  cur : Cur A w a f p ids x k
  of' : ∀ i, O i → ¬ F i
  oa : ∀ i, O i → ¬ A i
  fa : ∀ i, F i → ¬ A i
  only : OnlyS (fun i => O2 i ∨ N ≤ i) w4 w
  inO : ∀ i, O i → O2 i ∨ N ≤ i
  inA : ∀ i, A i → O2 i ∨ N ≤ i
  size : N ≤ w.heap.size

variable {N : Nat} {w4 w w' : World} {O2 O O' F A A' X : Nat → Prop} {p f a : Nat} {s : St} {ids : List Nat} {x : List (List V)} {k k' : Nat}

theorem OneI.ext (h : OneI N w4 w O2 O F A p f a s ids x k) (hx : Ext w w') : OneI N w4 w' O2 O F A p f a s ids x k :=
  ⟨h.sto.onlyS (OnlyS.of_ext (X := fun _ => False) hx) (fun _ _ h => h), h.fil.keep (OnlyS.of_ext (X := fun _ => False) hx) (fun _ h => h.elim), h.cur.keep (OnlyS.of_ext (X := fun _ => False) hx) (fun _ h => h.elim), h.of', h.oa, h.fa,
   h.only.trans (OnlyS.of_ext (X := fun _ => False) hx) (fun _ _ h => h.elim), h.inO, h.inA, Nat.le_trans h.size hx.size⟩
/-- The cursor has been asked. -/
theorem OneI.step (h : OneI N w4 w O2 O F A p f a s ids x k) (hp : PSto O' w' p s) (hc : Cur A' w' a f p ids x k') (ho : OnlyS (fun i => O i ∨ A i) w w') (hno : ∀ i, O' i → O i ∨ w.heap.size ≤ i) (hna : ∀ i, A' i → A i ∨ w.heap.size ≤ i)
    (hoa : ∀ i, w.heap.size ≤ i → O' i → ¬ A' i) : OneI N w4 w' O2 O' F A' p f a s ids x k' := by
  have lo := fun i (hi : O i) => h.sto.lt i hi
  have lf := fun i (hi : F i) => h.fil.lt hi
  have la := fun i (hi : A i) => h.cur.lt hi
  have hs := h.size
  refine ⟨hp, h.fil.keep ho (fun i hi hf => ?_), hc, fun i hi hf => ?_, fun i hi ha => ?_, fun i hf ha => ?_, h.only.trans ho (fun i _ hi => ?_), fun i hi => ?_, fun i hi => ?_, Nat.le_trans hs ho.size⟩
  · rcases hi with hi | hi
    · exact h.of' i hi hf
    · exact h.fa i hf hi
  · rcases hno i hi with h1 | h1
    · exact h.of' i h1 hf
    · have := lf i hf; omega
  · rcases hno i hi with h1 | h1
    · rcases hna i ha with h2 | h2
      · exact h.oa i h1 h2
      · have := lo i h1; omega
    · exact hoa i h1 hi ha
  · rcases hna i ha with h2 | h2
    · exact h.fa i hf h2
    · have := lf i hf; omega
  · rcases hi with hi | hi
    · exact h.inO i hi
    · exact h.inA i hi
  · rcases hno i hi with h1 | h1
    · exact h.inO i h1
    · exact .inr (by omega)
  · rcases hna i hi with h2 | h2
    · exact h.inA i h2
    · exact .inr (by omega)

/-- What a spoilt page leaves to be read: the pages ahead of it, or all, if nothing is spoilt. -/
theorem ReadTo.spoilt {s : St} {ids : List Nat} {b : List UInt8} {r id : Nat} {pg : List UInt8} (h : ReadTo s ids b ids.length) (hd : ids.Nodup) (hr : r < ids.length) (hid : ids[r] = id) : ReadTo (s.set id (some pg)) ids b r := by
  refine ⟨Nat.le_of_lt hr, fun j hj hjr => ?_⟩
  rw [← h.2 j hj hj]
  have hne : ids[j] ≠ id := fun e => by
    exact (List.pairwise_iff_getElem.1 hd) j r hj hr hjr (by rw [e, hid])
  unfold readS pageS
  rw [if_pos (by omega), if_pos (by omega), Int.toNat_natCast, List.getElem?_set_ne (Ne.symm hne)]
/-- The bytes reach the last page. -/
theorem On600.reach {x : List (List V)} {ids : List Nat} {s : St} (h : On600 x ids s) {r : Nat} (hr : r < ids.length) : 56 * r < (rowsB x).length := by
  have h2 := h.count
  have h3 := needS_nat (rowsB x).length
  have h4 := needS_ge (rowsB x).length
  omega

end Go.Proofs.Ytoagpaphghgkmaa

/-
  Bits of a page that are turned: what holds meanwhile.
-/
namespace Go.Proofs.Ytoagpaphghgkmaa
open Go.RowKit Go.BigFrame

theorem and_one' (W k : Nat) (h : W ≤ 4294967295) : bits BinOp.and IntKind.u32 ((W : Int) / 2 ^ k) 1 = ((W / 2 ^ k % 2 : Nat) : Int) := by
  have h1 : W / 2 ^ k ≤ W := Nat.div_le_self _ _
  have e : ((W : Int) / 2 ^ k) = ((W / 2 ^ k : Nat) : Int) := by rw [Int.natCast_ediv, Int.natCast_pow]; rfl
  have := (bits_nat .u32 32 (by decide) (fun n h0 h1 => IntWalk.u32_in n ⟨h0, by omega⟩) (W / 2 ^ k) 1 (by omega) (by decide)).1
  rw [e, ← Nat.and_one_is_mod]
  exact this
theorem turn_stay' (A k j W : Nat) (h : j ≠ A + k ∨ W.testBit k = false) : (decide (A ≤ j ∧ j < A + (k + 1)) && W.testBit (j - A)) = (decide (A ≤ j ∧ j < A + k) && W.testBit (j - A)) := by
  by_cases hj : j = A + k
  · have hf : W.testBit k = false := h.resolve_left (fun hh => hh hj)
    subst hj
    rw [show A + k - A = k by omega, hf, Bool.and_false, Bool.and_false]
  · congr 1
    exact decide_eq_decide.2 ⟨fun ⟨h1, h2⟩ => ⟨h1, by omega⟩, fun ⟨h1, h2⟩ => ⟨h1, by omega⟩⟩
theorem turn_next' (A k j W : Nat) (h : W.testBit k = true) : (decide (A ≤ j ∧ j < A + (k + 1)) && W.testBit (j - A)) = ((decide (A ≤ j ∧ j < A + k) && W.testBit (j - A)) ^^ decide (j = A + k)) := by
  by_cases hj : j = A + k
  · subst hj
    rw [show A + k - A = k by omega, h, decide_eq_true (show A ≤ A + k ∧ A + k < A + (k + 1) by omega), decide_eq_false (show ¬ (A ≤ A + k ∧ A + k < A + k) by omega), decide_eq_true rfl]
    rfl
  · rw [decide_eq_false hj, Bool.xor_false]
    congr 1
    exact decide_eq_decide.2 ⟨fun ⟨h1, h2⟩ => ⟨h1, by omega⟩, fun ⟨h1, h2⟩ => ⟨h1, by omega⟩⟩

/-- What holds while bits are turned. -/
structure BInv (w w3 wr : World) (p : Nat) (O3 : Nat → Prop) (s1 : St) (id A W k : Nat) (c : List UInt8) (tb : Bool) : Prop where
  ex : ∃ (O' : Nat → Prop) (pg : List UInt8), PSto O' wr p (s1.set id (some pg)) ∧ okS (s1.set id (some pg)) ∧ pg.length = 64 ∧ (tb = false → pg = layP id c) ∧
    (∀ j, j < 512 → (bitsOf pg)[j]? = (bitsOf (layP id c))[j]?.map fun b => b ^^ (decide (A ≤ j ∧ j < A + k) && W.testBit (j - A))) ∧ (∀ b, O' b → O3 b ∨ w3.heap.size ≤ b)
  told : tb = true ↔ ∃ i, i < k ∧ A + i < 512 ∧ W.testBit i = true
  only : OnlyS O3 w3 wr
  below : Below w.heap.size w wr

theorem BInv.drew {w w3 wr : World} {p : Nat} {O3 : Nat → Prop} {s1 : St} {id A W k : Nat} {c : List UInt8} {tb : Bool} (h : BInv w w3 wr p O3 s1 id A W k c tb) : BInv w w3 wr.drew p O3 s1 id A W k c tb := by
  obtain ⟨O', pg, e1, e2⟩ := h.ex
  exact ⟨⟨O', pg, e1.mono (Ext.drew wr), e2⟩, h.told, h.only.trans (OnlyS.of_ext (X := fun _ => False) (Ext.drew wr)) (fun _ _ h => h.elim), h.below.trans (Below.mono (Ext.drew wr) h.below.size)⟩

theorem set_same {s : St} {i : Nat} {o : Option (List UInt8)} (h : s[i]? = some o) : s.set i o = s := by
  refine List.ext_getElem? fun j => ?_
  by_cases e : i = j
  · subst e
    rw [List.getElem?_set_self (List.getElem?_eq_some_iff.1 h).1, h]
  · rw [List.getElem?_set_ne e]
theorem set_twice {s : St} {i : Nat} {o o' : Option (List UInt8)} : (s.set i o).set i o' = s.set i o' := List.set_set ..
theorem flip_set {s : St} {id k : Nat} {pg : List UInt8} {m : UInt8} (hid : id < s.length) (hk : k < 64) : flipS (s.set id (some pg)) (id : Int) (k : Int) m = s.set id (some (turnB pg k m)) := by
  unfold flipS setS
  rw [pageS_at (List.getElem?_set_self hid)]
  simp only
  rw [if_pos ⟨by omega, by omega⟩, Int.toNat_natCast, Int.toNat_natCast, set_twice]

end Go.Proofs.Ytoagpaphghgkmaa
