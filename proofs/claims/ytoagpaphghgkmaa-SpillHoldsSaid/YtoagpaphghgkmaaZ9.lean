/-
  Texts of this proof, merged: Apart, Beside, RowsMem, SpiRef1, SpiRef2, Panics, CellAs, CellSay0, CellSay1, CellSays.
-/
import Derived.Lib.AppendZeros
import Derived.WalkKit
import Derived.Laws.Pointers
import Derived.Defers
import Derived.Recover
import Derived.Lib.Strings
import Derived.Lib.Bytealg
import Derived.Lib.Walk
import Derived.Test.YtoagpaphghgkmaaZ1
import Derived.Test.YtoagpaphghgkmaaZ2
import Derived.Test.YtoagpaphghgkmaaZ8
import Derived.Test.YtoagpaphghgkmaaZ4
import Derived.Test.YtoagpaphghgkmaaZ7
import Derived.Test.YtoagpaphghgkmaaProg
/-
  append to a row of one's own: where the row lies behind it (in its own block, or in a new one). Over any program.
-/
namespace Go.Proofs.Ytoagpaphghgkmaa
open Go.RowKit

theorem run_append_block {P : Program} (w : World) (base : Nat) (t ty e : TypeId) (i : TypeInfo) (z : Value) (size bytes : Nat) (ht : P.underlying t = some (.slice e)) (hi : P.info? e = some i) (hz : i.zero = some z)
    (hsize : i.size = size) (hby : i.bytes = bytes) (hzs : z.cells.size = size) (hsz : 0 < size)
    (v : Value) (n : Nat) (xs : List Value) (hown : w.ownsRow base e size v n xs)
    (a : Addr) (m c : Nat) (news : List Value) (hl : news.length = m * size) (hnews : ∀ j u, news[j]? = some u → w.cell? (a.add j) = some u) (h1 : ∀ u ∈ news, u.oneCell' = true)
    (h63 : n + m ≤ maxLen) (hbytes : (n + m) * bytes ≤ 140737488355328) (hbase : base ≤ w.heap.size) :
    ∃ v' w', (Builtin.append_ #[t, t] ty #[v, .slice (some a) m c]).run P w = .ok v' w' ∧ w'.ownsRow base e size v' (n + m) (xs ++ news) ∧ w.grownBy w' v.ownBlock ∧
      (v'.ownBlock = v.ownBlock ∨ ∃ k, v'.ownBlock = some k ∧ w.heap.size ≤ k) := by
  obtain ⟨v', w', hrun, ho, hg, hn⟩ := run_append_own w base t ty e i z size bytes ht hi hz hsize hby hzs hsz v n xs hown a m c news hl hnews h1 h63 hbytes hbase
  refine ⟨v', w', hrun, ho, hg, ?_⟩
  subst hsize
  subst hby
  have hsmall : n + m ≤ 9223372036854775807 := by simp only [maxLen] at h63; omega
  rcases hown.2 with ⟨rfl, rfl⟩ | ⟨g, cap, cur, rfl, hbg, hg', hnc, hcm, hcs, htake⟩
  · by_cases hm : m = 0
    · left
      rw [hn.2 ⟨rfl, hm⟩]
    · have hr := run_append_nil (P := P) w t ty e i z ht hi hz a m c news hl hnews (by omega) (by omega) (by have hb := hbytes; simp only [Nat.zero_add] at hb; omega)
      rw [hr] at hrun
      simp only [Result.ok.injEq] at hrun
      right
      exact ⟨_, by rw [← hrun.1]; rfl, Nat.le_refl _⟩
  · by_cases hroom : n + m ≤ cap
    · have hfit : n * i.size + news.length ≤ cur.size := by rw [hl, hcs, ← Nat.add_mul]; exact Nat.mul_le_mul_right _ hroom
      have hr := run_append_room (P := P) w t ty e i ht hi g n cap cur hg' a m c news hl hnews h1 hroom hfit
      rw [hr] at hrun
      simp only [Result.ok.injEq] at hrun
      left
      rw [← hrun.1]
      rfl
    · have holds : ∀ j u, xs[j]? = some u → w.cell? ((⟨g, 0, none⟩ : Addr).add j) = some u := hown.cells (g := g) rfl
      have hr := run_append_grow (P := P) w t ty e i z ht hi hz ⟨g, 0, none⟩ n cap xs hown.1 holds a m c news hl hnews (by omega) (by omega) (growslice_fits (by omega) hbytes)
      rw [hr] at hrun
      simp only [Result.ok.injEq] at hrun
      right
      exact ⟨_, by rw [← hrun.1]; rfl, Nat.le_refl _⟩

/-- wpList_append_own, and where the row lies then. -/
theorem wpList_append_apart {P : Program} (w : World) {ops : Array Oper} {rest : List Oper} {o : Oper} {a : Act} {Q : Exit → Act → World → Prop} (hgd : o.guard = none) (s x : Operand) (t : TypeId)
    (ho : o.op = .call { callee := .builtin .append, args := #[s, x], argTypes := #[t, t] })
    (base : Nat) (e : TypeId) (i : TypeInfo) (z : Value) (size bytes : Nat) (ht : P.underlying t = some (.slice e)) (hi : P.info? e = some i) (hz : i.zero = some z)
    (hsize : i.size = size) (hby : i.bytes = bytes) (hzs : z.cells.size = size) (hsz : 0 < size)
    (v : Value) (n : Nat) (xs : List Value) (hs : a.eval s = v) (hown : w.ownsRow base e size v n xs)
    (ad : Addr) (m c : Nat) (news : List Value) (hx : a.eval x = .slice (some ad) m c) (hl : news.length = m * size) (hnews : ∀ j u, news[j]? = some u → w.cell? (ad.add j) = some u) (h1 : ∀ u ∈ news, u.oneCell' = true)
    (h63 : n + m ≤ maxLen) (hbytes : (n + m) * bytes ≤ 140737488355328) (hbase : base ≤ w.heap.size)
    (h : ∀ v' w', w'.ownsRow base e size v' (n + m) (xs ++ news) → w.grownBy w' v.ownBlock → (v'.ownBlock = v.ownBlock ∨ ∃ k, v'.ownBlock = some k ∧ w.heap.size ≤ k) → wpList P ops Q rest (a.put o.dst v') w') : wpList P ops Q (o :: rest) a w := by
  obtain ⟨v', w', hrun, k1, k2, k3⟩ := run_append_block (P := P) w base t o.type e i z size bytes ht hi hz hsize hby hzs hsz v n xs hown ad m c news hl hnews h1 h63 hbytes hbase
  refine wpList_plain hgd fun K hK => ?_
  have hkk := hK _ _ (h v' w' k1 k2 k3)
  unfold Oper.wp
  simp [execOp, ho, resolve, invoke, builtin, hs, hx, hrun, Result.andThen]
  exact hkk

end Go.Proofs.Ytoagpaphghgkmaa

/-
  Rows of the call's own that grow side by side: one element at a time. Over any program.
-/
namespace Go.Proofs.Ytoagpaphghgkmaa
open Go.RowKit

/-- u lies elsewhere than v. -/
def ApartV (u v : Value) : Prop := ∀ k, u.ownBlock = some k → v.ownBlock ≠ some k
theorem ApartV.symm {u v : Value} (h : ApartV u v) : ApartV v u := fun k h1 h2 => h k h2 h1
theorem ApartV.nil (u : Value) : ApartV u (.slice none 0 0) := fun _ _ h => by cases h
theorem ApartV.nil' (u : Value) : ApartV (.slice none 0 0) u := fun _ h => by cases h
/-- Where a row lies behind an append. -/
def Grew (w : World) (v v' : Value) : Prop := v'.ownBlock = v.ownBlock ∨ ∃ k, v'.ownBlock = some k ∧ w.heap.size ≤ k
theorem ApartV.grew {w : World} {u v v' : Value} (h : ApartV u v) (hu : ∀ k, u.ownBlock = some k → k < w.heap.size) (hg : Grew w v v') : ApartV u v' := by
  intro k hk hv
  rcases hg with e | ⟨k', e, hle⟩
  · exact h k hk (e ▸ hv)
  · rw [e] at hv
    have := hu k hk
    cases hv
    omega
/-- A row beside the one that grew. -/
theorem owns_beside {base n size : Nat} {e : TypeId} {w w' : World} {u v : Value} {xs : List Value} (h : w.ownsRow base e size u n xs) (ho : OnlyS (fun k => v.ownBlock = some k) w w') (ha : ApartV u v) : w'.ownsRow base e size u n xs := by
  refine ⟨h.1, ?_⟩
  rcases h.2 with hn | ⟨g, cap, cur, rfl, hb, hgg, rest⟩
  · exact .inl hn
  · refine .inr ⟨g, cap, cur, rfl, hb, ?_, rest⟩
    rw [ho.block g (Array.getElem?_eq_some_iff.1 hgg).1 (ha g rfl)]
    exact hgg
theorem owns_extS {base n size : Nat} {e : TypeId} {w w' : World} {u : Value} {xs : List Value} (h : w.ownsRow base e size u n xs) (hx : Ext w w') : w'.ownsRow base e size u n xs :=
  h.kept (row := none) ⟨hx.os, hx.tape, hx.output, hx.size, fun k hk _ => hx.block k hk⟩ (by cases u.ownBlock <;> simp)
/-- append(l, x) of one element that the call has just put into a row of its own. -/
theorem wpList_append_one {P : Program} {w : World} {ops : Array Oper} {rest : List Oper} {o : Oper} {a : Act} {Q : Exit → Act → World → Prop} (hgd : o.guard = none) (s x : Operand) (t : TypeId)
    (ho : o.op = .call { callee := .builtin .append, args := #[s, x], argTypes := #[t, t] })
    (base : Nat) (e : TypeId) (i : TypeInfo) (z : Value) (size bytes : Nat) (ht : P.underlying t = some (.slice e)) (hi : P.info? e = some i) (hz : i.zero = some z)
    (hsize : i.size = size) (hby : i.bytes = bytes) (hzs : z.cells.size = size) (hsz : 0 < size) (hb100 : bytes ≤ 1000)
    (v : Value) (n : Nat) (xs ys : List Value) (hs : a.eval s = v) (hown : w.ownsRow base e size v n xs) (hx : a.eval x = .slice (some ⟨w.heap.size, 0, none⟩) 1 1) (hl : ys.length = size) (h1 : ∀ u ∈ ys, u.oneCell' = true)
    (hn : n ≤ 10000000) (hbase : base ≤ w.heap.size)
    (h : ∀ v' w', w'.ownsRow base e size v' (n + 1) (xs ++ ys) → Below base w w' → OnlyS (fun k => v.ownBlock = some k) w w' → Grew w v v' → wpList P ops Q rest (a.put o.dst v') w') :
    wpList P ops Q (o :: rest) a (w.alloc (.cells ys.toArray e)) := by
  have hm : (n + 1) * bytes ≤ 140737488355328 := Nat.le_trans (Nat.mul_le_mul (show n + 1 ≤ 10000001 by omega) hb100) (by decide)
  refine wpList_append_apart _ hgd s x t ho base e i z size bytes ht hi hz hsize hby hzs hsz v n xs hs ?_ ⟨w.heap.size, 0, none⟩ 1 1 ys hx (by omega) (row_new w ys e) h1 (by unfold maxLen; omega) hm (by simp; omega) fun v' w' k1 k2 k3 => h v' w' k1 ?_ ?_ ?_
  · exact owns_extS hown (ext_new w _)
  · exact (((Below.refl base w).alloc hbase _).grown k2 (by simp; omega) (fun b hb => (hown.lt b hb).1))
  · exact (OnlyS.of_ext (ext_new w _)).trans (OnlyS.of_grown k2) (fun _ _ h => h)
  · rcases k3 with e | ⟨k, e, hle⟩
    · exact .inl e
    · refine .inr ⟨k, e, ?_⟩
      simp only [World.alloc, Array.size_push] at hle
      omega

end Go.Proofs.Ytoagpaphghgkmaa

/-
  Rows of rows of values in memory: the heads of rows, a row of heads of one's own.
-/
namespace Go.Proofs.Ytoagpaphghgkmaa
open Go.RowKit Go.BigFrame

theorem Try.info_row : (Try.prog.info? 54).map (fun i => (i.zero, i.size, i.bytes)) = some (some (.slice none 0 0), 1, 24) := by kernel_rfl

/-- These slices read as these rows. -/
def HdRows (w : World) (hs : List Value) (rs : List (List V)) : Prop := hs.length = rs.length ∧ ∀ i, (h : i < hs.length) → (h' : i < rs.length) → RdVals w hs[i] rs[i]

theorem HdRows.nil (w : World) : HdRows w [] [] := ⟨rfl, fun _ h => absurd h (Nat.not_lt_zero _)⟩
theorem HdRows.mono {w w' : World} {hs : List Value} {rs : List (List V)} (h : HdRows w hs rs) (hb : Below w.heap.size w w') : HdRows w' hs rs := ⟨h.1, fun i h1 h2 => (h.2 i h1 h2).mono hb⟩
theorem HdRows.append {w : World} {hs hs' : List Value} {rs rs' : List (List V)} (h : HdRows w hs rs) (h' : HdRows w hs' rs') : HdRows w (hs ++ hs') (rs ++ rs') := by
  refine ⟨by rw [List.length_append, List.length_append, h.1, h'.1], fun i h1 h2 => ?_⟩
  rw [List.length_append] at h1 h2
  by_cases hi : i < hs.length
  · rw [List.getElem_append_left hi, List.getElem_append_left (h.1 ▸ hi)]
    exact h.2 i hi (h.1 ▸ hi)
  · have e := h.1
    rw [List.getElem_append_right (by omega), List.getElem_append_right (by omega)]
    have k := h'.2 (i - hs.length) (by omega) (by omega)
    simp only [e] at k ⊢
    exact k
theorem HdRows.take {w : World} {hs : List Value} {rs : List (List V)} (h : HdRows w hs rs) (n : Nat) : HdRows w (hs.take n) (rs.take n) := by
  refine ⟨by rw [List.length_take, List.length_take, h.1], fun i h1 h2 => ?_⟩
  rw [List.length_take] at h1 h2
  rw [List.getElem_take, List.getElem_take]
  exact h.2 i (by omega) (by omega)
theorem HdRows.drop {w : World} {hs : List Value} {rs : List (List V)} (h : HdRows w hs rs) (n : Nat) : HdRows w (hs.drop n) (rs.drop n) := by
  refine ⟨by rw [List.length_drop, List.length_drop, h.1], fun i h1 h2 => ?_⟩
  rw [List.length_drop] at h1 h2
  rw [List.getElem_drop, List.getElem_drop]
  exact h.2 (n + i) (by omega) (by omega)
theorem HdRows.one {w : World} {v : Value} {r : List V} (h : RdVals w v r) : HdRows w [v] [r] := ⟨rfl, fun i h1 _ => by
  have : i = 0 := by simpa using h1
  subst this
  exact h⟩
theorem HdRows.get {w : World} {hs : List Value} {rs : List (List V)} (h : HdRows w hs rs) (i : Nat) (hi : i < rs.length) : ∃ a n c, hs[i]? = some (Value.slice a n c) ∧ RdVals w (.slice a n c) rs[i] := by
  have h1 := h.2 i (h.1 ▸ hi) hi
  obtain ⟨a, c, e, -, -⟩ := h1.shape
  exact ⟨a, _, c, by rw [List.getElem?_eq_getElem (h.1 ▸ hi), e], e ▸ h1⟩
theorem HdRows.shape {w : World} {hs : List Value} {rs : List (List V)} (h : HdRows w hs rs) : ∀ x ∈ hs, ∃ a n c, x = Value.slice a n c := fun x hx => by
  obtain ⟨i, hi, rfl⟩ := List.mem_iff_getElem.1 hx
  obtain ⟨a, c, e, -, -⟩ := (h.2 i hi (h.1 ▸ hi)).shape
  exact ⟨a, _, c, e⟩
theorem HdRows.oneCell {w : World} {hs : List Value} {rs : List (List V)} (h : HdRows w hs rs) : ∀ x ∈ hs, x.oneCell' = true := fun x hx => by
  obtain ⟨a, n, c, rfl⟩ := h.shape x hx
  cases a <;> rfl

/-- The heads of rows that are read, with their places. -/
theorem RdRows.heads {w : World} {ao : Option Addr} {N cap : Nat} {rs : List (List V)} (h : RdRows w (.slice ao N cap) rs) :
    ∃ hs, HdRows w hs rs ∧ N = rs.length ∧ N ≤ cap ∧ cap ≤ maxLen ∧ ∀ j u, hs[j]? = some u → ∃ g off, ao = some ⟨g, off, none⟩ ∧ w.cell? ⟨g, off + j, none⟩ = some u := by
  obtain ⟨a', cap', h1, h2, h3, h4⟩ := h
  simp only [Value.slice.injEq] at h1
  obtain ⟨rfl, rfl, rfl⟩ := h1
  have key : ∀ j, (hj : j < rs.length) → ∃ v, RdVals w v rs[j] ∧ ∃ g off, ao = some ⟨g, off, none⟩ ∧ w.cell? ⟨g, off + j, none⟩ = some v := fun j hj => by
    obtain ⟨x, v, rfl, h6, h7⟩ := h4 j hj
    obtain ⟨b, o, sp⟩ := x
    have hsp : sp = none := by
      obtain ⟨x0, v0, e0, -, h70⟩ := h4 0 (by omega)
      rw [← Option.some.inj e0, add_zero] at h70
      exact World.cell?_spot h70
    subst hsp
    rw [add_at] at h7
    exact ⟨v, h6, b, o, rfl, h7⟩
  refine ⟨(List.range rs.length).map fun j => if hj : j < rs.length then (key j hj).choose else .slice none 0 0, ⟨by simp, fun i h1 h2 => ?_⟩, rfl, h2, h3, fun j u hu => ?_⟩
  · rw [List.getElem_map, List.getElem_range, dif_pos h2]
    exact (key i h2).choose_spec.1
  · obtain ⟨hj, e⟩ := List.getElem?_eq_some_iff.1 hu
    have hj' : j < rs.length := by simpa using hj
    rw [List.getElem_map, List.getElem_range, dif_pos hj'] at e
    obtain ⟨g, off, e1, e2⟩ := (key j hj').choose_spec.2
    exact ⟨g, off, e1, e ▸ e2⟩
/-- .. as a row of heads, where no address has no room. -/
theorem RdRows.headsV {w : World} {v : Value} {rs : List (List V)} (h : RdRows w v rs) (hn : ∀ cap, v = .slice none 0 cap → cap = 0) : ∃ hs, HdRows w hs rs ∧ RdV w v hs := by
  obtain ⟨ao, cap, rfl, -, -⟩ := h.shape
  obtain ⟨hs, h1, h2, h3, h4, h5⟩ := h.heads
  refine ⟨hs, h1, ?_⟩
  cases ao with
  | none =>
    have h0 : rs.length = 0 := by
      rcases Nat.eq_zero_or_pos rs.length with h0 | h0
      · exact h0
      · obtain ⟨g, off, e, -⟩ := h5 0 (hs[0]'(h1.1 ▸ h0)) (List.getElem?_eq_getElem (h1.1 ▸ h0))
        cases e
    have hnil : hs = [] := List.eq_nil_of_length_eq_zero (h1.1.trans h0)
    subst hnil
    rw [h0] at hn ⊢
    exact .inl ⟨by rw [hn cap rfl], rfl⟩
  | some x =>
    refine .inr ⟨x, cap, by rw [h1.1], by rw [h1.1]; exact h3, h4, fun i u hu => ?_⟩
    obtain ⟨g, off, e, hc⟩ := h5 i u hu
    rw [Option.some.inj e, add_at]
    exact hc

/-- A row of heads of one's own; what they head is read. -/
def AnsR (base : Nat) (w : World) (u : Value) (rs : List (List V)) : Prop := ∃ hs, w.ownsRow base 54 1 u hs.length hs ∧ HdRows w hs rs

theorem AnsR.ext {base : Nat} {w w' : World} {u : Value} {rs : List (List V)} (h : AnsR base w u rs) (hx : Ext w w') : AnsR base w' u rs := by
  obtain ⟨hs, h1, h2⟩ := h
  exact ⟨hs, owns_extS h1 hx, h2.mono hx⟩
theorem RdRows.of_heads {w : World} {u : Value} {hs : List Value} {rs : List (List V)} (h : RdV w u hs) (hh : HdRows w hs rs) : RdRows w u rs := by
  obtain ⟨a, c, e, h2, h3, h4⟩ := RdV.cellsAt h
  subst e
  refine ⟨a, c, by rw [hh.1], by rw [← hh.1]; exact h2, h3, fun j hj => ?_⟩
  obtain ⟨x, n, cc, e1, e2⟩ := hh.get j hj
  obtain ⟨g, off, rfl, e4⟩ := (RdV.plainV h).2.2.2 j _ e1
  exact ⟨_, _, rfl, e2, by rw [add_at]; exact e4⟩
theorem AnsR.rd {base : Nat} {w : World} {u : Value} {rs : List (List V)} (h : AnsR base w u rs) : RdRows w u rs := by
  obtain ⟨hs, h1, h2⟩ := h
  exact RdRows.of_heads (RdV.of_owns h1) h2
theorem empty_rows (w : World) : (w.alloc (.cells #[] 54)).ownsRow w.heap.size 54 1 (.slice (some ⟨w.heap.size, 0, none⟩) 0 0) 0 [] := World.ownsRow_made w #[] 0 (Nat.le_refl _) (by simp [maxLen]) rfl

/-- A slice of heads that reads as these rows. -/
def RdRV (w : World) (u : Value) (rs : List (List V)) : Prop := ∃ hs, RdV w u hs ∧ HdRows w hs rs
theorem RdRV.mono {w w' : World} {u : Value} {rs : List (List V)} (h : RdRV w u rs) (hb : Below w.heap.size w w') : RdRV w' u rs := by
  obtain ⟨hs, h1, h2⟩ := h
  exact ⟨hs, h1.mono hb, h2.mono hb⟩
theorem RdRV.rd {w : World} {u : Value} {rs : List (List V)} (h : RdRV w u rs) : RdRows w u rs := by
  obtain ⟨hs, h1, h2⟩ := h
  exact RdRows.of_heads h1 h2
theorem AnsR.rv {base : Nat} {w : World} {u : Value} {rs : List (List V)} (h : AnsR base w u rs) : RdRV w u rs := by
  obtain ⟨hs, h1, h2⟩ := h
  exact ⟨hs, RdV.of_owns h1, h2⟩
theorem RdRV.shape {w : World} {u : Value} {rs : List (List V)} (h : RdRV w u rs) : ∃ a cap, u = .slice a rs.length cap ∧ rs.length ≤ cap ∧ cap ≤ maxLen := h.rd.shape
/-- The first row, and the rest as a slice. -/
theorem RdRV.cut {w : World} {ao : Option Addr} {N cap : Nat} {rs : List (List V)} (h : RdRV w (.slice ao N cap) rs) (hN : 0 < N) :
    ∃ a n c g off r t a' c', rs = r :: t ∧ ao = some ⟨g, off, none⟩ ∧ w.cell? ⟨g, off, none⟩ = some (.slice a n c) ∧ RdVals w (.slice a n c) r ∧ RdRV w (.slice a' (N - 1) c') t ∧ ∀ W, (Instr.slice 22 (.slice ao N cap) (some (.int .i64 1)) none none).run Try.prog W = .ok (.slice a' (N - 1) c') W := by
  obtain ⟨hs, h1, h2⟩ := h
  obtain ⟨i1, hi1, hy0, hy1, hy2⟩ := info_parts Try.info_row
  obtain ⟨e, -, -, hat⟩ := RdV.plainV h1
  obtain ⟨a', c', k1, k2⟩ := slice_restV Try.underlying22 hi1 hy1 h1 1 (by omega)
  have hl := h2.1
  cases rs with
  | nil => simp at hl; subst hl; simp at e; omega
  | cons r t =>
    obtain ⟨x, n, c, e1, e2⟩ := h2.get 0 (by simp)
    obtain ⟨g, off, rfl, e4⟩ := hat 0 _ e1
    exact ⟨x, n, c, g, off, r, t, a', c', rfl, rfl, e4, e2, ⟨_, k1, h2.drop 1⟩, k2⟩
theorem RdRV.take {w : World} {ao : Option Addr} {N cap : Nat} {rs : List (List V)} (h : RdRV w (.slice ao N cap) rs) (K : Nat) (hK : K ≤ N) : RdRV w (.slice ao K cap) (rs.take K) := by
  obtain ⟨hs, h1, h2⟩ := h
  refine ⟨hs.take K, ?_, h2.take K⟩
  rcases h1 with ⟨e, rfl⟩ | ⟨x, c, e, h3, h4, h5⟩
  · simp only [Value.slice.injEq] at e
    obtain ⟨rfl, rfl, rfl⟩ := e
    have : K = 0 := by omega
    subst this
    exact .inl ⟨rfl, rfl⟩
  · simp only [Value.slice.injEq] at e
    obtain ⟨rfl, rfl, rfl⟩ := e
    exact RdV.takes h3 h4 h5 K K (by omega)
theorem RdRV.of_rows {w : World} {u : Value} {rs : List (List V)} (h : RdRows w u rs) (hz : ∀ n c, u = .slice none n c → n = 0 ∧ c = 0) : RdRV w u rs := by
  obtain ⟨hs, h1, h2⟩ := h.headsV fun cap e => (hz 0 cap e).2
  exact ⟨hs, h2, h1⟩

end Go.Proofs.Ytoagpaphghgkmaa

/-
  The document's own answers of layer 17: a row's bytes, why it can't be laid, all rows' bytes.
-/
namespace Go.Proofs.Ytoagpaphghgkmaa
open Go.RowKit Go.BigFrame

theorem vals_le (r : List V) : (r.flatMap encV).length ≤ 2000 * r.length := by
  induction r with
  | nil => simp
  | cons v t ih =>
    rw [List.flatMap_cons, List.length_append, List.length_cons, Nat.mul_succ]
    have := encV_le v
    omega
theorem rowB_le (r : List V) : (rowB r).length ≤ 2000 * r.length + 9 := by
  unfold rowB
  rw [List.length_append]
  have := vals_le r
  have := enc_length r.length
  omega

set_option maxRecDepth 100000 in
set_option maxHeartbeats 1000000 in
theorem refRow17_any (u : Value) (r : List V) (w : World) (hu : RdVals w u r) (hf : ∀ v ∈ r, v.fits ∧ v.s.length ≤ 5000) (hl : r.length ≤ 400) :
    Calls Try.prog 31 #[u] w (Fresh 5 w ((rowB r).map bv)) := by
  obtain ⟨ao, cap, rfl, -, -⟩ := hu.shape
  obtain ⟨-, h1, h2, hrc⟩ := hu.plain
  have HRC := Lib.hid hrc
  have HF := Lib.hid hf
  unfold maxLen at h2
  obtain ⟨N, hN⟩ : ∃ N, r.length = N := ⟨_, rfl⟩
  have HN := Lib.hid hN
  have HRB := Lib.hid (show rowB r = enc N ++ r.flatMap encV by unfold rowB; rw [hN])
  have HVL := Lib.hid (fun j => vals_le (r.take j))
  have HEL := Lib.hid (enc_length N)
  rw [hN] at h1 hl ⊢
  have HNUM := Lib.hid (refNum_any (.slice none 0 0) [] N w (.inl ⟨rfl, rfl⟩) (by simp) (by omega))
  clear hu hrc hf hN
  go_enter Try.func31, Try.ntmps31
  go_wp2_with fail
  refine HNUM.out.mono ?_
  rintro e w1 ⟨v1, rfl, ho, hb⟩
  have HO := Lib.hid ho
  have HB := Lib.hid hb
  clear ho hb
  go_wp2_with fail
  go_loopw [3, 4] (fun bv' i wr => ∃ j : Nat, j ≤ N ∧ i = .int .i64 j ∧ wr.ownsRow w.heap.size 5 1 bv' ((enc N ++ (r.take j).flatMap encV).map bv).length ((enc N ++ (r.take j).flatMap encV).map bv) ∧ Ext w wr) (fun _ i _ => N - (intOf i).toNat)
  case atStart => exact ⟨0, Nat.zero_le _, rfl, by simpa using HO.out, HB.out⟩
  case round =>
    obtain ⟨j, hj, rfl, ho, hx⟩ := hrel
    have HO2 := Lib.hid ho
    have HX := Lib.hid hx
    clear ho hx
    by_cases hlt : j < N
    · have hjl : j < r.length := by have := HN.out; omega
      obtain ⟨g, off, rfl, c0, c1, c2⟩ := HRC.out j hjl
      have x0 := (HX.out.cell (lt_of_cell c0)).trans c0
      have x1 := (HX.out.cell (lt_of_cell c1)).trans c1
      have x2 := (HX.out.cell (lt_of_cell c2)).trans c2
      have HTS := Lib.hid (List.take_succ_eq_append_getElem hjl)
      have hlj : (r.take j).length ≤ 400 := by rw [List.length_take]; omega
      have hle : (enc N ++ (r.take j).flatMap encV).length ≤ 1000000 := by
        rw [List.length_append]
        have := HVL.out j
        have := HEL.out
        have := Nat.mul_le_mul_left 2000 hlj
        omega
      have HPUT := Lib.hid (refPut_any _ (enc N ++ (r.take j).flatMap encV) r[j] wr (RdV.of_owns HO2.out) hle (HF.out r[j] (List.getElem_mem hjl)).1 (HF.out r[j] (List.getElem_mem hjl)).2)
      generalize r[j] = v at x0 x1 x2 HTS HPUT
      obtain ⟨vk, vn, vs⟩ := v
      unfold V.val at HPUT
      simp only at x0 x1 x2 HPUT
      clear c0 c1 c2 hlj hle
      go_wp2_with fail
      refine HPUT.out.mono ?_
      rintro e w3 ⟨v3, rfl, ho3, hb3⟩
      have HO3 := Lib.hid ho3
      have HX3 := Lib.hid (Ext.trans HX.out hb3)
      have HWR := Lib.hid HX.out.size
      clear ho3 hb3
      go_wp2_with fail
      go_roundw
      case rel =>
        refine ⟨j + 1, by omega, by go_num, ?_, HX3.out⟩
        rw [HTS.out, List.flatMap_append, ← List.append_assoc]
        have h := Joins.ownsRow_le HO3.out HWR.out
        simpa using h
      case measure => simp [intOf]; omega
    · have HALL := Lib.hid (show r.take j = r from List.take_of_length_le (by have := HN.out; omega))
      go_wp2_with fail
      go_ret
      refine ⟨_, rfl, ?_, HX.out⟩
      rw [HRB.out]
      have h := HO2.out
      rwa [HALL.out] at h

set_option maxRecDepth 100000 in
set_option maxHeartbeats 1000000 in
theorem refMay17_any (u : Value) (r : List V) (w : World) (hu : RdVals w u r) (hf : ∀ v ∈ r, v.fits ∧ v.s.length ≤ maxLen) :
    Calls Try.prog 44 #[u] w fun e w' => e = .returned (.int .i64 (mayR r)) ∧ Ext w w' := by
  obtain ⟨ao, cap, rfl, -, -⟩ := hu.shape
  obtain ⟨-, h1, h2, hrc⟩ := hu.plain
  have HRC := Lib.hid hrc
  have HF := Lib.hid hf
  unfold maxLen at h2
  obtain ⟨N, hN⟩ : ∃ N, r.length = N := ⟨_, rfl⟩
  have HN := Lib.hid hN
  rw [hN] at h1 ⊢
  clear hu hrc hf hN
  by_cases h32 : 32 < N
  · have HR := Lib.hid (show mayR r = 3 by unfold mayR; rw [if_pos (by have := HN.out; omega)])
    have d1 : decide (32 < N) = true := decide_eq_true h32
    have d1' : decide ((32 : Int) < (N : Int)) = true := decide_eq_true (by omega)
    go_enter Try.func44, Try.ntmps44
    go_wp2_with fail
    go_ret
    exact ⟨by rw [HR.out]; rfl, Ext.keeps.refl _⟩
  · have d1 : decide (32 < N) = false := decide_eq_false h32
    have d1' : decide ((32 : Int) < (N : Int)) = false := decide_eq_false (by omega)
    have HR := Lib.hid (show mayR r = if r.all rightV = true then 0 else 7 by unfold mayR; rw [if_neg (by have := HN.out; omega)])
    go_enter Try.func44, Try.ntmps44
    go_wp2_with fail
    go_loopw [3] (fun i wr => ∃ j : Nat, j ≤ N ∧ i = .int .i64 j ∧ (∀ q, (hq : q < r.length) → q < j → rightV r[q] = true) ∧ Ext w wr) (fun i _ => N - (intOf i).toNat)
    case atStart => exact ⟨0, Nat.zero_le _, rfl, fun q _ h => absurd h (Nat.not_lt_zero _), Ext.keeps.refl _⟩
    case round =>
      obtain ⟨j, hj, rfl, hq, hx⟩ := hrel
      have HQ := Lib.hid hq
      have HX := Lib.hid hx
      clear hq hx
      by_cases hlt : j < N
      · have hjl : j < r.length := by have := HN.out; omega
        obtain ⟨g, off, rfl, c0, c1, c2⟩ := HRC.out j hjl
        have x0 := (HX.out.cell (lt_of_cell c0)).trans c0
        have x1 := (HX.out.cell (lt_of_cell c1)).trans c1
        have x2 := (HX.out.cell (lt_of_cell c2)).trans c2
        have hfj := HF.out r[j] (List.getElem_mem hjl)
        have HRT := Lib.hid (refRight_any r[j] hfj.1 hfj.2 wr)
        have HNO := Lib.hid (show rightV r[j] = false → mayR r = 7 from fun h => by
          rw [HR.out, if_neg]
          intro h2
          rw [List.all_eq_true] at h2
          rw [h2 _ (List.getElem_mem hjl)] at h
          cases h)
        have HNX := Lib.hid (show rightV r[j] = true → ∀ q, (hq : q < r.length) → q < j + 1 → rightV r[q] = true from fun h q hq hqj => by
          by_cases e : q = j
          · subst e; exact h
          · exact HQ.out q hq (by omega))
        generalize rightV r[j] = T at HRT HNO HNX
        generalize r[j] = v at x0 x1 x2 HRT
        obtain ⟨vk, vn, vs⟩ := v
        unfold V.val at HRT
        simp only at x0 x1 x2 HRT
        clear c0 c1 c2 hfj
        go_wp2_with fail
        refine HRT.out.mono ?_
        rintro e w3 ⟨rfl, x3⟩
        have HX3 := Lib.hid (Ext.trans HX.out x3)
        clear x3
        cases T with
        | false =>
          have HNO2 := Lib.hid (HNO.out rfl)
          go_wp2_with fail
          go_ret
          exact ⟨by rw [HNO2.out]; rfl, HX3.out⟩
        | true =>
          have HNX2 := Lib.hid (HNX.out rfl)
          go_wp2_with fail
          go_roundw
          case rel => exact ⟨j + 1, by omega, by go_num, HNX2.out, HX3.out⟩
          case measure => simp [intOf]; omega
      · have HOK := Lib.hid (show mayR r = 0 by
          rw [HR.out, if_pos]
          rw [List.all_eq_true]
          intro v hv
          obtain ⟨i, hi, rfl⟩ := List.mem_iff_getElem.1 hv
          exact HQ.out i hi (by have := HN.out; omega))
        go_wp2_with fail
        go_ret
        exact ⟨by rw [HOK.out]; rfl, HX.out⟩

end Go.Proofs.Ytoagpaphghgkmaa

/-
  The document's own answers of layer 17: all rows' bytes; a page more.
-/
namespace Go.Proofs.Ytoagpaphghgkmaa
open Go.RowKit Go.BigFrame

theorem bv_oneCellS (l : List UInt8) : ∀ x ∈ l.map bv, x.oneCell' = true := fun x hx => by
  obtain ⟨b, -, rfl⟩ := List.mem_map.1 hx
  rfl
/-- Rows that the law lays: few, short, of texts of bounded length. -/
def FitB (rows : List (List V)) : Prop := rows.length ≤ 1000 ∧ ∀ r ∈ rows, r.length ≤ 400 ∧ ∀ v ∈ r, v.fits ∧ v.s.length ≤ 5000
theorem rowsB_le {rows : List (List V)} (h : ∀ r ∈ rows, r.length ≤ 400) : (rowsB rows).length ≤ 900000 * rows.length := by
  induction rows with
  | nil => simp [rowsB]
  | cons r t ih =>
    have h1 := h r (by simp)
    have h2 := ih fun q hq => h q (by simp [hq])
    have h3 := rowB_le r
    have e : rowsB (r :: t) = rowB r ++ rowsB t := rfl
    rw [e, List.length_append, List.length_cons, Nat.mul_succ]
    have := Nat.mul_le_mul_left 2000 h1
    omega

set_option maxRecDepth 100000 in
set_option maxHeartbeats 1000000 in
theorem refBytes17_any (u : Value) (rows : List (List V)) (w : World) (hu : RdRows w u rows) (hf : FitB rows) :
    Calls Try.prog 26 #[u] w (Fresh 5 w ((rowsB rows).map bv)) := by
  obtain ⟨i0, hi, hz0, hz1, hz2⟩ := info_parts Try.info5
  obtain ⟨ao, ca, rfl, -, -⟩ := hu.shape
  obtain ⟨fh, hfh, -, h1, h2, hat⟩ := hu.heads
  have HAT := Lib.hid hat
  have HFH := Lib.hid hfh
  have HF := Lib.hid hf
  unfold maxLen at h2
  obtain ⟨N, hN⟩ : ∃ N, rows.length = N := ⟨_, rfl⟩
  have HN := Lib.hid hN
  rw [hN] at h1 ⊢
  clear hu hat hfh hf hN
  go_enter Try.func26, Try.ntmps26
  go_wp2_with fail
  go_loopw [3, 4] (fun bv' i wr => ∃ j : Nat, j ≤ N ∧ i = .int .i64 j ∧ wr.ownsRow w.heap.size 5 1 bv' ((rowsB (rows.take j)).map bv).length ((rowsB (rows.take j)).map bv) ∧ Ext w wr) (fun _ i _ => N - (intOf i).toNat)
  case atStart => exact ⟨0, Nat.zero_le _, rfl, owns_nil _ _ _ _, Ext.keeps.refl _⟩
  case round =>
    obtain ⟨j, hj, rfl, ho, hx⟩ := hrel
    have HO := Lib.hid ho
    have HX := Lib.hid hx
    clear ho hx
    by_cases hlt : j < N
    · have hjl : j < rows.length := by have := HN.out; omega
      obtain ⟨a1, a2, a3, ha, hra⟩ := HFH.out.get j hjl
      obtain ⟨g, off, rfl, c0⟩ := HAT.out j _ ha
      have x0 := (HX.out.cell (lt_of_cell c0)).trans c0
      have hfj := HF.out.2 rows[j] (List.getElem_mem hjl)
      have HROW := Lib.hid (refRow17_any _ rows[j] wr (hra.mono HX.out) hfj.2 hfj.1)
      have HTS := Lib.hid (List.take_succ_eq_append_getElem hjl)
      have hle := rowsB_le (rows := rows.take j) (fun r hr => (HF.out.2 r (List.mem_of_mem_take hr)).1)
      have hl2 := rowB_le rows[j]
      have h400 := hfj.1
      have hjn : (rows.take j).length ≤ 1000 := by rw [List.length_take]; have := HF.out.1; omega
      have HLEN := Lib.hid (show ((rowsB (rows.take j)).map bv).length + ((rowB rows[j]).map bv).length ≤ 1000000000 from by
        rw [List.length_map, List.length_map]
        have := Nat.mul_le_mul_left 900000 hjn
        have := Nat.mul_le_mul_left 2000 h400
        omega)
      generalize rows[j] = r at HROW HTS HLEN
      clear ha hra c0 hfj hle hl2 h400 hjn
      go_wp2_with fail
      refine HROW.out.mono ?_
      rintro e w1 ⟨v1, rfl, ho1, hb1⟩
      have HR1 := Lib.hid (RdV.of_owns ho1)
      have HX1 := Lib.hid (show Ext wr w1 from hb1)
      have HO1 := Lib.hid (owns_extS HO.out hb1)
      have HSZ := Lib.hid (Ext.trans HX.out hb1).size
      have HONE := Lib.hid (bv_oneCellS (rowB r))
      clear ho1 hb1 HROW
      go_wp2_with (at_builtin; go_must (refine wpList_append_rd rfl (.tmp 11) (.tmp 16) 43 rfl w.heap.size 5 i0 (.int .u8 0) 1 Try.underlying43 hi hz0 hz1 hz2 rfl _ _ _ rfl HO1.out _ _ rfl HR1.out HONE.out (by have := HLEN.out; unfold maxLen; omega) (by have := HLEN.out; omega) HSZ.out ?_); intro v5 w5 h5a h5b; have HO5 := Lib.hid h5a; have HB5 := Lib.hid ((Below.refl w.heap.size w1).grown h5b HSZ.out (fun b hb => (HO1.out.lt b hb).1)); clear h5a h5b)
      have HX5 := Lib.hid (show Ext w w5 from (show Below w.heap.size w w1 from Ext.trans HX.out HX1.out).trans HB5.out)
      go_roundw
      case rel =>
        refine ⟨j + 1, by omega, by go_num, ?_, HX5.out⟩
        rw [HTS.out, rowsB_snoc, List.map_append, List.length_append]
        exact HO5.out
      case measure => simp [intOf]; omega
    · have HALL := Lib.hid (show rows.take j = rows from List.take_of_length_le (by have := HN.out; omega))
      go_wp2_with fail
      go_ret
      refine ⟨_, rfl, ?_, HX.out⟩
      have h := HO.out
      rwa [HALL.out] at h

/-- The numbers of pages, as values. -/
def ivs (ids : List Nat) : List Value := ids.map iv

set_option maxRecDepth 100000 in
set_option maxHeartbeats 2000000 in
/-- A page more, of bytes that are laid. -/
theorem refPage17_any (q g base : Nat) (s : St) (B : List UInt8) (k : Nat) (v b : Value) (w : World) (h : RSto w q g (storeK s B k)) (hk : k + usedS s ≤ s.length) (hs : s.length ≤ 4096)
    (hv : w.ownsRow base 3 1 v k (ivs (idsK s k))) (hg : g < base) (hq : q < base) (hb0 : base ≤ w.heap.size) (hb : Rd w b ((B.drop (56 * k)).take 56)) (hbg : (B.drop (56 * k)).take 56 ≠ [] → ∀ j, b.ownBlock = some j → j ≠ g) :
    Calls Try.prog 45 #[.pointer (some ⟨q, 0, none⟩), v, b] w fun e w' =>
      ((k + usedS s < s.length ∧ ∃ v', e = .returned (.tuple #[v', .int .i64 0]) ∧ w'.ownsRow base 3 1 v' (k + 1) (ivs (idsK s (k + 1))) ∧ RSto w' q g (storeK s B (k + 1)) ∧ Grew w v v') ∨
       (k + usedS s = s.length ∧ e = .returned (.tuple #[v, .int .i64 4]) ∧ w'.ownsRow base 3 1 v k (ivs (idsK s k)) ∧ RSto w' q g (storeK s B k))) ∧ OnlyS (fun j => j = g ∨ v.ownBlock = some j) w w' := by
  obtain ⟨i0, hi, hz0, hz1, hz2⟩ := info_parts Try.info_int8
  obtain ⟨va, vc, rfl, -, -⟩ := own_shape hv
  have hvg : ∀ j, (Value.slice va k vc).ownBlock = some j → j ≠ g := fun j hj => by
    have := (hv.lt j hj).1
    omega
  have HAL := Lib.hid (refAlloc_any q g (storeK s B k) 1 w h (by decide) (by decide))
  have HV := Lib.hid hv
  have HBR := Lib.hid hb
  have HBG := Lib.hid hbg
  have HVG := Lib.hid hvg
  clear h hv hb hbg hvg
  by_cases hlt : k + usedS s < s.length
  · obtain ⟨x, hids, hxl, ha, hw⟩ := storeK_step (b := B) hlt
    have HIDS := Lib.hid hids
    have HW := Lib.hid hw
    unfold Alloced at HAL
    rw [ha] at HAL
    generalize (storeK s B k).set x (some (layP x [])) = S1 at HAL HW
    clear hids ha hw
    go_enter Try.func45, Try.ntmps45
    go_wp2_with fail
    refine HAL.out.mono ?_
    rintro e w1 ⟨v1, rfl, ho1, hr1, hx1⟩
    have HO1 := Lib.hid (show w1.ownsRow w.heap.size 3 1 v1 1 [.int .i64 (x : Int)] from ho1)
    have HR1 := Lib.hid hr1
    have HX1 := Lib.hid hx1
    obtain ⟨p1, p2, rfl, hp1, hp2⟩ := own_shape ho1
    obtain ⟨gx, hgx, hcx, hgx0⟩ : ∃ gx, p1 = some ⟨gx, 0, none⟩ ∧ w1.cell? ⟨gx, 0, none⟩ = some (.int .i64 (x : Int)) ∧ w.heap.size ≤ gx := by
      rcases HO1.out.2 with ⟨-, e⟩ | ⟨g', c', cur, e, hgb, hrest⟩
      · cases e
      · simp only [Value.slice.injEq] at e
        obtain ⟨e1, -, -⟩ := e
        subst e1
        exact ⟨g', rfl, by have := HO1.out.cells (g := g') rfl 0 _ rfl; rwa [add_at] at this, hgb⟩
    subst hgx
    have HXB := Lib.hid (show Rd w1 b ((B.drop (56 * k)).take 56) from RdV.onlyS HBR.out (OnlyS.of_onlyP (X := fun j => j = g) hx1 rfl) (fun hne j hj e => HBG.out (fun e0 => hne (by rw [e0]; rfl)) j hj e))
    have HV1 := Lib.hid (owns_beside HV.out (v := .slice (some ⟨g, 0, none⟩) 0 0) (OnlyS.of_onlyP (X := fun j => (Value.slice (some ⟨g, 0, none⟩) 0 0).ownBlock = some j) hx1 rfl) (fun j hj e => HVG.out j hj (Option.some.inj e).symm))
    have HWR := Lib.hid (fun w' (hr : RSto w' q g S1) (hb : Rd w' b ((B.drop (56 * k)).take 56)) => refWrite_any q g S1 (x : Int) b ((B.drop (56 * k)).take 56) w' hr (by omega) (by omega) hb)
    rw [HW.out] at HWR
    clear ho1 hr1 hx1 hp1 hp2
    go_wp2_with fail
    refine (HWR.out w1 HR1.out HXB.out).mono ?_
    rintro e w2 ⟨rfl, hr2, hx2⟩
    have HR2 := Lib.hid hr2
    have HX2 := Lib.hid hx2
    have hne : gx ≠ g := by omega
    have cx2 : w2.cell? ⟨gx, 0, none⟩ = some (.int .i64 (x : Int)) := (OnlyS.of_onlyP (X := fun j => j = g) hx2 rfl).cell hcx hne
    have HV2 := Lib.hid (owns_beside HV1.out (v := .slice (some ⟨g, 0, none⟩) 0 0) (OnlyS.of_onlyP (X := fun j => (Value.slice (some ⟨g, 0, none⟩) 0 0).ownBlock = some j) hx2 rfl) (fun j hj e => HVG.out j hj (Option.some.inj e).symm))
    have HS12 := Lib.hid (show OnlyS (fun j => j = g) w w2 from (OnlyS.of_onlyP (X := fun j => j = g) HX1.out rfl).trans (OnlyS.of_onlyP (X := fun j => j = g) HX2.out rfl) (fun _ _ h => h))
    have HSZ := Lib.hid (Nat.le_trans hb0 HS12.out.size)
    clear hr2 hx2 hcx
    go_wp2_with (at_builtin; go_must (refine wpList_append_one rfl (.tmp 25) (.tmp 29) 32 rfl base 3 i0 (.int .i64 0) 1 8 Try.underlying32 hi hz0 hz1 hz2 rfl (by decide) (by decide) _ k _ [.int .i64 (x : Int)] rfl HV2.out rfl rfl (by simp [Value.oneCell']) (by omega) HSZ.out ?_); intro v5 w5 h5a h5b h5c h5d; have HO5 := Lib.hid h5a; have HB5 := Lib.hid h5b; have HY5 := Lib.hid h5c; have HG5 := Lib.hid h5d; clear h5a h5b h5c h5d)
    go_ret2
    refine ⟨.inl ⟨hlt, _, rfl, ?_, ?_, ?_⟩, ?_⟩
    · have e : ivs (idsK s (k + 1)) = ivs (idsK s k) ++ [.int .i64 (x : Int)] := by
        unfold ivs
        rw [HIDS.out, List.map_append]
        rfl
      rw [e]
      exact HO5.out
    · exact HR2.out.below HB5.out hq hg
    · rcases HG5.out with e | ⟨j, e, hle⟩
      · exact .inl e
      · exact .inr ⟨j, e, Nat.le_trans HS12.out.size hle⟩
    · exact (HS12.out.mono (fun j _ h => .inl h)).trans HY5.out (fun j _ h => .inr h)
  · have hful : k + usedS s = s.length := by omega
    unfold Alloced at HAL
    rw [storeK_full hful] at HAL
    clear hlt
    go_enter Try.func45, Try.ntmps45
    go_wp2_with fail
    refine HAL.out.mono ?_
    rintro e w1 ⟨v1, rfl, ho1, hr1, hx1⟩
    have HR1 := Lib.hid hr1
    have HX1 := Lib.hid hx1
    have HV1 := Lib.hid (owns_beside HV.out (v := .slice (some ⟨g, 0, none⟩) 0 0) (OnlyS.of_onlyP (X := fun j => (Value.slice (some ⟨g, 0, none⟩) 0 0).ownBlock = some j) hx1 rfl) (fun j hj e => HVG.out j hj (Option.some.inj e).symm))
    clear ho1 hr1 hx1
    go_wp2_with fail
    go_ret2
    exact ⟨.inr ⟨hful, rfl, HV1.out, HR1.out⟩, (OnlyS.of_onlyP (X := fun j => j = g) HX1.out rfl).mono (fun j _ h => .inl h)⟩

end Go.Proofs.Ytoagpaphghgkmaa

/-
  'panics' of layer 4: what a function's panic is told as.
-/
namespace Go.Proofs.Ytoagpaphghgkmaa
open Go.RowKit

theorem bool_block {w w2 : World} {b : Bool} (h : Ext (w.alloc (.cells #[.bool b] 4)) w2) : w2.heap[w.heap.size]? = some (.cells #[.bool b] 4 (0, 0)) := by
  rw [h.block w.heap.size (by simp)]
  exact heap_alloc_new w _

end Go.Proofs.Ytoagpaphghgkmaa

/-
  Assertions of a type (with two results) at a number, a text, a truth, nothing.
-/
namespace Go.Proofs.Ytoagpaphghgkmaa
open Go.RowKit Go.BigFrame

theorem as_hit (u : Value) (w : World) : (Instr.typeAssert (.iface 4 u) 20 4 true).run Try.prog w = .ok (.tuple #[u, .bool true]) w ∧
    (Instr.typeAssert (.iface 3 u) 20 3 true).run Try.prog w = .ok (.tuple #[u, .bool true]) w ∧
    (Instr.typeAssert (.iface 9 u) 20 9 true).run Try.prog w = .ok (.tuple #[u, .bool true]) w := by
  simp [Instr.typeAssert, run_underlying Try.underlying4, run_underlying Try.underlying3, run_underlying Try.underlying9]

theorem as_miss (T : TypeId) (u : Value) (w : World) : (T ≠ 4 → (Instr.typeAssert (.iface T u) 20 4 true).run Try.prog w = .ok (.tuple #[.bool false, .bool false]) w) ∧
    (T ≠ 3 → (Instr.typeAssert (.iface T u) 20 3 true).run Try.prog w = .ok (.tuple #[.int .i64 0, .bool false]) w) ∧
    (T ≠ 9 → (Instr.typeAssert (.iface T u) 20 9 true).run Try.prog w = .ok (.tuple #[.string ⟨#[]⟩, .bool false]) w) := by
  refine ⟨fun h => ?_, fun h => ?_, fun h => ?_⟩ <;>
  simp [Instr.typeAssert, run_underlying Try.underlying4, run_underlying Try.underlying3, run_underlying Try.underlying9, Try.zeroValue4, Try.zeroValue3, Try.zeroValue9, h]

theorem as_nil (w : World) : (Instr.typeAssert .nilIface 20 4 true).run Try.prog w = .ok (.tuple #[.bool false, .bool false]) w ∧
    (Instr.typeAssert .nilIface 20 3 true).run Try.prog w = .ok (.tuple #[.int .i64 0, .bool false]) w ∧
    (Instr.typeAssert .nilIface 20 9 true).run Try.prog w = .ok (.tuple #[.string ⟨#[]⟩, .bool false]) w := by
  refine ⟨?_, ?_, ?_⟩ <;>
  simp [Instr.typeAssert, run_underlying Try.underlying4, run_underlying Try.underlying3, run_underlying Try.underlying9, Try.zeroValue4, Try.zeroValue3, Try.zeroValue9]

end Go.Proofs.Ytoagpaphghgkmaa

/-
  The program's contracts of layer 4: truths, and how two values stand.
-/
namespace Go.Proofs.Ytoagpaphghgkmaa
open Go.RowKit Go.BigFrame

/-! ### Truths -/

/-! ### The order -/

theorem compareBytes_eq : ∀ (a b : List UInt8), Lib.compareBytes a b = cmpB a b
  | [], [] => rfl
  | [], _ :: _ => rfl
  | _ :: _, [] => rfl
  | x :: a, y :: b => by
    have ih := compareBytes_eq a b
    unfold Lib.compareBytes
    rw [ih]
    unfold cmpB
    rw [show Op.bytesLess (x :: a) (y :: b) = (decide (x < y) || (x == y && Op.bytesLess a b)) by simp only [Op.bytesLess]]
    by_cases hxy : x = y
    · subst hxy
      have hn : ¬ x < x := by simp
      rw [if_neg hn, if_neg hn]
      simp [hn]
    · rw [if_neg (fun h : x :: a = y :: b => hxy (List.cons.inj h).1)]
      by_cases hl : x < y
      · simp [hl]
      · have hg : y < x := by
          rcases Nat.lt_or_ge y.toNat x.toNat with h | h
          · exact h
          · exact absurd (UInt8.toNat_inj.1 (Nat.le_antisymm h (Nat.le_of_not_lt hl))) hxy
        simp [hl, hg, hxy]

end Go.Proofs.Ytoagpaphghgkmaa

/-
  The program's contracts of layer 4: Compare, Equal, Less.
-/
namespace Go.Proofs.Ytoagpaphghgkmaa
open Go.RowKit Go.BigFrame

/-- The first that is not 0. -/
def firstNZ : List Int → Int
  | [] => 0
  | x :: t => if x = 0 then firstNZ t else x

theorem cmpV_firstNZ (a b : V) : cmpV a b = firstNZ [cmpN a.k b.k, cmpN a.n b.n, cmpB a.s b.s] := by
  unfold cmpV
  simp only [firstNZ]
  by_cases hk : a.k = b.k
  · rw [if_pos hk, if_pos (cmpN_zero.2 hk)]
    by_cases hn : a.n = b.n
    · rw [if_pos hn, if_pos (cmpN_zero.2 hn)]
      split
      · assumption
      · rfl
    · rw [if_neg hn, if_neg (fun h => hn (cmpN_zero.1 h))]
  · rw [if_neg hk, if_neg (fun h => hk (cmpN_zero.1 h))]

end Go.Proofs.Ytoagpaphghgkmaa

/-
  The program's contracts of layer 4: boxes, and which values may be.
-/
namespace Go.Proofs.Ytoagpaphghgkmaa
open Go.RowKit Go.BigFrame

/-- A value in Go. -/
def rawV (v : V) : Value := if v.k = 1 then .iface 4 (.bool (decide (v.n ≠ 0))) else if v.k = 2 then .iface 3 (.int .i64 v.n) else if v.k = 3 then .iface 9 (.string ⟨v.s.toArray⟩) else .nilIface
def boxV (v : V) : Value := if rightV v = true then rawV v else .nilIface
/-- What the program boxes, whatever may be. -/
def boxedV (v : V) : Value := if v.k = 1 then .iface 4 (.bool (v.n == 1)) else if v.k = 2 then .iface 3 (.int .i64 v.n) else if v.k = 3 then .iface 9 (.string ⟨v.s.toArray⟩) else .nilIface

theorem boxed_raw (v : V) (h : rightV v = true) : boxedV v = rawV v := by
  unfold boxedV rawV
  by_cases h1 : v.k = 1
  · rw [if_pos h1, if_pos h1]
    have : v.n = 0 ∨ v.n = 1 := by rcases (rightV_iff v).1 h with h | h | h | h <;> omega
    rcases this with h | h <;> rw [h] <;> rfl
  · rw [if_neg h1, if_neg h1]

theorem pBoxed_any (v : V) (w : World) : Calls Try.prog 77 #[v.val] w fun e w' => e = .returned (boxedV v) ∧ Ext w w' := by
  obtain ⟨k, n, s⟩ := v
  unfold boxedV V.val
  simp only
  by_cases h1 : k = 1
  · subst h1
    rw [if_pos rfl]
    go_enter Try.func77, Try.ntmps77
    go_wp2_with fail
    go_ret
    exact ⟨rfl, ext_one w _⟩
  · have q1 : (k == 1) = false := beq_eq_false_iff_ne.2 h1
    rw [if_neg h1]
    clear h1
    by_cases h2 : k = 2
    · subst h2
      rw [if_pos rfl]
      go_enter Try.func77, Try.ntmps77
      go_wp2_with fail
      go_ret
      exact ⟨rfl, ext_one w _⟩
    · have q2 : (k == 2) = false := beq_eq_false_iff_ne.2 h2
      rw [if_neg h2]
      clear h2
      by_cases h3 : k = 3
      · subst h3
        rw [if_pos rfl]
        go_enter Try.func77, Try.ntmps77
        go_wp2_with fail
        go_ret
        exact ⟨rfl, ext_one w _⟩
      · have q3 : (k == 3) = false := beq_eq_false_iff_ne.2 h3
        rw [if_neg h3]
        clear h3
        go_enter Try.func77, Try.ntmps77
        go_wp2_with fail
        go_ret
        exact ⟨rfl, ext_one w _⟩

theorem pLong_text (s : List UInt8) (w : World) : Calls Try.prog 98 #[.iface 9 (.string ⟨s.toArray⟩)] w fun e w' => e = .returned (.bool (decide (1024 < (s.length : Int)))) ∧ w' = w := by
  have hA := fun w => (as_hit (.string ⟨s.toArray⟩) w).2.2
  generalize hd : decide (1024 < (s.length : Int)) = B
  go_enter Try.func98, Try.ntmps98
  go_wp2_with fail
  go_ret
  exact ⟨rfl, rfl⟩
theorem pLong_other (T : TypeId) (x : Value) (hT : T ≠ 9) (w : World) : Calls Try.prog 98 #[.iface T x] w fun e w' => e = .returned (.bool false) ∧ w' = w := by
  have hA := fun w => (as_miss T x w).2.2 hT
  clear hT
  go_enter Try.func98, Try.ntmps98
  go_wp2_with fail
  go_ret
  exact ⟨rfl, rfl⟩
theorem pLong_nil (w : World) : Calls Try.prog 98 #[.nilIface] w fun e w' => e = .returned (.bool false) ∧ w' = w := by
  have hA := fun w => (as_nil w).2.2
  go_enter Try.func98, Try.ntmps98
  go_wp2_with fail
  go_ret
  exact ⟨rfl, rfl⟩

theorem pBit_any (b : Bool) (w : World) : Calls Try.prog 111 #[.bool b] w fun e w' => e = .returned (.int .i64 (if b = true then 1 else 0)) ∧ w' = w := by
  cases b with
  | true =>
    go_enter Try.func111, Try.ntmps111
    go_wp2_with fail
    go_ret
    exact ⟨rfl, rfl⟩
  | false =>
    go_enter Try.func111, Try.ntmps111
    go_wp2_with fail
    go_ret
    exact ⟨rfl, rfl⟩

/-- A value and whether there is one. -/
def pairV (k n : Int) (s : List UInt8) (ok : Bool) : Value := .tuple #[.agg #[.int .u8 k, .int .i64 n, .string ⟨s.toArray⟩], .bool ok]

theorem pUn_nil (w : World) : Calls Try.prog 99 #[.nilIface] w fun e w' => e = .returned (pairV 0 0 [] true) ∧ Ext w w' := by
  go_enter Try.func99, Try.ntmps99
  go_wp2_with fail
  refine bodyPost_ret (v := .tuple #[.agg #[.int .u8 0, .int .i64 0, .string ⟨#[]⟩], .bool true]) (by simp [results, Try.results99, go_sem]) rfl ⟨rfl, ext_one w _⟩
theorem pUn_bool (b : Bool) (w : World) : Calls Try.prog 99 #[.iface 4 (.bool b)] w fun e w' => e = .returned (pairV 1 (if b = true then 1 else 0) [] true) ∧ Ext w w' := by
  have hA := fun w => (as_hit (.bool b) w).1
  have HB := Lib.hid (pBit_any b)
  generalize (if b = true then 1 else 0 : Int) = R at HB ⊢
  go_enter Try.func99, Try.ntmps99
  go_wp2_with fail
  refine (HB.out _).mono ?_
  rintro e w2 ⟨rfl, rfl⟩
  go_wp2_with fail
  refine bodyPost_ret (v := .tuple #[.agg #[.int .u8 1, .int .i64 R, .string ⟨#[]⟩], .bool true]) (by simp [results, Try.results99, go_sem]) rfl ⟨rfl, ext_one w _⟩
theorem pUn_int (n : Int) (w : World) : Calls Try.prog 99 #[.iface 3 (.int .i64 n)] w fun e w' => e = .returned (pairV 2 n [] true) ∧ Ext w w' := by
  have hA := fun w => (as_miss 3 (.int .i64 n) w).1 (by decide)
  have hB := fun w => (as_hit (.int .i64 n) w).2.1
  go_enter Try.func99, Try.ntmps99
  go_wp2_with fail
  refine bodyPost_ret (v := .tuple #[.agg #[.int .u8 2, .int .i64 n, .string ⟨#[]⟩], .bool true]) (by simp [results, Try.results99, go_sem]) rfl ⟨rfl, ext_one w _⟩
theorem pUn_text (s : List UInt8) (w : World) : Calls Try.prog 99 #[.iface 9 (.string ⟨s.toArray⟩)] w fun e w' => e = .returned (pairV 3 0 s true) ∧ Ext w w' := by
  have hA := fun w => (as_miss 9 (.string ⟨s.toArray⟩) w).1 (by decide)
  have hB := fun w => (as_miss 9 (.string ⟨s.toArray⟩) w).2.1 (by decide)
  have hC := fun w => (as_hit (.string ⟨s.toArray⟩) w).2.2
  go_enter Try.func99, Try.ntmps99
  go_wp2_with fail
  refine bodyPost_ret (v := .tuple #[.agg #[.int .u8 3, .int .i64 0, .string ⟨s.toArray⟩], .bool true]) (by simp [results, Try.results99, go_sem]) rfl ⟨rfl, ext_one w _⟩
theorem pUn_other (T : TypeId) (x : Value) (hT : T ≠ 4 ∧ T ≠ 3 ∧ T ≠ 9) (w : World) : Calls Try.prog 99 #[.iface T x] w fun e w' => e = .returned (pairV 0 0 [] false) ∧ Ext w w' := by
  have hA := fun w => (as_miss T x w).1 hT.1
  have hB := fun w => (as_miss T x w).2.1 hT.2.1
  have hC := fun w => (as_miss T x w).2.2 hT.2.2
  clear hT
  go_enter Try.func99, Try.ntmps99
  go_wp2_with fail
  refine bodyPost_ret (v := .tuple #[.agg #[.int .u8 0, .int .i64 0, .string ⟨#[]⟩], .bool false]) (by simp [results, Try.results99, go_sem]) rfl ⟨rfl, ext_one w _⟩

set_option maxRecDepth 100000 in
/-- Unbox, of what its two parts say. -/
theorem pUnbox_of (x : Value) (k n : Int) (s : List UInt8) (ok : Bool) (hl : ∀ w, Calls Try.prog 98 #[x] w fun e w' => e = .returned (.bool false) ∧ w' = w)
    (hu : ∀ w, Calls Try.prog 99 #[x] w fun e w' => e = .returned (pairV k n s ok) ∧ Ext w w') (w : World) :
    Calls Try.prog 76 #[x] w fun e w' => e = .returned (pairV k n s ok) ∧ Ext w w' := by
  have HL := Lib.hid hl
  have HU := Lib.hid hu
  clear hl hu
  unfold pairV at HU ⊢
  go_enter Try.func76, Try.ntmps76
  go_wp2_with fail
  refine (HL.out _).mono ?_
  rintro e w2 ⟨rfl, rfl⟩
  go_wp2_with fail
  refine (HU.out _).mono ?_
  rintro e w3 ⟨rfl, hb⟩
  have HC := Lib.hid (kept_cell (new_cell w [.int .u8 0, .int .i64 0, .string ⟨#[]⟩] 59) hb)
  have hf : ∀ j, w3.frozen? ⟨w.heap.size, j, none⟩ = false := fun j => by
    rw [frozen_ext hb (by simp)]
    unfold World.frozen?
    rw [heap_alloc_new]
    simp
  have HX := Lib.hid (Ext.trans (ext_one _ _) hb)
  have c0 := HC.out 0 _ rfl
  have c1 := HC.out 1 _ rfl
  have c2 := HC.out 2 _ rfl
  have f0 := hf 0
  have f1 := hf 1
  have f2 := hf 2
  have HS := Lib.hid (three_stored HC.out (.int .u8 k) (.int .i64 n) (.string ⟨s.toArray⟩))
  clear hb hf
  go_wp2_with fail
  have k0 := HS.out 0 _ rfl
  have k1 := HS.out 1 _ rfl
  have k2 := HS.out 2 _ rfl
  clear c0 c1 c2 f0 f1 f2
  refine bodyPost_ret (v := .tuple #[.agg #[.int .u8 k, .int .i64 n, .string ⟨s.toArray⟩], .bool ok]) (by simp [results, Try.results76, go_sem, k0, k1, k2]) rfl ⟨rfl, ?_⟩
  exact ((HX.out.setCell (p := ⟨w.heap.size, 0, none⟩) (Nat.le_refl _) _).setCell (p := ⟨w.heap.size, 1, none⟩) (Nat.le_refl _) _).setCell (p := ⟨w.heap.size, 2, none⟩) (Nat.le_refl _) _

theorem Unbox_nil (w : World) :
    Calls Try.prog 76 #[.nilIface] w fun e w' => e = .returned (.tuple #[.agg #[.int .u8 0, .int .i64 0, .string ⟨#[]⟩], .bool true]) ∧ Ext w w' := pUnbox_of _ _ _ [] _ pLong_nil pUn_nil w
theorem Unbox_bool (b : Bool) (w : World) :
    Calls Try.prog 76 #[.iface 4 (.bool b)] w fun e w' => e = .returned (.tuple #[.agg #[.int .u8 1, .int .i64 (if b = true then 1 else 0), .string ⟨#[]⟩], .bool true]) ∧ Ext w w' :=
  pUnbox_of _ _ _ [] _ (pLong_other _ _ (by decide)) (pUn_bool b) w
theorem Unbox_int (n : Int) (w : World) :
    Calls Try.prog 76 #[.iface 3 (.int .i64 n)] w fun e w' => e = .returned (.tuple #[.agg #[.int .u8 2, .int .i64 n, .string ⟨#[]⟩], .bool true]) ∧ Ext w w' :=
  pUnbox_of _ _ _ [] _ (pLong_other _ _ (by decide)) (pUn_int n) w
theorem Unbox_text (s : List UInt8) (hs : s.length ≤ 1024) (w : World) :
    Calls Try.prog 76 #[.iface 9 (.string ⟨s.toArray⟩)] w fun e w' => e = .returned (.tuple #[.agg #[.int .u8 3, .int .i64 0, .string ⟨s.toArray⟩], .bool true]) ∧ Ext w w' :=
  pUnbox_of _ _ _ s _ (by have h := pLong_text s; rw [decide_eq_false (by omega)] at h; exact h) (pUn_text s) w
theorem Unbox_long (s : List UInt8) (hs : 1024 < s.length) (hl : s.length ≤ 5000) (w : World) :
    Calls Try.prog 76 #[.iface 9 (.string ⟨s.toArray⟩)] w fun e w' => e = .returned (.tuple #[.agg #[.int .u8 0, .int .i64 0, .string ⟨#[]⟩], .bool false]) ∧ Ext w w' := by
  have HL := pLong_text s
  rw [decide_eq_true (by omega)] at HL
  replace HL := Lib.hid HL
  clear hs hl
  go_enter Try.func76, Try.ntmps76
  go_wp2_with fail
  refine (HL.out _).mono ?_
  rintro e w2 ⟨rfl, rfl⟩
  go_wp2_with fail
  refine bodyPost_ret (v := .tuple #[.agg #[.int .u8 0, .int .i64 0, .string ⟨#[]⟩], .bool false]) (by simp [results, Try.results76, go_sem]) rfl ⟨rfl, ext_one w _⟩
theorem Unbox_other (T : TypeId) (x : Value) (hT : T ≠ 4 ∧ T ≠ 3 ∧ T ≠ 9) (w : World) :
    Calls Try.prog 76 #[.iface T x] w fun e w' => e = .returned (.tuple #[.agg #[.int .u8 0, .int .i64 0, .string ⟨#[]⟩], .bool false]) ∧ Ext w w' :=
  pUnbox_of _ _ _ [] _ (pLong_other _ _ hT.2.2) (pUn_other T x hT) w

set_option maxRecDepth 100000 in
/-- Right, of what its box is unboxed to. -/
theorem pRight_of (v : V) (k n : Int) (s : List UInt8) (ok : Bool)
    (hu : ∀ w, Calls Try.prog 76 #[boxedV v] w fun e w' => e = .returned (pairV k n s ok) ∧ Ext w w') (w : World) :
    Calls Try.prog 59 #[v.val] w fun e w' => e = .returned (.bool (ok && decide ((⟨k, n, s⟩ : V) = v))) ∧ Ext w w' := by
  have HB := Lib.hid (pBoxed_any v)
  have HU := Lib.hid hu
  have hEQ := fun w => eq_val ⟨k, n, s⟩ v w
  clear hu
  unfold pairV at HU
  generalize boxedV v = X at HB HU
  generalize decide ((⟨k, n, s⟩ : V) = v) = D at hEQ ⊢
  obtain ⟨k', n', s'⟩ := v
  unfold V.val at HB hEQ ⊢
  simp only at HB hEQ ⊢
  have HE := Lib.hid hEQ
  clear hEQ
  go_enter Try.func59, Try.ntmps59
  go_wp2_with fail
  refine (HB.out _).mono ?_
  rintro e w2 ⟨rfl, hb⟩
  have HX := Lib.hid (Ext.trans (ext_one _ _) hb)
  have HC := Lib.hid (kept_cell (new_cell w [.int .u8 k', .int .i64 n', .string ⟨s'.toArray⟩] 59) hb)
  clear hb
  go_wp2_with fail
  refine (HU.out _).mono ?_
  rintro e w3 ⟨rfl, hb⟩
  have HX3 := Lib.hid (Ext.trans HX.out hb)
  have hc := kept_cell HC.out (Ext.trans hb (ext_one w3 (.cells #[.int .u8 k, .int .i64 n, .string ⟨s.toArray⟩] 59)))
  have c0 := hc 0 _ rfl
  have c1 := hc 1 _ rfl
  have c2 := hc 2 _ rfl
  have hEQ := HE.out
  clear hb hc
  cases ok with
  | true =>
    go_wp2_with fail
    go_ret
    exact ⟨rfl, Ext.trans HX3.out (ext_one _ _)⟩
  | false =>
    go_wp2_with fail
    go_ret
    exact ⟨rfl, Ext.trans HX3.out (ext_one _ _)⟩

theorem Right_any (v : V) (hv : v.fits) (hl : v.s.length ≤ 5000) (w : World) :
    Calls Try.prog 59 #[v.val] w fun e w' => e = .returned (.bool (rightV v)) ∧ Ext w w' := by
  have fin : ∀ b c : Bool, b = c → (Calls Try.prog 59 #[v.val] w fun e w' => e = .returned (.bool b) ∧ Ext w w') → (Calls Try.prog 59 #[v.val] w fun e w' => e = .returned (.bool c) ∧ Ext w w') := by
    rintro b _ rfl h
    exact h
  have hb : ∀ x, boxedV v = x → boxedV v = x := fun _ h => h
  obtain ⟨k, n, s⟩ := v
  simp only at hl
  have h0 := hv.k0
  simp only at h0
  by_cases h1 : k = 1
  · subst h1
    have e : boxedV ⟨1, n, s⟩ = .iface 4 (.bool (n == 1)) := rfl
    refine fin _ _ ?_ (pRight_of _ 1 (if (n == 1) = true then 1 else 0) [] true (by rw [e]; exact Unbox_bool _) w)
    rw [Bool.eq_iff_iff, rightV_iff]
    simp only [Bool.true_and, decide_eq_true_eq, V.mk.injEq, beq_iff_eq, true_and]
    constructor
    · rintro ⟨h, rfl⟩
      split at h <;> simp <;> omega
    · rintro (h | h | h | h)
      · omega
      · refine ⟨?_, h.2.symm⟩
        split <;> omega
      · omega
      · omega
  · by_cases h2 : k = 2
    · subst h2
      have e : boxedV ⟨2, n, s⟩ = .iface 3 (.int .i64 n) := rfl
      refine fin _ _ ?_ (pRight_of _ 2 n [] true (by rw [e]; exact Unbox_int _) w)
      rw [Bool.eq_iff_iff, rightV_iff]
      simp
    · by_cases h3 : k = 3
      · subst h3
        have e : boxedV ⟨3, n, s⟩ = .iface 9 (.string ⟨s.toArray⟩) := rfl
        by_cases hs : s.length ≤ 1024
        · refine fin _ _ ?_ (pRight_of _ 3 0 s true (by rw [e]; exact Unbox_text s hs) w)
          rw [Bool.eq_iff_iff, rightV_iff]
          simp [hs]
          exact eq_comm
        · refine fin _ _ ?_ (pRight_of _ 0 0 [] false (by rw [e]; exact Unbox_long s (by omega) hl) w)
          rw [Bool.eq_iff_iff, rightV_iff]
          simp
          omega
      · have e : boxedV ⟨k, n, s⟩ = .nilIface := by
          unfold boxedV
          simp only
          rw [if_neg h1, if_neg h2, if_neg h3]
        refine fin _ _ ?_ (pRight_of _ 0 0 [] true (by rw [e]; exact Unbox_nil) w)
        rw [Bool.eq_iff_iff, rightV_iff]
        simp [h1, h2, h3]
        constructor
        · rintro ⟨rfl, rfl, rfl⟩
          simp
        · rintro ⟨rfl, rfl, rfl⟩
          simp

/-! ### A number, a text -/

theorem must_hit (u : Value) (w : World) : (Instr.typeAssert (.iface 3 u) 20 3 false).run Try.prog w = .ok u w ∧
    (Instr.typeAssert (.iface 9 u) 20 9 false).run Try.prog w = .ok u w := by
  simp [Instr.typeAssert, run_underlying Try.underlying3, run_underlying Try.underlying9]

theorem must_miss (T : TypeId) (u : Value) (w : World) : (T ≠ 3 → ∃ t p w', (Instr.typeAssert (.iface T u) 20 3 false).run Try.prog w = .halt (.panic (.iface t p)) w' ∧ Ext w w') ∧
    (T ≠ 9 → ∃ t p w', (Instr.typeAssert (.iface T u) 20 9 false).run Try.prog w = .halt (.panic (.iface t p)) w' ∧ Ext w w') := by
  refine ⟨fun h => ?_, fun h => ?_⟩
  · simp [Instr.typeAssert, run_underlying Try.underlying3, h, runtimePanic, goPanic, elemOf, run_underlying Try.underlying15, go_sem]
    exact ⟨_, _, _, ⟨⟨rfl, rfl⟩, rfl⟩, ext_one _ _⟩
  · simp [Instr.typeAssert, run_underlying Try.underlying9, h, runtimePanic, goPanic, elemOf, run_underlying Try.underlying15, go_sem]
    exact ⟨_, _, _, ⟨⟨rfl, rfl⟩, rfl⟩, ext_one _ _⟩

theorem must_nil (w : World) : (∃ t p w', (Instr.typeAssert .nilIface 20 3 false).run Try.prog w = .halt (.panic (.iface t p)) w' ∧ Ext w w') ∧
    (∃ t p w', (Instr.typeAssert .nilIface 20 9 false).run Try.prog w = .halt (.panic (.iface t p)) w' ∧ Ext w w') := by
  refine ⟨?_, ?_⟩
  · simp [Instr.typeAssert, run_underlying Try.underlying3, runtimePanic, goPanic, elemOf, run_underlying Try.underlying15, go_sem]
    exact ⟨_, _, _, ⟨⟨rfl, rfl⟩, rfl⟩, ext_one _ _⟩
  · simp [Instr.typeAssert, run_underlying Try.underlying9, runtimePanic, goPanic, elemOf, run_underlying Try.underlying15, go_sem]
    exact ⟨_, _, _, ⟨⟨rfl, rfl⟩, rfl⟩, ext_one _ _⟩

end Go.Proofs.Ytoagpaphghgkmaa
