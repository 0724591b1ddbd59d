/-
  Texts of this proof, merged: BelowK, Apart, Beside, Answers, RowsMem, RowsOwn, RowsCopy.
-/
import Derived.BigQuiet
import Derived.Lib.AppendZeros
import Derived.RegionTactic
import Derived.ChangeAlike
import Derived.Lib.OwnKind
import Derived.Lib.SmallJoins
import Derived.Test.YtodjaggihmcllaaZ1
/-
  Blocks from a number on: as a relation that regions keep; a row cut to its first ones.
-/
namespace Go.Proofs.Ytodjaggihmcllaa
open Go.RowKit Go.BigFrame

theorem Below.keepsD (B : Nat) : Keeps (Below B) := ⟨fun _ => Below.refl _ _, fun _ _ _ h k => Below.trans h k⟩
instance (B : Nat) (w : World) : Inhabited (Later (Below B) w) := ⟨⟨w, Below.refl _ _⟩⟩
theorem owns_take {base : Nat} {e : TypeId} {w : World} {a : Option Addr} {n cap : Nat} {xs : List Value} (h : w.ownsRow base e 1 (.slice a n cap) n xs) (k : Nat) (hk : k ≤ n) : w.ownsRow base e 1 (.slice a k cap) k (xs.take k) := by
  obtain ⟨h1, h2⟩ := h
  refine ⟨by rw [List.length_take, h1]; omega, ?_⟩
  rcases h2 with ⟨h3, h4⟩ | ⟨g, c, cur, h3, h4, h5, h6, h7, h8, h9⟩
  · simp only [Value.slice.injEq] at h3
    obtain ⟨rfl, h10, rfl⟩ := h3
    have : k = 0 := by omega
    subst this
    exact .inl ⟨rfl, rfl⟩
  · simp only [Value.slice.injEq] at h3
    obtain ⟨rfl, -, rfl⟩ := h3
    refine .inr ⟨g, cap, cur, rfl, h4, h5, by omega, h7, h8, ?_⟩
    rw [← h9, List.take_take]
    congr 1
    omega
theorem ownBlock_len (a : Option Addr) (n m c : Nat) : (Value.slice a n c).ownBlock = (Value.slice a m c).ownBlock := by cases a <;> rfl
theorem empty_text (w : World) : (w.alloc (.cells #[] 9)).ownsRow w.heap.size 9 1 (.slice (some ⟨w.heap.size, 0, none⟩) 0 0) 0 [] := World.ownsRow_made w #[] 0 (Nat.le_refl _) (by simp [maxLen]) rfl

end Go.Proofs.Ytodjaggihmcllaa

/-
  append to a row of one's own: where the row lies behind it (in its own block, or in a new one). Over any program.
-/
namespace Go.Proofs.Ytodjaggihmcllaa
open Go.RowKit

theorem run_append_block {P : Program} (w : World) (base : Nat) (t ty e : TypeId) (i : TypeInfo) (z : Value) (size bytes : Nat) (ht : P.underlying t = some (.slice e)) (hi : P.info? e = some i) (hz : i.zero = some z)
    (hsize : i.size = size) (hby : i.bytes = bytes) (hzs : z.cells.size = size) (hsz : 0 < size)
    (v : Value) (n : Nat) (xs : List Value) (hown : w.ownsRow base e size v n xs)
    (a : Addr) (m c : Nat) (news : List Value) (hl : news.length = m * size) (hnews : ∀ j u, news[j]? = some u → w.cell? (a.add j) = some u) (h1 : ∀ u ∈ news, u.oneCell' = true)
    (h63 : n + m ≤ maxLen) (hbytes : (n + m) * bytes ≤ 140737488355328) (hbase : base ≤ w.heap.size) :
    ∃ v' w', (Builtin.append_ #[t, t] ty #[v, .slice (some a) m c]).run P w = .ok v' w' ∧ w'.ownsRow base e size v' (n + m) (xs ++ news) ∧ w.grownBy w' v.ownBlock ∧
      (v'.ownBlock = v.ownBlock ∨ ∃ k, v'.ownBlock = some k ∧ w.heap.size ≤ k) := by
  obtain ⟨v', w', hrun, ho, hg, hn⟩ := run_append_own w base t ty e i z size bytes ht hi hz hsize hby hzs hsz v n xs hown a m c news hl hnews h1 h63 hbytes hbase
  refine ⟨v', w', hrun, ho, hg, ?_⟩
  subst hsize
  subst hby
  have hsmall : n + m ≤ 9223372036854775807 := by simp only [maxLen] at h63; omega
  rcases hown.2 with ⟨rfl, rfl⟩ | ⟨g, cap, cur, rfl, hbg, hg', hnc, hcm, hcs, htake⟩
  · by_cases hm : m = 0
    · left
      rw [hn.2 ⟨rfl, hm⟩]
    · have hr := run_append_nil (P := P) w t ty e i z ht hi hz a m c news hl hnews (by omega) (by omega) (by have hb := hbytes; simp only [Nat.zero_add] at hb; omega)
      rw [hr] at hrun
      simp only [Result.ok.injEq] at hrun
      right
      exact ⟨_, by rw [← hrun.1]; rfl, Nat.le_refl _⟩
  · by_cases hroom : n + m ≤ cap
    · have hfit : n * i.size + news.length ≤ cur.size := by rw [hl, hcs, ← Nat.add_mul]; exact Nat.mul_le_mul_right _ hroom
      have hr := run_append_room (P := P) w t ty e i ht hi g n cap cur hg' a m c news hl hnews h1 hroom hfit
      rw [hr] at hrun
      simp only [Result.ok.injEq] at hrun
      left
      rw [← hrun.1]
      rfl
    · have holds : ∀ j u, xs[j]? = some u → w.cell? ((⟨g, 0, none⟩ : Addr).add j) = some u := hown.cells (g := g) rfl
      have hr := run_append_grow (P := P) w t ty e i z ht hi hz ⟨g, 0, none⟩ n cap xs hown.1 holds a m c news hl hnews (by omega) (by omega) (growslice_fits (by omega) hbytes)
      rw [hr] at hrun
      simp only [Result.ok.injEq] at hrun
      right
      exact ⟨_, by rw [← hrun.1]; rfl, Nat.le_refl _⟩

/-- wpList_append_own, and where the row lies then. -/
theorem wpList_append_apart {P : Program} (w : World) {ops : Array Oper} {rest : List Oper} {o : Oper} {a : Act} {Q : Exit → Act → World → Prop} (hgd : o.guard = none) (s x : Operand) (t : TypeId)
    (ho : o.op = .call { callee := .builtin .append, args := #[s, x], argTypes := #[t, t] })
    (base : Nat) (e : TypeId) (i : TypeInfo) (z : Value) (size bytes : Nat) (ht : P.underlying t = some (.slice e)) (hi : P.info? e = some i) (hz : i.zero = some z)
    (hsize : i.size = size) (hby : i.bytes = bytes) (hzs : z.cells.size = size) (hsz : 0 < size)
    (v : Value) (n : Nat) (xs : List Value) (hs : a.eval s = v) (hown : w.ownsRow base e size v n xs)
    (ad : Addr) (m c : Nat) (news : List Value) (hx : a.eval x = .slice (some ad) m c) (hl : news.length = m * size) (hnews : ∀ j u, news[j]? = some u → w.cell? (ad.add j) = some u) (h1 : ∀ u ∈ news, u.oneCell' = true)
    (h63 : n + m ≤ maxLen) (hbytes : (n + m) * bytes ≤ 140737488355328) (hbase : base ≤ w.heap.size)
    (h : ∀ v' w', w'.ownsRow base e size v' (n + m) (xs ++ news) → w.grownBy w' v.ownBlock → (v'.ownBlock = v.ownBlock ∨ ∃ k, v'.ownBlock = some k ∧ w.heap.size ≤ k) → wpList P ops Q rest (a.put o.dst v') w') : wpList P ops Q (o :: rest) a w := by
  obtain ⟨v', w', hrun, k1, k2, k3⟩ := run_append_block (P := P) w base t o.type e i z size bytes ht hi hz hsize hby hzs hsz v n xs hown ad m c news hl hnews h1 h63 hbytes hbase
  refine wpList_plain hgd fun K hK => ?_
  have hkk := hK _ _ (h v' w' k1 k2 k3)
  unfold Oper.wp
  simp [execOp, ho, resolve, invoke, builtin, hs, hx, hrun, Result.andThen]
  exact hkk

end Go.Proofs.Ytodjaggihmcllaa

/-
  Rows of the call's own that grow side by side: one element at a time. Over any program.
-/
namespace Go.Proofs.Ytodjaggihmcllaa
open Go.RowKit

/-- u lies elsewhere than v. -/
def ApartV (u v : Value) : Prop := ∀ k, u.ownBlock = some k → v.ownBlock ≠ some k
theorem ApartV.symm {u v : Value} (h : ApartV u v) : ApartV v u := fun k h1 h2 => h k h2 h1
theorem ApartV.nil (u : Value) : ApartV u (.slice none 0 0) := fun _ _ h => by cases h
theorem ApartV.nil' (u : Value) : ApartV (.slice none 0 0) u := fun _ h => by cases h
/-- Where a row lies behind an append. -/
def Grew (w : World) (v v' : Value) : Prop := v'.ownBlock = v.ownBlock ∨ ∃ k, v'.ownBlock = some k ∧ w.heap.size ≤ k
theorem ApartV.grew {w : World} {u v v' : Value} (h : ApartV u v) (hu : ∀ k, u.ownBlock = some k → k < w.heap.size) (hg : Grew w v v') : ApartV u v' := by
  intro k hk hv
  rcases hg with e | ⟨k', e, hle⟩
  · exact h k hk (e ▸ hv)
  · rw [e] at hv
    have := hu k hk
    cases hv
    omega
/-- A row beside the one that grew. -/
theorem owns_beside {base n size : Nat} {e : TypeId} {w w' : World} {u v : Value} {xs : List Value} (h : w.ownsRow base e size u n xs) (ho : OnlyS (fun k => v.ownBlock = some k) w w') (ha : ApartV u v) : w'.ownsRow base e size u n xs := by
  refine ⟨h.1, ?_⟩
  rcases h.2 with hn | ⟨g, cap, cur, rfl, hb, hgg, rest⟩
  · exact .inl hn
  · refine .inr ⟨g, cap, cur, rfl, hb, ?_, rest⟩
    rw [ho.block g (Array.getElem?_eq_some_iff.1 hgg).1 (ha g rfl)]
    exact hgg
theorem owns_extS {base n size : Nat} {e : TypeId} {w w' : World} {u : Value} {xs : List Value} (h : w.ownsRow base e size u n xs) (hx : Ext w w') : w'.ownsRow base e size u n xs :=
  h.kept (row := none) ⟨hx.os, hx.tape, hx.output, hx.size, fun k hk _ => hx.block k hk⟩ (by cases u.ownBlock <;> simp)
/-- append(l, x) of one element that the call has just put into a row of its own. -/
theorem wpList_append_one {P : Program} {w : World} {ops : Array Oper} {rest : List Oper} {o : Oper} {a : Act} {Q : Exit → Act → World → Prop} (hgd : o.guard = none) (s x : Operand) (t : TypeId)
    (ho : o.op = .call { callee := .builtin .append, args := #[s, x], argTypes := #[t, t] })
    (base : Nat) (e : TypeId) (i : TypeInfo) (z : Value) (size bytes : Nat) (ht : P.underlying t = some (.slice e)) (hi : P.info? e = some i) (hz : i.zero = some z)
    (hsize : i.size = size) (hby : i.bytes = bytes) (hzs : z.cells.size = size) (hsz : 0 < size) (hb100 : bytes ≤ 1000)
    (v : Value) (n : Nat) (xs ys : List Value) (hs : a.eval s = v) (hown : w.ownsRow base e size v n xs) (hx : a.eval x = .slice (some ⟨w.heap.size, 0, none⟩) 1 1) (hl : ys.length = size) (h1 : ∀ u ∈ ys, u.oneCell' = true)
    (hn : n ≤ 10000000) (hbase : base ≤ w.heap.size)
    (h : ∀ v' w', w'.ownsRow base e size v' (n + 1) (xs ++ ys) → Below base w w' → OnlyS (fun k => v.ownBlock = some k) w w' → Grew w v v' → wpList P ops Q rest (a.put o.dst v') w') :
    wpList P ops Q (o :: rest) a (w.alloc (.cells ys.toArray e)) := by
  have hm : (n + 1) * bytes ≤ 140737488355328 := Nat.le_trans (Nat.mul_le_mul (show n + 1 ≤ 10000001 by omega) hb100) (by decide)
  refine wpList_append_apart _ hgd s x t ho base e i z size bytes ht hi hz hsize hby hzs hsz v n xs hs ?_ ⟨w.heap.size, 0, none⟩ 1 1 ys hx (by omega) (row_new w ys e) h1 (by unfold maxLen; omega) hm (by simp; omega) fun v' w' k1 k2 k3 => h v' w' k1 ?_ ?_ ?_
  · exact owns_extS hown (ext_new w _)
  · exact (((Below.refl base w).alloc hbase _).grown k2 (by simp; omega) (fun b hb => (hown.lt b hb).1))
  · exact (OnlyS.of_ext (ext_new w _)).trans (OnlyS.of_grown k2) (fun _ _ h => h)
  · rcases k3 with e | ⟨k, e, hle⟩
    · exact .inl e
    · refine .inr ⟨k, e, ?_⟩
      simp only [World.alloc, Array.size_push] at hle
      omega

end Go.Proofs.Ytodjaggihmcllaa

/-
  What a call answers: bytes, numbers, and an error; a row of the call's own.
-/
namespace Go.Proofs.Ytodjaggihmcllaa
open Go.ChangeAt Go.RowKit

theorem Try.info_int8 : (Try.prog.info? 3).map (fun i => (i.zero, i.size, i.bytes)) = some (some (.int .i64 0), 1, 8) := by kernel_rfl
theorem own_shapeP {base : Nat} {e : TypeId} {w : World} {v : Value} {n : Nat} {xs : List Value} (h : w.ownsRow base e 1 v n xs) : ∃ a cap, v = .slice a n cap ∧ n ≤ cap ∧ cap ≤ maxLen := by
  rcases h.2 with ⟨rfl, rfl⟩ | ⟨g, cap, cur, rfl, h2, h3, h4, h5, _⟩
  · exact ⟨none, 0, rfl, Nat.le_refl _, by simp [maxLen]⟩
  · exact ⟨_, cap, rfl, h4, h5⟩
/-- A call answers these bytes, of its own, and this error. -/
def AnsB (w : World) (r : List UInt8 × Int) (e : Ending) (w' : World) : Prop := ∃ v, e = .returned (.tuple #[v, .int .i64 r.2]) ∧ w'.ownsRow w.heap.size 5 1 v r.1.length (r.1.map bv) ∧ Ext w w'
/-- A call answers these numbers, of its own, and this error. -/
def AnsI (w : World) (r : List Int × Int) (e : Ending) (w' : World) : Prop := ∃ v, e = .returned (.tuple #[v, .int .i64 r.2]) ∧ w'.ownsRow w.heap.size 3 1 v r.1.length (r.1.map (Value.int .i64)) ∧ Ext w w'

theorem owns_nil (w : World) (base : Nat) (e : TypeId) (size : Nat) : w.ownsRow base e size (.slice none 0 0) 0 [] := ⟨by simp, .inl ⟨rfl, rfl⟩⟩
theorem owns_base {base base' : Nat} {e : TypeId} {size : Nat} {w : World} {v : Value} {n : Nat} {xs : List Value} (h : w.ownsRow base e size v n xs) (hb : base' ≤ base) : w.ownsRow base' e size v n xs :=
  ⟨h.1, h.2.imp id fun ⟨g, cap, cur, h1, h2, h3⟩ => ⟨g, cap, cur, h1, Nat.le_trans hb h2, h3⟩⟩
theorem owns_ext {base : Nat} {e : TypeId} {w w' : World} {v : Value} {n : Nat} {xs : List Value} (h : w.ownsRow base e 1 v n xs) (hb : Ext w w') : w'.ownsRow base e 1 v n xs := owns_later h hb

end Go.Proofs.Ytodjaggihmcllaa

/-
  Rows of rows of values in memory: the heads of rows, a row of heads of one's own.
-/
namespace Go.Proofs.Ytodjaggihmcllaa
open Go.RowKit Go.BigFrame

theorem Try.info_row : (Try.prog.info? 26).map (fun i => (i.zero, i.size, i.bytes)) = some (some (.slice none 0 0), 1, 24) := by kernel_rfl

/-- These slices read as these rows. -/
def HdRows (w : World) (hs : List Value) (rs : List (List V)) : Prop := hs.length = rs.length ∧ ∀ i, (h : i < hs.length) → (h' : i < rs.length) → RdVals w hs[i] rs[i]

theorem HdRows.nil (w : World) : HdRows w [] [] := ⟨rfl, fun _ h => absurd h (Nat.not_lt_zero _)⟩
theorem HdRows.mono {w w' : World} {hs : List Value} {rs : List (List V)} (h : HdRows w hs rs) (hb : Below w.heap.size w w') : HdRows w' hs rs := ⟨h.1, fun i h1 h2 => (h.2 i h1 h2).mono hb⟩
theorem HdRows.append {w : World} {hs hs' : List Value} {rs rs' : List (List V)} (h : HdRows w hs rs) (h' : HdRows w hs' rs') : HdRows w (hs ++ hs') (rs ++ rs') := by
  refine ⟨by rw [List.length_append, List.length_append, h.1, h'.1], fun i h1 h2 => ?_⟩
  rw [List.length_append] at h1 h2
  by_cases hi : i < hs.length
  · rw [List.getElem_append_left hi, List.getElem_append_left (h.1 ▸ hi)]
    exact h.2 i hi (h.1 ▸ hi)
  · have e := h.1
    rw [List.getElem_append_right (by omega), List.getElem_append_right (by omega)]
    have k := h'.2 (i - hs.length) (by omega) (by omega)
    simp only [e] at k ⊢
    exact k
theorem HdRows.take {w : World} {hs : List Value} {rs : List (List V)} (h : HdRows w hs rs) (n : Nat) : HdRows w (hs.take n) (rs.take n) := by
  refine ⟨by rw [List.length_take, List.length_take, h.1], fun i h1 h2 => ?_⟩
  rw [List.length_take] at h1 h2
  rw [List.getElem_take, List.getElem_take]
  exact h.2 i (by omega) (by omega)
theorem HdRows.drop {w : World} {hs : List Value} {rs : List (List V)} (h : HdRows w hs rs) (n : Nat) : HdRows w (hs.drop n) (rs.drop n) := by
  refine ⟨by rw [List.length_drop, List.length_drop, h.1], fun i h1 h2 => ?_⟩
  rw [List.length_drop] at h1 h2
  rw [List.getElem_drop, List.getElem_drop]
  exact h.2 (n + i) (by omega) (by omega)
theorem HdRows.one {w : World} {v : Value} {r : List V} (h : RdVals w v r) : HdRows w [v] [r] := ⟨rfl, fun i h1 _ => by
  have : i = 0 := by simpa using h1
  subst this
  exact h⟩
theorem HdRows.get {w : World} {hs : List Value} {rs : List (List V)} (h : HdRows w hs rs) (i : Nat) (hi : i < rs.length) : ∃ a n c, hs[i]? = some (Value.slice a n c) ∧ RdVals w (.slice a n c) rs[i] := by
  have h1 := h.2 i (h.1 ▸ hi) hi
  obtain ⟨a, c, e, -, -⟩ := h1.shape
  exact ⟨a, _, c, by rw [List.getElem?_eq_getElem (h.1 ▸ hi), e], e ▸ h1⟩
theorem HdRows.shape {w : World} {hs : List Value} {rs : List (List V)} (h : HdRows w hs rs) : ∀ x ∈ hs, ∃ a n c, x = Value.slice a n c := fun x hx => by
  obtain ⟨i, hi, rfl⟩ := List.mem_iff_getElem.1 hx
  obtain ⟨a, c, e, -, -⟩ := (h.2 i hi (h.1 ▸ hi)).shape
  exact ⟨a, _, c, e⟩
theorem HdRows.oneCell {w : World} {hs : List Value} {rs : List (List V)} (h : HdRows w hs rs) : ∀ x ∈ hs, x.oneCell' = true := fun x hx => by
  obtain ⟨a, n, c, rfl⟩ := h.shape x hx
  cases a <;> rfl

/-- The heads of rows that are read, with their places. -/
theorem RdRows.heads {w : World} {ao : Option Addr} {N cap : Nat} {rs : List (List V)} (h : RdRows w (.slice ao N cap) rs) :
    ∃ hs, HdRows w hs rs ∧ N = rs.length ∧ N ≤ cap ∧ cap ≤ maxLen ∧ ∀ j u, hs[j]? = some u → ∃ g off, ao = some ⟨g, off, none⟩ ∧ w.cell? ⟨g, off + j, none⟩ = some u := by
  obtain ⟨a', cap', h1, h2, h3, h4⟩ := h
  simp only [Value.slice.injEq] at h1
  obtain ⟨rfl, rfl, rfl⟩ := h1
  have key : ∀ j, (hj : j < rs.length) → ∃ v, RdVals w v rs[j] ∧ ∃ g off, ao = some ⟨g, off, none⟩ ∧ w.cell? ⟨g, off + j, none⟩ = some v := fun j hj => by
    obtain ⟨x, v, rfl, h6, h7⟩ := h4 j hj
    obtain ⟨b, o, sp⟩ := x
    have hsp : sp = none := by
      obtain ⟨x0, v0, e0, -, h70⟩ := h4 0 (by omega)
      rw [← Option.some.inj e0, add_zero] at h70
      exact World.cell?_spot h70
    subst hsp
    rw [add_at] at h7
    exact ⟨v, h6, b, o, rfl, h7⟩
  refine ⟨(List.range rs.length).map fun j => if hj : j < rs.length then (key j hj).choose else .slice none 0 0, ⟨by simp, fun i h1 h2 => ?_⟩, rfl, h2, h3, fun j u hu => ?_⟩
  · rw [List.getElem_map, List.getElem_range, dif_pos h2]
    exact (key i h2).choose_spec.1
  · obtain ⟨hj, e⟩ := List.getElem?_eq_some_iff.1 hu
    have hj' : j < rs.length := by simpa using hj
    rw [List.getElem_map, List.getElem_range, dif_pos hj'] at e
    obtain ⟨g, off, e1, e2⟩ := (key j hj').choose_spec.2
    exact ⟨g, off, e1, e ▸ e2⟩
/-- .. as a row of heads, where no address has no room. -/
theorem RdRows.headsV {w : World} {v : Value} {rs : List (List V)} (h : RdRows w v rs) (hn : ∀ cap, v = .slice none 0 cap → cap = 0) : ∃ hs, HdRows w hs rs ∧ RdV w v hs := by
  obtain ⟨ao, cap, rfl, -, -⟩ := h.shape
  obtain ⟨hs, h1, h2, h3, h4, h5⟩ := h.heads
  refine ⟨hs, h1, ?_⟩
  cases ao with
  | none =>
    have h0 : rs.length = 0 := by
      rcases Nat.eq_zero_or_pos rs.length with h0 | h0
      · exact h0
      · obtain ⟨g, off, e, -⟩ := h5 0 (hs[0]'(h1.1 ▸ h0)) (List.getElem?_eq_getElem (h1.1 ▸ h0))
        cases e
    have hnil : hs = [] := List.eq_nil_of_length_eq_zero (h1.1.trans h0)
    subst hnil
    rw [h0] at hn ⊢
    exact .inl ⟨by rw [hn cap rfl], rfl⟩
  | some x =>
    refine .inr ⟨x, cap, by rw [h1.1], by rw [h1.1]; exact h3, h4, fun i u hu => ?_⟩
    obtain ⟨g, off, e, hc⟩ := h5 i u hu
    rw [Option.some.inj e, add_at]
    exact hc

/-- A row of heads of one's own; what they head is read. -/
def AnsR (base : Nat) (w : World) (u : Value) (rs : List (List V)) : Prop := ∃ hs, w.ownsRow base 26 1 u hs.length hs ∧ HdRows w hs rs

theorem AnsR.ext {base : Nat} {w w' : World} {u : Value} {rs : List (List V)} (h : AnsR base w u rs) (hx : Ext w w') : AnsR base w' u rs := by
  obtain ⟨hs, h1, h2⟩ := h
  exact ⟨hs, owns_extS h1 hx, h2.mono hx⟩
theorem RdRows.of_heads {w : World} {u : Value} {hs : List Value} {rs : List (List V)} (h : RdV w u hs) (hh : HdRows w hs rs) : RdRows w u rs := by
  obtain ⟨a, c, e, h2, h3, h4⟩ := RdV.cellsAt h
  subst e
  refine ⟨a, c, by rw [hh.1], by rw [← hh.1]; exact h2, h3, fun j hj => ?_⟩
  obtain ⟨x, n, cc, e1, e2⟩ := hh.get j hj
  obtain ⟨g, off, rfl, e4⟩ := (RdV.plainV h).2.2.2 j _ e1
  exact ⟨_, _, rfl, e2, by rw [add_at]; exact e4⟩
theorem AnsR.rd {base : Nat} {w : World} {u : Value} {rs : List (List V)} (h : AnsR base w u rs) : RdRows w u rs := by
  obtain ⟨hs, h1, h2⟩ := h
  exact RdRows.of_heads (RdV.of_owns h1) h2
theorem empty_rows (w : World) : (w.alloc (.cells #[] 26)).ownsRow w.heap.size 26 1 (.slice (some ⟨w.heap.size, 0, none⟩) 0 0) 0 [] := World.ownsRow_made w #[] 0 (Nat.le_refl _) (by simp [maxLen]) rfl

/-- A slice of heads that reads as these rows. -/
def RdRV (w : World) (u : Value) (rs : List (List V)) : Prop := ∃ hs, RdV w u hs ∧ HdRows w hs rs
theorem RdRV.mono {w w' : World} {u : Value} {rs : List (List V)} (h : RdRV w u rs) (hb : Below w.heap.size w w') : RdRV w' u rs := by
  obtain ⟨hs, h1, h2⟩ := h
  exact ⟨hs, h1.mono hb, h2.mono hb⟩
theorem RdRV.rd {w : World} {u : Value} {rs : List (List V)} (h : RdRV w u rs) : RdRows w u rs := by
  obtain ⟨hs, h1, h2⟩ := h
  exact RdRows.of_heads h1 h2
theorem AnsR.rv {base : Nat} {w : World} {u : Value} {rs : List (List V)} (h : AnsR base w u rs) : RdRV w u rs := by
  obtain ⟨hs, h1, h2⟩ := h
  exact ⟨hs, RdV.of_owns h1, h2⟩
theorem RdRV.shape {w : World} {u : Value} {rs : List (List V)} (h : RdRV w u rs) : ∃ a cap, u = .slice a rs.length cap ∧ rs.length ≤ cap ∧ cap ≤ maxLen := h.rd.shape
/-- The first row, and the rest as a slice. -/
theorem RdRV.cut {w : World} {ao : Option Addr} {N cap : Nat} {rs : List (List V)} (h : RdRV w (.slice ao N cap) rs) (hN : 0 < N) :
    ∃ a n c g off r t a' c', rs = r :: t ∧ ao = some ⟨g, off, none⟩ ∧ w.cell? ⟨g, off, none⟩ = some (.slice a n c) ∧ RdVals w (.slice a n c) r ∧ RdRV w (.slice a' (N - 1) c') t ∧ ∀ W, (Instr.slice 22 (.slice ao N cap) (some (.int .i64 1)) none none).run Try.prog W = .ok (.slice a' (N - 1) c') W := by
  obtain ⟨hs, h1, h2⟩ := h
  obtain ⟨i1, hi1, hy0, hy1, hy2⟩ := info_parts Try.info_row
  obtain ⟨e, -, -, hat⟩ := RdV.plainV h1
  obtain ⟨a', c', k1, k2⟩ := slice_restV Try.underlying22 hi1 hy1 h1 1 (by omega)
  have hl := h2.1
  cases rs with
  | nil => simp at hl; subst hl; simp at e; omega
  | cons r t =>
    obtain ⟨x, n, c, e1, e2⟩ := h2.get 0 (by simp)
    obtain ⟨g, off, rfl, e4⟩ := hat 0 _ e1
    exact ⟨x, n, c, g, off, r, t, a', c', rfl, rfl, e4, e2, ⟨_, k1, h2.drop 1⟩, k2⟩
theorem RdRV.take {w : World} {ao : Option Addr} {N cap : Nat} {rs : List (List V)} (h : RdRV w (.slice ao N cap) rs) (K : Nat) (hK : K ≤ N) : RdRV w (.slice ao K cap) (rs.take K) := by
  obtain ⟨hs, h1, h2⟩ := h
  refine ⟨hs.take K, ?_, h2.take K⟩
  rcases h1 with ⟨e, rfl⟩ | ⟨x, c, e, h3, h4, h5⟩
  · simp only [Value.slice.injEq] at e
    obtain ⟨rfl, rfl, rfl⟩ := e
    have : K = 0 := by omega
    subst this
    exact .inl ⟨rfl, rfl⟩
  · simp only [Value.slice.injEq] at e
    obtain ⟨rfl, rfl, rfl⟩ := e
    exact RdV.takes h3 h4 h5 K K (by omega)
theorem RdRV.of_rows {w : World} {u : Value} {rs : List (List V)} (h : RdRows w u rs) (hz : ∀ n c, u = .slice none n c → n = 0 ∧ c = 0) : RdRV w u rs := by
  obtain ⟨hs, h1, h2⟩ := h.headsV fun cap e => (hz 0 cap e).2
  exact ⟨hs, h2, h1⟩

end Go.Proofs.Ytodjaggihmcllaa

/-
  Rows of rows of values in memory of one's own: the heads, and what they head.
-/
namespace Go.Proofs.Ytodjaggihmcllaa
open Go.RowKit Go.BigFrame

/-- These slices are rows of one's own. -/
def OwnRows (base : Nat) (w : World) (hs : List Value) (rs : List (List V)) : Prop :=
  hs.length = rs.length ∧ ∀ i, (h : i < hs.length) → (h' : i < rs.length) → w.ownsRow base 38 3 hs[i] rs[i].length (rs[i].flatMap V.cells)

theorem OwnRows.nil (base : Nat) (w : World) : OwnRows base w [] [] := ⟨rfl, fun _ h => absurd h (Nat.not_lt_zero _)⟩
theorem OwnRows.rd {base : Nat} {w : World} {hs : List Value} {rs : List (List V)} (h : OwnRows base w hs rs) : HdRows w hs rs := ⟨h.1, fun i h1 h2 => RdVals.of_owns (h.2 i h1 h2)⟩
theorem OwnRows.ext {base : Nat} {w w' : World} {hs : List Value} {rs : List (List V)} (h : OwnRows base w hs rs) (hx : Ext w w') : OwnRows base w' hs rs := ⟨h.1, fun i h1 h2 => owns_extS (h.2 i h1 h2) hx⟩
theorem OwnRows.base_le {base base' : Nat} {w : World} {hs : List Value} {rs : List (List V)} (h : OwnRows base w hs rs) (hb : base' ≤ base) : OwnRows base' w hs rs := ⟨h.1, fun i h1 h2 => Joins.ownsRow_le (h.2 i h1 h2) hb⟩
theorem OwnRows.append {base : Nat} {w : World} {hs hs' : List Value} {rs rs' : List (List V)} (h : OwnRows base w hs rs) (h' : OwnRows base w hs' rs') : OwnRows base w (hs ++ hs') (rs ++ rs') := by
  refine ⟨by rw [List.length_append, List.length_append, h.1, h'.1], fun i h1 h2 => ?_⟩
  rw [List.length_append] at h1 h2
  by_cases hi : i < hs.length
  · have e1 : (hs ++ hs')[i] = hs[i] := List.getElem_append_left hi
    have e2 : (rs ++ rs')[i] = rs[i]'(h.1 ▸ hi) := List.getElem_append_left (h.1 ▸ hi)
    rw [e1, e2]
    exact h.2 i hi (h.1 ▸ hi)
  · have e := h.1
    have e1 : (hs ++ hs')[i] = hs'[i - hs.length]'(by omega) := List.getElem_append_right (by omega)
    have e2 : (rs ++ rs')[i] = rs'[i - rs.length]'(by omega) := List.getElem_append_right (by omega)
    rw [e1, e2]
    have k := h'.2 (i - hs.length) (by omega) (by omega)
    simp only [e] at k ⊢
    exact k
theorem OwnRows.one {base : Nat} {w : World} {v : Value} {r : List V} (h : w.ownsRow base 38 3 v r.length (r.flatMap V.cells)) : OwnRows base w [v] [r] := ⟨rfl, fun i h1 _ => by
  have : i = 0 := by simpa using h1
  subst this
  exact h⟩
/-- A row of heads changes: what they head stays. -/
theorem rows_apart {base base' size n n' : Nat} {w : World} {u v : Value} {xs ys : List Value} (h : w.ownsRow base 38 size u n xs) (h' : w.ownsRow base' 26 1 v n' ys) : ApartV u v := fun k h1 h2 => by
  obtain ⟨c, fz, e1⟩ := Lib.ownsRow_kind h k h1
  obtain ⟨c', fz', e2⟩ := Lib.ownsRow_kind h' k h2
  rw [e1] at e2
  injection e2 with e3
  injection e3 with e4 e5
  exact absurd e5 (by decide)
theorem OwnRows.beside {base base' n : Nat} {w w' : World} {v : Value} {ys hs : List Value} {rs : List (List V)} (h : OwnRows base w hs rs) (ho : w.ownsRow base' 26 1 v n ys) (hw : OnlyS (fun k => v.ownBlock = some k) w w') : OwnRows base w' hs rs :=
  ⟨h.1, fun i h1 h2 => owns_beside (h.2 i h1 h2) hw (rows_apart (h.2 i h1 h2) ho)⟩

/-- Rows in memory of one's own. -/
def AnsRR (base : Nat) (w : World) (u : Value) (rs : List (List V)) : Prop := ∃ hs, w.ownsRow base 26 1 u hs.length hs ∧ OwnRows base w hs rs
theorem AnsRR.ans {base : Nat} {w : World} {u : Value} {rs : List (List V)} (h : AnsRR base w u rs) : AnsR base w u rs := by
  obtain ⟨hs, h1, h2⟩ := h
  exact ⟨hs, h1, h2.rd⟩
theorem AnsRR.ext {base : Nat} {w w' : World} {u : Value} {rs : List (List V)} (h : AnsRR base w u rs) (hx : Ext w w') : AnsRR base w' u rs := by
  obtain ⟨hs, h1, h2⟩ := h
  exact ⟨hs, owns_extS h1 hx, h2.ext hx⟩

theorem run_append_noneC {P : Program} {w : World} (base : Nat) (t ty e : TypeId) (i : TypeInfo) (size c : Nat) (ht : P.underlying t = some (.slice e)) (hi : P.info? e = some i)
    (v : Value) (n : Nat) (xs : List Value) (hown : w.ownsRow base e size v n xs) :
    (Builtin.append_ #[t, t] ty #[v, .slice none 0 c]).run P w = .ok v w := by
  rcases hown.2 with ⟨rfl, rfl⟩ | ⟨g, cap, cur, rfl, _, _, hnc, _⟩
  · simp [Builtin.append_, run_underlying ht, sizeOf, typeInfo, hi, Builtin.lenOf, Builtin.firstCells]
  · simp [Builtin.append_, run_underlying ht, sizeOf, typeInfo, hi, Builtin.lenOf, Builtin.firstCells, hnc, storeCells]
/-- append(l, r...) of a row of values to one of the call's own. -/
theorem wpList_append_vals {ops : Array Oper} {rest : List Oper} {o : Oper} {a : Act} {Q : Exit → Act → World → Prop} {w : World} (hgd : o.guard = none) (s x : Operand) (t : TypeId)
    (ho : o.op = .call { callee := .builtin .append, args := #[s, x], argTypes := #[t, t] }) (ht : Try.prog.underlying t = some (.slice 38))
    (base : Nat) (v : Value) (ps : List V) (u : Value) (r : List V) (hs : a.eval s = v) (hown : w.ownsRow base 38 3 v ps.length (ps.flatMap V.cells))
    (hx : a.eval x = u) (hu : RdVals w u r) (hp : ps.length + r.length ≤ 100000000) (hbase : base ≤ w.heap.size)
    (h : ∀ v' w', w'.ownsRow base 38 3 v' (ps ++ r).length ((ps ++ r).flatMap V.cells) → Below base w w' → OnlyS (fun k => v.ownBlock = some k) w w' → wpList Try.prog ops Q rest (a.put o.dst v') w') :
    wpList Try.prog ops Q (o :: rest) a w := by
  obtain ⟨i0, hi, hz0, hz1, hz2⟩ := info_parts Try.info_val
  obtain ⟨ao, c, rfl, hlen, hcap, hat⟩ := hu
  have key : ∀ ad : Addr, ao = some ad → ∀ j y, (r.flatMap V.cells)[j]? = some y → w.cell? (ad.add j) = some y := fun ad e j y hj => by
    have hjl : j < r.length * 3 := by
      have := (List.getElem?_eq_some_iff.1 hj).1
      rwa [valCells_length] at this
    obtain ⟨q, m, hq, hm⟩ : ∃ q m, j = q * 3 + m ∧ m < 3 := ⟨j / 3, j % 3, by omega, by omega⟩
    subst hq
    have hql : q < r.length := by omega
    obtain ⟨g, off, e2, hc⟩ := hat q hql
    rw [e] at e2
    rw [Option.some.inj e2, add_at, ← Nat.add_assoc]
    exact hc m y ((valCells r q hql m hm).symm.trans hj)
  have hone : ∀ y ∈ r.flatMap V.cells, y.oneCell' = true := fun y hy => by
    obtain ⟨e, -, he⟩ := List.mem_flatMap.1 hy
    exact val_oneCell e y he
  cases ao with
  | none =>
    have hr : r = [] := by
      cases r with
      | nil => rfl
      | cons b t => obtain ⟨g, off, e, -⟩ := hat 0 (by simp); cases e
    subst hr
    refine wpList_plain hgd fun K hK => ?_
    have hrun := run_append_noneC (P := Try.prog) (w := w) base t o.type 38 i0 3 c ht hi v _ _ hown
    unfold Oper.wp
    simp [execOp, ho, resolve, invoke, builtin, hs, hx, hrun, Result.andThen]
    exact hK _ _ (h v w (by simpa using hown) (Below.refl _ _) (OnlyS.refl _ _))
  | some ad =>
    refine wpList_append_own _ hgd s x t ho base 38 i0 _ 3 32 ht hi hz0 hz1 hz2 rfl (by decide) v ps.length _ hs hown ad r.length c (r.flatMap V.cells) hx (valCells_length r) (key ad rfl) hone (by unfold maxLen; omega) (by omega) hbase fun v' w' h1 h2 _ => h v' w' ?_ ?_ ?_
    · rw [List.length_append, List.flatMap_append]
      exact h1
    · exact (Below.refl base w).grown h2 hbase (fun b hb => (hown.lt b hb).1)
    · exact OnlyS.of_grown h2
theorem empty_vals (w : World) : (w.alloc (.cells #[] 38)).ownsRow w.heap.size 38 3 (.slice (some ⟨w.heap.size, 0, none⟩) 0 0) ([] : List V).length (([] : List V).flatMap V.cells) := World.ownsRow_made w #[] 0 (Nat.le_refl _) (by simp [maxLen]) rfl

theorem owns3_shape {base : Nat} {e : TypeId} {w : World} {v : Value} {n : Nat} {xs : List Value} (h : w.ownsRow base e 3 v n xs) : ∃ a cap, v = .slice a n cap := by
  rcases h.2 with ⟨rfl, rfl⟩ | ⟨g, cap, cur, rfl, _⟩
  · exact ⟨none, 0, rfl⟩
  · exact ⟨_, cap, rfl⟩

end Go.Proofs.Ytodjaggihmcllaa

/-
  Rows that a call has copied: in memory of its own, but for slices of nothing, which may point anywhere.
-/
namespace Go.Proofs.Ytodjaggihmcllaa
open Go.RowKit Go.BigFrame

/-- A row of values of one's own, or a slice of none. -/
def OwnV (base : Nat) (w : World) (v : Value) (r : List V) : Prop := w.ownsRow base 38 3 v r.length (r.flatMap V.cells) ∨ (r = [] ∧ ∃ ao c, v = .slice ao 0 c ∧ c ≤ maxLen)
theorem OwnV.rd {base : Nat} {w : World} {v : Value} {r : List V} (h : OwnV base w v r) : RdVals w v r := by
  rcases h with h | ⟨rfl, ao, c, rfl, hc⟩
  · exact RdVals.of_owns h
  · exact ⟨ao, c, rfl, Nat.zero_le _, hc, fun j hj => absurd hj (Nat.not_lt_zero _)⟩
theorem OwnV.ext {base : Nat} {w w' : World} {v : Value} {r : List V} (h : OwnV base w v r) (hx : Ext w w') : OwnV base w' v r := by
  rcases h with h | h
  · exact .inl (owns_extS h hx)
  · exact .inr h
theorem OwnV.base_le {base base' : Nat} {w : World} {v : Value} {r : List V} (h : OwnV base w v r) (hb : base' ≤ base) : OwnV base' w v r := by
  rcases h with h | h
  · exact .inl (Joins.ownsRow_le h hb)
  · exact .inr h
theorem OwnV.beside {base base' n : Nat} {w w' : World} {u v : Value} {r : List V} {ys : List Value} (h : OwnV base w u r) (ho : w.ownsRow base' 26 1 v n ys) (hw : OnlyS (fun k => v.ownBlock = some k) w w') : OwnV base w' u r := by
  rcases h with h | h
  · exact .inl (owns_beside h hw (rows_apart h ho))
  · exact .inr h

/-- These slices are copies: rows of one's own, or of nothing. -/
def CopyRows (base : Nat) (w : World) (hs : List Value) (rs : List (List V)) : Prop := hs.length = rs.length ∧ ∀ i, (h : i < hs.length) → (h' : i < rs.length) → OwnV base w hs[i] rs[i]
theorem CopyRows.nil (base : Nat) (w : World) : CopyRows base w [] [] := ⟨rfl, fun _ h => absurd h (Nat.not_lt_zero _)⟩
theorem CopyRows.rd {base : Nat} {w : World} {hs : List Value} {rs : List (List V)} (h : CopyRows base w hs rs) : HdRows w hs rs := ⟨h.1, fun i h1 h2 => (h.2 i h1 h2).rd⟩
theorem CopyRows.ext {base : Nat} {w w' : World} {hs : List Value} {rs : List (List V)} (h : CopyRows base w hs rs) (hx : Ext w w') : CopyRows base w' hs rs := ⟨h.1, fun i h1 h2 => (h.2 i h1 h2).ext hx⟩
theorem CopyRows.base_le {base base' : Nat} {w : World} {hs : List Value} {rs : List (List V)} (h : CopyRows base w hs rs) (hb : base' ≤ base) : CopyRows base' w hs rs := ⟨h.1, fun i h1 h2 => (h.2 i h1 h2).base_le hb⟩
theorem CopyRows.beside {base base' n : Nat} {w w' : World} {v : Value} {ys hs : List Value} {rs : List (List V)} (h : CopyRows base w hs rs) (ho : w.ownsRow base' 26 1 v n ys) (hw : OnlyS (fun k => v.ownBlock = some k) w w') : CopyRows base w' hs rs := ⟨h.1, fun i h1 h2 => (h.2 i h1 h2).beside ho hw⟩
theorem CopyRows.append {base : Nat} {w : World} {hs hs' : List Value} {rs rs' : List (List V)} (h : CopyRows base w hs rs) (h' : CopyRows base w hs' rs') : CopyRows base w (hs ++ hs') (rs ++ rs') := by
  refine ⟨by rw [List.length_append, List.length_append, h.1, h'.1], fun i h1 h2 => ?_⟩
  rw [List.length_append] at h1 h2
  by_cases hi : i < hs.length
  · have e1 : (hs ++ hs')[i] = hs[i] := List.getElem_append_left hi
    have e2 : (rs ++ rs')[i] = rs[i]'(h.1 ▸ hi) := List.getElem_append_left (h.1 ▸ hi)
    rw [e1, e2]
    exact h.2 i hi (h.1 ▸ hi)
  · have e := h.1
    have e1 : (hs ++ hs')[i] = hs'[i - hs.length]'(by omega) := List.getElem_append_right (by omega)
    have e2 : (rs ++ rs')[i] = rs'[i - rs.length]'(by omega) := List.getElem_append_right (by omega)
    rw [e1, e2]
    have k := h'.2 (i - hs.length) (by omega) (by omega)
    simp only [e] at k ⊢
    exact k
theorem CopyRows.one {base : Nat} {w : World} {v : Value} {r : List V} (h : OwnV base w v r) : CopyRows base w [v] [r] := ⟨rfl, fun i h1 _ => by
  have : i = 0 := by simpa using h1
  subst this
  exact h⟩
theorem OwnRows.copy {base : Nat} {w : World} {hs : List Value} {rs : List (List V)} (h : OwnRows base w hs rs) : CopyRows base w hs rs := ⟨h.1, fun i h1 h2 => .inl (h.2 i h1 h2)⟩

/-- A row of heads of one's own, or of none. -/
def HeadOwn (base : Nat) (w : World) (u : Value) (hs : List Value) : Prop := w.ownsRow base 26 1 u hs.length hs ∨ (hs = [] ∧ ∃ a c, u = .slice (some a) 0 c ∧ c ≤ maxLen)
theorem HeadOwn.rd {base : Nat} {w : World} {u : Value} {hs : List Value} (h : HeadOwn base w u hs) : RdV w u hs := by
  rcases h with h | ⟨rfl, a, c, rfl, hc⟩
  · exact RdV.of_owns h
  · exact .inr ⟨a, c, rfl, Nat.zero_le _, hc, fun i u hu => by simp at hu⟩
theorem HeadOwn.ext {base : Nat} {w w' : World} {u : Value} {hs : List Value} (h : HeadOwn base w u hs) (hx : Ext w w') : HeadOwn base w' u hs := by
  rcases h with h | h
  · exact .inl (owns_extS h hx)
  · exact .inr h

/-- Rows that a call has copied. -/
def Cp (base : Nat) (w : World) (u : Value) (rs : List (List V)) : Prop := ∃ hs, HeadOwn base w u hs ∧ CopyRows base w hs rs
theorem Cp.rv {base : Nat} {w : World} {u : Value} {rs : List (List V)} (h : Cp base w u rs) : RdRV w u rs := by
  obtain ⟨hs, h1, h2⟩ := h
  exact ⟨hs, h1.rd, h2.rd⟩
theorem Cp.rd {base : Nat} {w : World} {u : Value} {rs : List (List V)} (h : Cp base w u rs) : RdRows w u rs := h.rv.rd
theorem Cp.ext {base : Nat} {w w' : World} {u : Value} {rs : List (List V)} (h : Cp base w u rs) (hx : Ext w w') : Cp base w' u rs := by
  obtain ⟨hs, h1, h2⟩ := h
  exact ⟨hs, h1.ext hx, h2.ext hx⟩
theorem AnsRR.cp {base : Nat} {w : World} {u : Value} {rs : List (List V)} (h : AnsRR base w u rs) : Cp base w u rs := by
  obtain ⟨hs, h1, h2⟩ := h
  exact ⟨hs, .inl h1, h2.copy⟩

end Go.Proofs.Ytodjaggihmcllaa
