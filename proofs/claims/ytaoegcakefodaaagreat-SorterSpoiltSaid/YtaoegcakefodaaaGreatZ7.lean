/-
  Texts of this proof, merged.
-/
import Derived.Deep.SlicePairs
import Derived.Deep.Cut
import Derived.Lib.LazyBuf
import Derived.Deep.CutBlock
import Derived.Test.YtaoegcakefodaaaGreatZ1
import Derived.Test.YtaoegcakefodaaaGreatZ2
import Derived.Test.YtaoegcakefodaaaGreatZ3
import Derived.Test.YtaoegcakefodaaaGreatZ4
import Derived.Test.YtaoegcakefodaaaGreatZ5
import Derived.Test.YtaoegcakefodaaaGreatZ6
namespace Go.Proofs.YtaoegcakefodaaaGreat
open Go.RowKit Go.BigFrame
def OwnV (base : Nat) (w : World) (v : Value) (r : List V) : Prop := w.ownsRow base 56 3 v r.length (r.flatMap V.cells) ∨ (r = [] ∧ ∃ ao c, v = .slice ao 0 c ∧ c ≤ maxLen)
theorem OwnV.rd {base : Nat} {w : World} {v : Value} {r : List V} (h : OwnV base w v r) : RdVals w v r := by
  rcases h with h | ⟨rfl, ao, c, rfl, hc⟩
  · exact RdVals.of_owns h
  · exact ⟨ao, c, rfl, Nat.zero_le _, hc, fun j hj => absurd hj (Nat.not_lt_zero _)⟩
theorem OwnV.ext {base : Nat} {w w' : World} {v : Value} {r : List V} (h : OwnV base w v r) (hx : Ext w w') : OwnV base w' v r := by
  rcases h with h | h
  · exact .inl (owns_extS h hx)
  · exact .inr h
theorem OwnV.base_le {base base' : Nat} {w : World} {v : Value} {r : List V} (h : OwnV base w v r) (hb : base' ≤ base) : OwnV base' w v r := by
  rcases h with h | h
  · exact .inl (Joins.ownsRow_le h hb)
  · exact .inr h
theorem OwnV.beside {base base' n : Nat} {w w' : World} {u v : Value} {r : List V} {ys : List Value} (h : OwnV base w u r) (ho : w.ownsRow base' 58 1 v n ys) (hw : OnlyS (fun k => v.ownBlock = some k) w w') : OwnV base w' u r := by
  rcases h with h | h
  · exact .inl (owns_beside h hw (rows_apart h ho))
  · exact .inr h
def CopyRows (base : Nat) (w : World) (hs : List Value) (rs : List (List V)) : Prop := hs.length = rs.length ∧ ∀ i, (h : i < hs.length) → (h' : i < rs.length) → OwnV base w hs[i] rs[i]
theorem CopyRows.nil (base : Nat) (w : World) : CopyRows base w [] [] := ⟨rfl, fun _ h => absurd h (Nat.not_lt_zero _)⟩
theorem CopyRows.rd {base : Nat} {w : World} {hs : List Value} {rs : List (List V)} (h : CopyRows base w hs rs) : HdRows w hs rs := ⟨h.1, fun i h1 h2 => (h.2 i h1 h2).rd⟩
theorem CopyRows.ext {base : Nat} {w w' : World} {hs : List Value} {rs : List (List V)} (h : CopyRows base w hs rs) (hx : Ext w w') : CopyRows base w' hs rs := ⟨h.1, fun i h1 h2 => (h.2 i h1 h2).ext hx⟩
theorem CopyRows.base_le {base base' : Nat} {w : World} {hs : List Value} {rs : List (List V)} (h : CopyRows base w hs rs) (hb : base' ≤ base) : CopyRows base' w hs rs := ⟨h.1, fun i h1 h2 => (h.2 i h1 h2).base_le hb⟩
theorem CopyRows.beside {base base' n : Nat} {w w' : World} {v : Value} {ys hs : List Value} {rs : List (List V)} (h : CopyRows base w hs rs) (ho : w.ownsRow base' 58 1 v n ys) (hw : OnlyS (fun k => v.ownBlock = some k) w w') : CopyRows base w' hs rs := ⟨h.1, fun i h1 h2 => (h.2 i h1 h2).beside ho hw⟩
theorem CopyRows.append {base : Nat} {w : World} {hs hs' : List Value} {rs rs' : List (List V)} (h : CopyRows base w hs rs) (h' : CopyRows base w hs' rs') : CopyRows base w (hs ++ hs') (rs ++ rs') := by
  refine ⟨by rw [List.length_append, List.length_append, h.1, h'.1], fun i h1 h2 => ?_⟩
  rw [List.length_append] at h1 h2
  by_cases hi : i < hs.length
  · have e1 : (hs ++ hs')[i] = hs[i] := List.getElem_append_left hi
    have e2 : (rs ++ rs')[i] = rs[i]'(h.1 ▸ hi) := List.getElem_append_left (h.1 ▸ hi)
    rw [e1, e2]
    exact h.2 i hi (h.1 ▸ hi)
  · have e := h.1
    have e1 : (hs ++ hs')[i] = hs'[i - hs.length]'(by omega) := List.getElem_append_right (by omega)
    have e2 : (rs ++ rs')[i] = rs'[i - rs.length]'(by omega) := List.getElem_append_right (by omega)
    rw [e1, e2]
    have k := h'.2 (i - hs.length) (by omega) (by omega)
    simp only [e] at k ⊢
    exact k
theorem CopyRows.one {base : Nat} {w : World} {v : Value} {r : List V} (h : OwnV base w v r) : CopyRows base w [v] [r] := ⟨rfl, fun i h1 _ => by
  have : i = 0 := by simpa using h1
  subst this
  exact h⟩
theorem OwnRows.copy {base : Nat} {w : World} {hs : List Value} {rs : List (List V)} (h : OwnRows base w hs rs) : CopyRows base w hs rs := ⟨h.1, fun i h1 h2 => .inl (h.2 i h1 h2)⟩
def HeadOwn (base : Nat) (w : World) (u : Value) (hs : List Value) : Prop := w.ownsRow base 58 1 u hs.length hs ∨ (hs = [] ∧ ∃ a c, u = .slice (some a) 0 c ∧ c ≤ maxLen)
theorem HeadOwn.rd {base : Nat} {w : World} {u : Value} {hs : List Value} (h : HeadOwn base w u hs) : RdV w u hs := by
  rcases h with h | ⟨rfl, a, c, rfl, hc⟩
  · exact RdV.of_owns h
  · exact .inr ⟨a, c, rfl, Nat.zero_le _, hc, fun i u hu => by simp at hu⟩
theorem HeadOwn.ext {base : Nat} {w w' : World} {u : Value} {hs : List Value} (h : HeadOwn base w u hs) (hx : Ext w w') : HeadOwn base w' u hs := by
  rcases h with h | h
  · exact .inl (owns_extS h hx)
  · exact .inr h
def Cp (base : Nat) (w : World) (u : Value) (rs : List (List V)) : Prop := ∃ hs, HeadOwn base w u hs ∧ CopyRows base w hs rs
theorem Cp.rv {base : Nat} {w : World} {u : Value} {rs : List (List V)} (h : Cp base w u rs) : RdRV w u rs := by
  obtain ⟨hs, h1, h2⟩ := h
  exact ⟨hs, h1.rd, h2.rd⟩
theorem Cp.rd {base : Nat} {w : World} {u : Value} {rs : List (List V)} (h : Cp base w u rs) : RdRows w u rs := h.rv.rd
theorem Cp.ext {base : Nat} {w w' : World} {u : Value} {rs : List (List V)} (h : Cp base w u rs) (hx : Ext w w') : Cp base w' u rs := by
  obtain ⟨hs, h1, h2⟩ := h
  exact ⟨hs, h1.ext hx, h2.ext hx⟩
theorem AnsRR.cp {base : Nat} {w : World} {u : Value} {rs : List (List V)} (h : AnsRR base w u rs) : Cp base w u rs := by
  obtain ⟨hs, h1, h2⟩ := h
  exact ⟨hs, .inl h1, h2.copy⟩
end Go.Proofs.YtaoegcakefodaaaGreat

namespace Go.Proofs.YtaoegcakefodaaaGreat
open Go.ChangeShapes Go.WideShapes Go.ChangeAt Go.RowKit Go.Joins Go.Deep
def RdKs (w : World) (u : Value) (l : List Ky) : Prop :=
  ∃ ao cap, u = .slice ao l.length cap ∧ l.length ≤ cap ∧ cap ≤ maxLen ∧ (∀ j, (hj : j < l.length) → ∃ g off, ao = some ⟨g, off, none⟩ ∧ w.cell? ⟨g, off + j * 2, none⟩ = some (.int .i64 l[j].col) ∧ w.cell? ⟨g, off + j * 2 + 1, none⟩ = some (.bool l[j].down)) ∧ (ao = none → cap = 0)
theorem RdKs.mono {w w' : World} {u : Value} {l : List Ky} (h : RdKs w u l) (hb : Below w.heap.size w w') : RdKs w' u l := by
  obtain ⟨ao, cap, h1, h2, h3, h4, h0⟩ := h
  refine ⟨ao, cap, h1, h2, h3, fun j hj => ?_, h0⟩
  obtain ⟨g, off, h5, h6, h7⟩ := h4 j hj
  exact ⟨g, off, h5, (hb.cell (lt_of_cell h6)).trans h6, (hb.cell (lt_of_cell h7)).trans h7⟩
theorem RdKs.shape {w : World} {u : Value} {l : List Ky} (h : RdKs w u l) : ∃ a cap, u = .slice a l.length cap ∧ l.length ≤ cap ∧ cap ≤ maxLen := by
  obtain ⟨a, cap, h1, h2, h3, _⟩ := h
  exact ⟨a, cap, h1, h2, h3⟩
theorem RdKs.plain {w : World} {ao : Option Addr} {N cap : Nat} {l : List Ky} (h : RdKs w (.slice ao N cap) l) : N = l.length ∧ N ≤ cap ∧ cap ≤ maxLen ∧ ∀ j, (hj : j < l.length) → ∃ g off, ao = some ⟨g, off, none⟩ ∧
    w.cell? ⟨g, off + j * 2, none⟩ = some (.int .i64 l[j].col) ∧ w.cell? ⟨g, off + j * 2 + 1, none⟩ = some (.bool l[j].down) := by
  obtain ⟨a', cap', h1, h2, h3, h4, h0⟩ := h
  simp only [Value.slice.injEq] at h1
  obtain ⟨rfl, rfl, rfl⟩ := h1
  exact ⟨rfl, h2, h3, h4⟩
theorem RdKs.nil (w : World) : RdKs w (.slice none 0 0) [] := ⟨none, 0, rfl, Nat.le_refl _, by simp [maxLen], fun j hj => (by simp at hj), fun _ => rfl⟩
theorem RdKs.take {w : World} {ao : Option Addr} {N cap : Nat} {l : List Ky} (h : RdKs w (.slice ao N cap) l) (K : Nat) (hK : K ≤ N) : RdKs w (.slice ao K cap) (l.take K) := by
  obtain ⟨a', cap', h1, h2, h3, h4, h0⟩ := h
  simp only [Value.slice.injEq] at h1
  obtain ⟨rfl, rfl, rfl⟩ := h1
  have hl : (l.take K).length = K := by rw [List.length_take]; omega
  refine ⟨ao, cap, by rw [hl], by omega, h3, fun j hj => ?_, h0⟩
  rw [List.getElem_take]
  exact h4 j (by omega)
theorem RdKs.lit (w : World) (l : List Ky) (t : TypeId) (hl : l.length ≤ maxLen) : RdKs (w.alloc (.cells (l.flatMap Ky.cells).toArray t)) (.slice (some ⟨w.heap.size, 0, none⟩) l.length l.length) l := by
  refine ⟨_, l.length, rfl, Nat.le_refl _, hl, fun j hj => ⟨w.heap.size, 0, rfl, ?_⟩, fun h => by cases h⟩
  have key : ∀ (l : List Ky) (j : Nat) (hj : j < l.length), (l.flatMap Ky.cells)[j * 2]? = some (.int .i64 l[j].col) ∧ (l.flatMap Ky.cells)[j * 2 + 1]? = some (.bool l[j].down) := by
    intro l
    induction l with
    | nil => intro j hj; simp at hj
    | cons a t ih =>
      intro j hj
      cases j with
      | zero => exact ⟨rfl, rfl⟩
      | succ j =>
        have h := ih j (by simpa using hj)
        have hc : a.cells.length = 2 := rfl
        rw [List.flatMap_cons, List.getElem?_append_right (by omega), List.getElem?_append_right (by omega), hc, show (j + 1) * 2 - 2 = j * 2 by omega, show (j + 1) * 2 + 1 - 2 = j * 2 + 1 by omega]
        exact h
  obtain ⟨k1, k2⟩ := key l j hj
  have r1 := row_new w (l.flatMap Ky.cells) t _ _ k1
  have r2 := row_new w (l.flatMap Ky.cells) t _ _ k2
  rw [add_at] at r1 r2
  exact ⟨r1, by rw [Nat.add_assoc]; exact r2⟩
section
variable {H : Type} {enc : TypeId × Value → H} {P : Program} {w : World} {base : Nat} {held : Bool}
end
end Go.Proofs.YtaoegcakefodaaaGreat

namespace Go.Proofs.YtaoegcakefodaaaGreat
open Go.RowKit Go.BigFrame
def Blk (W : World) (b : Nat) (xs : List Value) (t : TypeId) : Prop := W.heap[b]? = some (.cells xs.toArray t (0, 0))
theorem Blk.cell {W : World} {b : Nat} {xs : List Value} {t : TypeId} (h : Blk W b xs t) (j : Nat) (u : Value) (hj : xs[j]? = some u) : W.cell? ⟨b, j, none⟩ = some u := by
  unfold World.cell?
  rw [show W.heap[b]? = _ from h]
  simpa using hj
theorem Blk.free {W : World} {b : Nat} {xs : List Value} {t : TypeId} (h : Blk W b xs t) (j : Nat) : W.frozen? ⟨b, j, none⟩ = false := by
  unfold World.frozen?
  rw [show W.heap[b]? = _ from h]
  simp
theorem Blk.lt {W : World} {b : Nat} {xs : List Value} {t : TypeId} (h : Blk W b xs t) : b < W.heap.size := (Array.getElem?_eq_some_iff.1 h).1
theorem Blk.ext {W W' : World} {b : Nat} {xs : List Value} {t : TypeId} (h : Blk W b xs t) (hx : Ext W W') : Blk W' b xs t := (hx.block b h.lt).trans h
theorem Blk.new (W : World) (xs : List Value) (t : TypeId) : Blk (W.alloc (.cells xs.toArray t)) W.heap.size xs t := heap_alloc_new _ _
theorem Blk.set {W : World} {b : Nat} {xs : List Value} {t : TypeId} (h : Blk W b xs t) (j : Nat) (u : Value) : Blk (W.setCell ⟨b, j, none⟩ u) b (xs.set j u) t := by
  unfold Blk at *
  simp [World.setCell, Array.getElem?_modify, h]
theorem Blk.beside {W : World} {b b' : Nat} {xs : List Value} {t : TypeId} (h : Blk W b xs t) (hne : b ≠ b') (j : Nat) (u : Value) : Blk (W.setCell ⟨b', j, none⟩ u) b xs t := by
  unfold Blk at *
  rw [Below.heap_setCell _ _ _ _ hne]
  exact h
end Go.Proofs.YtaoegcakefodaaaGreat

namespace Go.Proofs.YtaoegcakefodaaaGreat
open Go.RowKit Go.BigFrame
def FitR (m : Nat) (r : List V) : Prop := ∀ v ∈ r, v.fits ∧ v.s.length ≤ m
theorem V.zero_fits : V.zero.fits := ⟨by decide, by decide, by decide, by decide⟩
theorem atV_fit {m : Nat} {r : List V} (h : FitR m r) {c : Nat} (hc : c < r.length) : atV r c = if r[c].k = 0 then V.zero else r[c] := by
  rw [atV_in hc]
  have := (h r[c] (List.getElem_mem hc)).1.k0
  by_cases h0 : r[c].k = 0
  · rw [if_pos h0, if_pos (by omega)]
  · rw [if_neg h0, if_neg (by omega)]
end Go.Proofs.YtaoegcakefodaaaGreat

namespace Go.Proofs.YtaoegcakefodaaaGreat
open Go.RowKit Go.BigFrame
def OptV (w : World) (v : Value) : Option (List V) → Prop
  | none => v = .slice none 0 0
  | some r => RdVals w v r ∧ ∃ ad n c, v = .slice (some ad) n c
theorem OptV.mono {w w' : World} {v : Value} {o : Option (List V)} (h : OptV w v o) (hb : Below w.heap.size w w') : OptV w' v o := by
  cases o with
  | none => exact h
  | some r => exact ⟨h.1.mono hb, h.2⟩
theorem OptV.shape {w : World} {v : Value} {o : Option (List V)} (h : OptV w v o) : ∃ a n c, v = .slice a n c := by
  cases o with
  | none => exact ⟨none, 0, 0, h⟩
  | some r => obtain ⟨ad, n, c, e⟩ := h.2; exact ⟨_, n, c, e⟩
theorem OptV.rd {w : World} {v : Value} {o : Option (List V)} (h : OptV w v o) : RdVals w v (o.getD []) := by
  cases o with
  | none => rw [show v = .slice none 0 0 from h]; exact RdVals.nil w
  | some r => exact h.1
def HdOpt (w : World) (hs : List Value) (os : List (Option (List V))) : Prop := hs.length = os.length ∧ ∀ i, (h : i < hs.length) → (h' : i < os.length) → OptV w hs[i] os[i]
theorem HdOpt.nil (w : World) : HdOpt w [] [] := ⟨rfl, fun _ h => absurd h (Nat.not_lt_zero _)⟩
theorem HdOpt.mono {w w' : World} {hs : List Value} {os : List (Option (List V))} (h : HdOpt w hs os) (hb : Below w.heap.size w w') : HdOpt w' hs os := ⟨h.1, fun i h1 h2 => (h.2 i h1 h2).mono hb⟩
theorem HdOpt.one {w : World} {v : Value} {o : Option (List V)} (h : OptV w v o) : HdOpt w [v] [o] := ⟨rfl, fun i h1 _ => by
  have : i = 0 := by simpa using h1
  subst this
  exact h⟩
theorem HdOpt.append {w : World} {hs hs' : List Value} {os os' : List (Option (List V))} (h : HdOpt w hs os) (h' : HdOpt w hs' os') : HdOpt w (hs ++ hs') (os ++ os') := by
  refine ⟨by rw [List.length_append, List.length_append, h.1, h'.1], fun i h1 h2 => ?_⟩
  rw [List.length_append] at h1 h2
  by_cases hi : i < hs.length
  · rw [List.getElem_append_left hi, List.getElem_append_left (h.1 ▸ hi)]
    exact h.2 i hi (h.1 ▸ hi)
  · have e := h.1
    rw [List.getElem_append_right (by omega), List.getElem_append_right (by omega)]
    have k := h'.2 (i - hs.length) (by omega) (by omega)
    simp only [e] at k ⊢
    exact k
theorem HdOpt.set {w : World} {hs : List Value} {os : List (Option (List V))} (h : HdOpt w hs os) (j : Nat) {v : Value} {o : Option (List V)} (hv : OptV w v o) : HdOpt w (hs.set j v) (os.set j o) := by
  refine ⟨by rw [List.length_set, List.length_set, h.1], fun i h1 h2 => ?_⟩
  rw [List.length_set] at h1 h2
  rw [List.getElem_set, List.getElem_set]
  by_cases e : j = i
  · rw [if_pos e, if_pos e]; exact hv
  · rw [if_neg e, if_neg e]; exact h.2 i h1 h2
theorem HdOpt.at {w : World} {hs : List Value} {os : List (Option (List V))} (h : HdOpt w hs os) (i : Nat) (hi : i < os.length) : ∃ v, hs[i]? = some v ∧ OptV w v os[i] := ⟨_, List.getElem?_eq_getElem (h.1 ▸ hi), h.2 i (h.1 ▸ hi) hi⟩
def FitO (m : Nat) (os : List (Option (List V))) : Prop := ∀ r, some r ∈ os → FitR m r
theorem FitO.le {m m' : Nat} {os : List (Option (List V))} (h : FitO m os) (hm : m ≤ m') : FitO m' os := fun r hr v hv => ⟨(h r hr v hv).1, Nat.le_trans (h r hr v hv).2 hm⟩
theorem FitO.nil (m : Nat) : FitO m [] := fun r hr => by simp at hr
theorem FitO.snoc {m : Nat} {os : List (Option (List V))} {o : Option (List V)} (h : FitO m os) (ho : ∀ r, o = some r → FitR m r) : FitO m (os ++ [o]) := fun r hr => by
  rcases List.mem_append.1 hr with hr | hr
  · exact h r hr
  · rw [List.mem_singleton] at hr
    exact ho r hr.symm
theorem FitO.set {m : Nat} {os : List (Option (List V))} {o : Option (List V)} (h : FitO m os) (ho : ∀ r, o = some r → FitR m r) (i : Nat) : FitO m (os.set i o) := fun r hr => by
  rcases List.mem_or_eq_of_mem_set hr with hr | hr
  · exact h r hr
  · exact ho r hr.symm
theorem RdRV.nil (w : World) : RdRV w (.slice none 0 0) [] := ⟨[], .inl ⟨rfl, rfl⟩, HdRows.nil w⟩
theorem wpList_append_valsN {ops : Array Oper} {rest : List Oper} {o : Oper} {a : Act} {Q : Exit → Act → World → Prop} {w : World} (hgd : o.guard = none) (s x : Operand) (t : TypeId)
    (ho : o.op = .call { callee := .builtin .append, args := #[s, x], argTypes := #[t, t] }) (ht : Tryz.prog.underlying t = some (.slice 56))
    (base : Nat) (v : Value) (ps : List V) (u : Value) (r : List V) (hs : a.eval s = v) (hown : w.ownsRow base 56 3 v ps.length (ps.flatMap V.cells))
    (hx : a.eval x = u) (hu : RdVals w u r) (hp : ps.length + r.length ≤ 100000000) (hbase : base ≤ w.heap.size)
    (h : ∀ v' w', w'.ownsRow base 56 3 v' (ps ++ r).length ((ps ++ r).flatMap V.cells) → Below base w w' → OnlyS (fun k => v.ownBlock = some k) w w' → (v' = .slice none 0 0 ↔ v = .slice none 0 0 ∧ r = []) → wpList Tryz.prog ops Q rest (a.put o.dst v') w') :
    wpList Tryz.prog ops Q (o :: rest) a w := by
  obtain ⟨i0, hi, hz0, hz1, hz2⟩ := info_parts Tryz.info_val
  obtain ⟨ao, c, rfl, hlen, hcap, hat⟩ := hu
  have key : ∀ ad : Addr, ao = some ad → ∀ j y, (r.flatMap V.cells)[j]? = some y → w.cell? (ad.add j) = some y := fun ad e j y hj => by
    have hjl : j < r.length * 3 := by
      have := (List.getElem?_eq_some_iff.1 hj).1
      rwa [valCells_length] at this
    obtain ⟨q, m, hq, hm⟩ : ∃ q m, j = q * 3 + m ∧ m < 3 := ⟨j / 3, j % 3, by omega, by omega⟩
    subst hq
    have hql : q < r.length := by omega
    obtain ⟨g, off, e2, hc⟩ := hat q hql
    rw [e] at e2
    rw [Option.some.inj e2, add_at, ← Nat.add_assoc]
    exact hc m y ((valCells r q hql m hm).symm.trans hj)
  have hone : ∀ y ∈ r.flatMap V.cells, y.oneCell' = true := fun y hy => by
    obtain ⟨e, -, he⟩ := List.mem_flatMap.1 hy
    exact val_oneCell e y he
  cases ao with
  | none =>
    have hr : r = [] := by
      cases r with
      | nil => rfl
      | cons b t => obtain ⟨g, off, e, -⟩ := hat 0 (by simp); cases e
    subst hr
    refine wpList_plain hgd fun K hK => ?_
    have hrun := run_append_noneC (P := Tryz.prog) (w := w) base t o.type 56 i0 3 c ht hi v _ _ hown
    unfold Oper.wp
    simp [execOp, ho, resolve, invoke, builtin, hs, hx, hrun, Result.andThen]
    exact hK _ _ (h v w (by simpa using hown) (Below.refl _ _) (OnlyS.refl _ _) ⟨fun e => ⟨e, rfl⟩, fun e => e.1⟩)
  | some ad =>
    refine wpList_append_own _ hgd s x t ho base 56 i0 _ 3 32 ht hi hz0 hz1 hz2 rfl (by decide) v ps.length _ hs hown ad r.length c (r.flatMap V.cells) hx (valCells_length r) (key ad rfl) hone (by unfold maxLen; omega) (by omega) hbase fun v' w' h1 h2 h3 => h v' w' ?_ ?_ ?_ ?_
    · rw [List.length_append, List.flatMap_append]
      exact h1
    · exact (Below.refl base w).grown h2 hbase (fun b hb => (hown.lt b hb).1)
    · exact OnlyS.of_grown h2
    · rw [h3]
      exact ⟨fun e => ⟨e.1, List.eq_nil_of_length_eq_zero e.2⟩, fun e => ⟨e.1, by rw [e.2]; rfl⟩⟩
theorem OptV.of_own {base : Nat} {w : World} {v : Value} {r : List V} (h : w.ownsRow base 56 3 v r.length (r.flatMap V.cells)) (hn : v ≠ .slice none 0 0) : OptV w v (some r) := by
  refine ⟨RdVals.of_owns h, ?_⟩
  rcases h.2 with ⟨e, -⟩ | ⟨g, c, cur, e, -⟩
  · exact absurd e hn
  · exact ⟨_, _, c, e⟩
end Go.Proofs.YtaoegcakefodaaaGreat

namespace Go.Proofs.YtaoegcakefodaaaGreat
open Go.RowKit Go.BigFrame
theorem own_apart {base base' size size' n n' : Nat} {e e' : TypeId} {w : World} {u v : Value} {xs ys : List Value} (hne : e ≠ e') (h : w.ownsRow base e size u n xs) (h' : w.ownsRow base' e' size' v n' ys) : ApartV u v := fun k h1 h2 => by
  obtain ⟨c, fz, e1⟩ := Lib.ownsRow_kind h k h1
  obtain ⟨c', fz', e2⟩ := Lib.ownsRow_kind h' k h2
  rw [e1] at e2
  injection e2 with e3
  injection e3 with e4 e5
  exact absurd e5 hne
theorem RdVals.onlyS {Y : Nat → Prop} {w w' : World} {u : Value} {r : List V} (h : RdVals w u r) (ho : OnlyS Y w w') (hx : r ≠ [] → ∀ k, u.ownBlock = some k → ¬ Y k) : RdVals w' u r := by
  obtain ⟨ao, c, rfl, h1, h2, h3⟩ := h
  refine ⟨ao, c, rfl, h1, h2, fun j hj => ?_⟩
  obtain ⟨g, off, rfl, h4⟩ := h3 j hj
  exact ⟨g, off, rfl, fun i y hy => ho.cell (h4 i y hy) (hx (by rintro rfl; simp at hj) g rfl)⟩
theorem RdVals.block {w : World} {u : Value} {r : List V} (h : RdVals w u r) (hr : r ≠ []) {k : Nat} (hk : u.ownBlock = some k) : k < w.heap.size := by
  obtain ⟨ao, c, rfl, h1, h2, h3⟩ := h
  obtain ⟨g, off, rfl, h4⟩ := h3 0 (List.length_pos_iff.2 hr)
  cases hk
  exact lt_of_cell (h4 0 _ rfl)
theorem RdV.block {w : World} {u : Value} {xs : List Value} (h : RdV w u xs) (hx : xs ≠ []) {k : Nat} (hk : u.ownBlock = some k) : k < w.heap.size := by
  rcases h with ⟨-, h⟩ | ⟨x, c, rfl, h1, h2, h3⟩
  · exact absurd h hx
  · have h4 := h3 0 _ (List.getElem?_eq_getElem (List.length_pos_iff.2 hx))
    have h5 := lt_of_cell h4
    cases hk
    have e : (x.add 0).block = x.block := by
      obtain ⟨b, o, s⟩ := x
      unfold Addr.add
      split <;> rfl
    rw [e] at h5
    exact h5
def RdX (X : Nat → Prop) (w : World) (u : Value) (rs : List (List V)) : Prop :=
  ∃ hs, RdV w u hs ∧ (hs ≠ [] → ∀ k, u.ownBlock = some k → ¬ X k) ∧ hs.length = rs.length ∧ ∀ i, (h : i < hs.length) → (h' : i < rs.length) → RdVals w hs[i] rs[i] ∧ (rs[i] ≠ [] → ∀ k, (hs[i]).ownBlock = some k → ¬ X k)
theorem RdX.rv {X : Nat → Prop} {w : World} {u : Value} {rs : List (List V)} (h : RdX X w u rs) : RdRV w u rs := by
  obtain ⟨hs, h1, -, h2, h3⟩ := h
  exact ⟨hs, h1, h2, fun i a b => (h3 i a b).1⟩
theorem RdX.onlyS {X Y : Nat → Prop} {w w' : World} {u : Value} {rs : List (List V)} (h : RdX X w u rs) (ho : OnlyS Y w w') (hy : ∀ k, Y k → X k) : RdX X w' u rs := by
  obtain ⟨hs, h1, h2, h3, h4⟩ := h
  exact ⟨hs, RdV.onlyS h1 ho (fun a k b c => h2 a k b (hy k c)), h2, h3, fun i a b => ⟨(h4 i a b).1.onlyS ho (fun c k d e => (h4 i a b).2 c k d (hy k e)), (h4 i a b).2⟩⟩
theorem RdX.ext {X : Nat → Prop} {w w' : World} {u : Value} {rs : List (List V)} (h : RdX X w u rs) (hx : Ext w w') : RdX X w' u rs := h.onlyS (Y := fun _ => False) (OnlyS.of_ext hx) fun _ h => h.elim
theorem RdX.turn {X X' : Nat → Prop} {w : World} {u : Value} {rs : List (List V)} (h : RdX X w u rs) (hx : ∀ k, X' k → X k ∨ w.heap.size ≤ k) : RdX X' w u rs := by
  obtain ⟨hs, h1, h2, h3, h4⟩ := h
  refine ⟨hs, h1, fun a k b c => ?_, h3, fun i a b => ⟨(h4 i a b).1, fun c k d e => ?_⟩⟩
  · rcases hx k c with h5 | h5
    · exact h2 a k b h5
    · have := RdV.block h1 a b; omega
  · rcases hx k e with h5 | h5
    · exact (h4 i a b).2 c k d h5
    · have := (h4 i a b).1.block c d; omega
theorem Cp.off {X : Nat → Prop} {base : Nat} {w : World} {u : Value} {rs : List (List V)} (h : Cp base w u rs) (hx : ∀ k, X k → k < base) : RdX X w u rs := by
  obtain ⟨hs, h1, h2, h3⟩ := h
  refine ⟨hs, h1.rd, fun a k b c => ?_, h2, fun i a b => ⟨(h3 i a b).rd, fun c k d e => ?_⟩⟩
  · rcases h1 with h1 | ⟨h1, -⟩
    · have := (h1.lt k b).1
      have := hx k c
      omega
    · exact a h1
  · rcases h3 i a b with h4 | ⟨h4, -⟩
    · have := (h4.lt k d).1
      have := hx k e
      omega
    · exact c h4
end Go.Proofs.YtaoegcakefodaaaGreat

namespace Go.Proofs.YtaoegcakefodaaaGreat
open Go.RowKit Go.BigFrame
theorem own_at {base n c : Nat} {e : TypeId} {w : World} {a : Option Addr} {xs : List Value} (h : w.ownsRow base e 1 (.slice a n c) n xs) {i : Nat} (hi : i < n) :
    ∃ g, a = some ⟨g, 0, none⟩ ∧ (∃ u, w.cell? ⟨g, i, none⟩ = some u) ∧ w.frozen? ⟨g, i, none⟩ = false ∧ base ≤ g ∧ g < w.heap.size ∧ ∀ u, (w.setCell ⟨g, i, none⟩ u).ownsRow base e 1 (.slice a n c) n (xs.set i u) := by
  rcases h.2 with ⟨e1, h3⟩ | ⟨g, c', cur, e1, h4, h5, h6, h7, h8, h9⟩
  · omega
  · simp only [Value.slice.injEq] at e1
    obtain ⟨rfl, -, rfl⟩ := e1
    exact ⟨g, rfl, ⟨_, (h.cellAt i (by omega)).trans (List.getElem?_eq_getElem (by rw [h.1]; omega))⟩, h.frozenAt i, h4, (h.lt g rfl).2, fun u => (h.stored i u).1⟩
theorem only_setL (g j : Nat) (w : World) (u : Value) : OnlyS (fun k => k = g) w (w.setCell ⟨g, j, none⟩ u) := OnlyS.of_onlyP (OnlyP.set g j w u) rfl
end Go.Proofs.YtaoegcakefodaaaGreat

namespace Go.Proofs.YtaoegcakefodaaaGreat.LosWin
open OrdPure LosPure
variable {α : Type} {f : α → α → Int}
def Ahead (f : α → α → Int) (os : List (Option α)) (a b : Nat) : Prop := ∀ r, os[b]? = some (some r) → ∃ q, os[a]? = some (some q) ∧ (f q r < 0 ∨ f q r = 0 ∧ a ≤ b)
theorem Ahead.refl (hf : Pre f) (os : List (Option α)) (a : Nat) : Ahead f os a a := fun r h => ⟨r, h, .inr ⟨hf.refl r, Nat.le_refl _⟩⟩
theorem Ahead.trans (hf : Pre f) {os : List (Option α)} {a b c : Nat} (h : Ahead f os a b) (k : Ahead f os b c) : Ahead f os a c := fun r hr => by
  obtain ⟨q, h1, h2⟩ := k r hr
  obtain ⟨p, h3, h4⟩ := h q h1
  refine ⟨p, h3, ?_⟩
  have t1 := hf.trans p q r (by omega) (by omega)
  by_cases e : f p r = 0
  · have n1 := hf.neg p r
    have n2 := hf.neg q r
    have n3 := hf.neg p q
    have t2 := hf.trans r p q (by omega) (by omega)
    have t3 := hf.trans q r p (by omega) (by omega)
    exact .inr ⟨e, by omega⟩
  · exact .inl (by omega)
def firstB (f : α → α → Int) (os : List (Option α)) (a b : Nat) : Bool :=
  match os[a]?.join, os[b]?.join with
  | none, _ => false
  | some _, none => true
  | some q, some r => decide (f q r < 0) || (decide (f q r = 0) && decide (a < b))
theorem join_some {o : Option (Option α)} {q : α} (h : o.join = some q) : o = some (some q) := by
  cases o with
  | none => cases h
  | some x => rw [show x = some q from h]
theorem first_ahead (_hf : Pre f) {os : List (Option α)} {a b : Nat} (h : firstB f os a b = true) : Ahead f os a b := fun r hr => by
  unfold firstB at h
  rw [hr] at h
  cases ha : os[a]?.join with
  | none => rw [ha] at h; simp at h
  | some q =>
    rw [ha] at h
    refine ⟨q, join_some ha, ?_⟩
    simp at h
    rcases h with h | h
    · exact .inl h
    · exact .inr ⟨h.1, Nat.le_of_lt h.2⟩
theorem first_behind (hf : Pre f) {os : List (Option α)} {a b : Nat} (h : firstB f os a b = false) : Ahead f os b a := fun r hr => by
  unfold firstB at h
  rw [hr] at h
  cases hb : os[b]?.join with
  | none => rw [hb] at h; simp at h
  | some q =>
    rw [hb] at h
    refine ⟨q, join_some hb, ?_⟩
    simp at h
    have := hf.neg q r
    by_cases e : f q r = 0
    · exact .inr ⟨e, h.2 (by omega)⟩
    · exact .inl (by omega)
def Mat (f : α → α → Int) (os : List (Option α)) (a b w l : Nat) : Prop := (w = a ∧ l = b ∧ Ahead f os a b) ∨ (w = b ∧ l = a ∧ Ahead f os b a)
theorem Mat.swap {os : List (Option α)} {a b w l : Nat} (h : Mat f os a b w l) : Mat f os b a w l := by
  rcases h with h | h
  · exact .inr h
  · exact .inl h
def winB (f : α → α → Int) (os : List (Option α)) (a b : Nat) : Nat := if firstB f os a b then a else b
def losB (f : α → α → Int) (os : List (Option α)) (a b : Nat) : Nat := if firstB f os a b then b else a
theorem mat_first (hf : Pre f) (os : List (Option α)) (a b : Nat) : Mat f os a b (winB f os a b) (losB f os a b) := by
  unfold winB losB
  cases h : firstB f os a b with
  | true => exact .inl ⟨rfl, rfl, first_ahead hf h⟩
  | false => exact .inr ⟨rfl, rfl, first_behind hf h⟩
theorem winB_lt {os : List (Option α)} {a b m : Nat} (ha : a < m) (hb : b < m) : winB f os a b < m := by
  unfold winB
  split <;> assumption
def Anc (x l : Nat) : Prop := ∃ d, l / 2 ^ d = x
theorem div_turn (a d : Nat) : a / 2 / 2 ^ d = a / 2 ^ d / 2 := by rw [Nat.div_div_eq_div_mul, Nat.div_div_eq_div_mul, Nat.mul_comm]
theorem Anc.self (l : Nat) : Anc l l := ⟨0, by simp⟩
theorem Anc.half {x l : Nat} (h : Anc x l) : Anc (x / 2) l := by
  obtain ⟨d, rfl⟩ := h
  exact ⟨d + 1, by rw [Nat.pow_succ, Nat.div_div_eq_div_mul]⟩
theorem Anc.le {x l : Nat} (h : Anc x l) : x ≤ l := by
  obtain ⟨d, rfl⟩ := h
  exact Nat.div_le_self _ _
theorem Anc.child {x l : Nat} (h : Anc x l) : x = l ∨ ∃ y, Anc y l ∧ y / 2 = x := by
  obtain ⟨d, rfl⟩ := h
  cases d with
  | zero => left; simp
  | succ d => exact .inr ⟨_, ⟨d, rfl⟩, by rw [Nat.pow_succ, Nat.div_div_eq_div_mul]⟩
theorem Anc.trans {x y l : Nat} (h : Anc x y) (k : Anc y l) : Anc x l := by
  obtain ⟨d, rfl⟩ := h
  obtain ⟨e, rfl⟩ := k
  exact ⟨e + d, by rw [Nat.pow_add, Nat.div_div_eq_div_mul]⟩
theorem Anc.only {y z l : Nat} (hy : Anc y l) (hz : Anc z l) (h : y / 2 = z / 2) (h1 : 1 ≤ y / 2) : y = z := by
  obtain ⟨d, rfl⟩ := hy
  obtain ⟨e, rfl⟩ := hz
  have key : ∀ a b : Nat, a < b → l / 2 ^ b ≤ l / 2 ^ a / 2 := fun a b hab => by
    rw [Nat.div_div_eq_div_mul, ← Nat.pow_succ]
    exact Nat.div_le_div_left (Nat.pow_le_pow_right (by decide) hab) (Nat.pow_pos (by decide))
  rcases Nat.lt_trichotomy d e with hd | hd | hd
  · have := key d e hd; omega
  · rw [hd]
  · have := key e d hd; omega
theorem anc_one : ∀ l, 1 ≤ l → Anc 1 l := by
  intro l
  induction l using Nat.strongRecOn with
  | _ l ih =>
    intro h
    by_cases h1 : l = 1
    · subst h1; exact Anc.self 1
    · exact (ih (l / 2) (by omega) (by omega)).trans (Anc.self l).half
structure Full (f : α → α → Int) (os : List (Option α)) (lost : List Nat) (W : Nat → Nat) : Prop where
  len : lost.length = os.length
  leaf : ∀ j, j < os.length → W (os.length + j) = j
  mat : ∀ x, 1 ≤ x → x < os.length → ∃ l, lost[x]? = some l ∧ Mat f os (W (2 * x)) (W (2 * x + 1)) (W x) l
  top : 0 < os.length → lost[0]? = some (W 1)
theorem Full.loc {os : List (Option α)} {lost : List Nat} {W : Nat → Nat} (h : Full f os lost W) : ∀ n y, 2 * os.length - y = n → 1 ≤ y → y < 2 * os.length → Anc y (os.length + W y) ∧ W y < os.length := by
  intro n
  induction n using Nat.strongRecOn with
  | _ n ih =>
    intro y hn h1 h2
    by_cases hy : os.length ≤ y
    · have e := h.leaf (y - os.length) (by omega)
      rw [show os.length + (y - os.length) = y by omega] at e
      rw [e]
      refine ⟨?_, by omega⟩
      rw [show os.length + (y - os.length) = y by omega]
      exact Anc.self y
    · obtain ⟨l, -, hm⟩ := h.mat y h1 (by omega)
      have i1 := ih (2 * os.length - 2 * y) (by omega) (2 * y) rfl (by omega) (by omega)
      have i2 := ih (2 * os.length - (2 * y + 1)) (by omega) (2 * y + 1) rfl (by omega) (by omega)
      rcases hm with ⟨e, -, -⟩ | ⟨e, -, -⟩
      · rw [e]
        refine ⟨?_, i1.2⟩
        have := i1.1.half
        rwa [show 2 * y / 2 = y by omega] at this
      · rw [e]
        refine ⟨?_, i2.2⟩
        have := i2.1.half
        rwa [show (2 * y + 1) / 2 = y by omega] at this
theorem Full.ahead (hf : Pre f) {os : List (Option α)} {lost : List Nat} {W : Nat → Nat} (h : Full f os lost W) {j : Nat} (hj : j < os.length) : Ahead f os (W 1) j := by
  have key : ∀ d, 1 ≤ (os.length + j) / 2 ^ d → Ahead f os (W ((os.length + j) / 2 ^ d)) j := by
    intro d
    induction d with
    | zero =>
      intro _
      rw [Nat.pow_zero, Nat.div_one, h.leaf j hj]
      exact Ahead.refl hf os j
    | succ d ih =>
      rw [Nat.pow_succ, ← Nat.div_div_eq_div_mul]
      intro h1
      have hle : (os.length + j) / 2 ^ d ≤ os.length + j := Nat.div_le_self _ _
      generalize (os.length + j) / 2 ^ d = c at ih h1 hle ⊢
      have i := ih (by omega)
      obtain ⟨l, -, hm⟩ := h.mat (c / 2) h1 (by omega)
      rcases Nat.mod_two_eq_zero_or_one c with hc | hc
      · have e : 2 * (c / 2) = c := by omega
        rw [e] at hm
        rcases hm with ⟨e1, -, -⟩ | ⟨e1, -, hm⟩
        · rw [e1]; exact i
        · rw [e1]; exact hm.trans hf i
      · have e : 2 * (c / 2) + 1 = c := by omega
        rw [e] at hm
        rcases hm with ⟨e1, -, hm⟩ | ⟨e1, -, -⟩
        · rw [e1]; exact hm.trans hf i
        · rw [e1]; exact i
  obtain ⟨d, hd⟩ := anc_one (os.length + j) (by omega)
  have := key d (by omega)
  rwa [hd] at this
theorem Full.next (hf : Pre f) {os : List (Option α)} {lost : List Nat} {W : Nat → Nat} (h : Full f os lost W) : nextS f os = (if os[W 1]?.join.isSome then some (W 1) else none) := by
  refine IsNext.eq hf ?_
  cases hw : os[W 1]?.join with
  | none =>
    intro i r hi
    have hlt : i < os.length := (List.getElem?_eq_some_iff.1 hi).1
    obtain ⟨q, h1, -⟩ := h.ahead hf hlt r hi
    rw [h1] at hw
    simp at hw
  | some q =>
    refine ⟨q, join_some hw, fun i r hi => ?_⟩
    have hlt : i < os.length := (List.getElem?_eq_some_iff.1 hi).1
    obtain ⟨q', h1, h2⟩ := h.ahead hf hlt r hi
    rw [h1] at hw
    have e : q' = q := by simpa using hw
    subst e
    exact ⟨fun hlt => by omega, by omega⟩
def winF (f : α → α → Int) (os : List (Option α)) (i : Nat) : Nat :=
  if h : i = 0 ∨ os.length ≤ i then i - os.length else winB f os (winF f os (2 * i)) (winF f os (2 * i + 1))
termination_by os.length - i
decreasing_by all_goals omega
def losF (f : α → α → Int) (os : List (Option α)) (i : Nat) : Nat := losB f os (winF f os (2 * i)) (winF f os (2 * i + 1))
theorem winF_leaf {os : List (Option α)} {i : Nat} (h : os.length ≤ i) : winF f os i = i - os.length := by
  rw [winF, dif_pos (.inr h)]
theorem winF_node {os : List (Option α)} {i : Nat} (h1 : 1 ≤ i) (h : i < os.length) : winF f os i = winB f os (winF f os (2 * i)) (winF f os (2 * i + 1)) := by
  rw [winF, dif_neg (by omega)]
theorem winF_lt {os : List (Option α)} : ∀ n i, 2 * os.length - i = n → 1 ≤ i → i < 2 * os.length → winF f os i < os.length := by
  intro n
  induction n using Nat.strongRecOn with
  | _ n ih =>
    intro i hn h1 h2
    by_cases hi : os.length ≤ i
    · rw [winF_leaf hi]; omega
    · rw [winF_node h1 (by omega)]
      exact winB_lt (ih _ (by omega) (2 * i) rfl (by omega) (by omega)) (ih _ (by omega) (2 * i + 1) rfl (by omega) (by omega))
theorem full_new (hf : Pre f) {os : List (Option α)} {lost : List Nat} (hl : lost.length = os.length) (hx : ∀ x, 1 ≤ x → x < os.length → lost[x]? = some (losF f os x)) (h0 : 0 < os.length → lost[0]? = some (winF f os 1)) : Full f os lost (winF f os) :=
  ⟨hl, fun j _ => by rw [winF_leaf (by omega)]; omega, fun x h1 h2 => ⟨_, hx x h1 h2, by rw [winF_node h1 h2]; exact mat_first hf os _ _⟩, h0⟩
def cntN : Nat → Nat → Nat → Nat
  | 0, _, _ => 0
  | k + 1, m, i => if m ≤ i then 0 else 1 + cntN k m (2 * i) + cntN k m (2 * i + 1)
theorem cnt_le : ∀ m, m < 17 → cntN 4 m 1 ≤ m - 1 := by decide
def sib (y : Nat) : Nat := if y % 2 = 0 then y + 1 else y - 1
theorem sib_half (y : Nat) (h : 2 ≤ y) : sib y / 2 = y / 2 ∧ sib y ≠ y ∧ sib y ≤ y + 1 ∧ 2 ≤ sib y := by
  unfold sib
  split <;> omega
structure Up (f : α → α → Int) (os : List (Option α)) (lost : List Nat) (W : Nat → Nat) (c winner : Nat) : Prop where
  len : lost.length = os.length
  leaf : ∀ j, j < os.length → W (os.length + j) = j
  mat : ∀ x, 1 ≤ x → x < os.length → ¬ Anc x (c / 2) → ∃ l, lost[x]? = some l ∧ Mat f os (W (2 * x)) (W (2 * x + 1)) (W x) l
  up : ∀ y, Anc y c → 2 ≤ y → lost[y / 2]? = some (W (sib y))
  win : W c = winner
  wlt : winner < os.length
  llt : ∀ x l : Nat, lost[x]? = some l → l < os.length
theorem Full.llt {os : List (Option α)} {lost : List Nat} {W : Nat → Nat} (h : Full f os lost W) (x l : Nat) (hl : lost[x]? = some l) : l < os.length := by
  have hx : x < os.length := by rw [← h.len]; exact (List.getElem?_eq_some_iff.1 hl).1
  by_cases h0 : x = 0
  · subst h0
    rw [h.top (by omega)] at hl
    rw [← Option.some.inj hl]
    exact (h.loc _ 1 rfl (by omega) (by omega)).2
  · obtain ⟨l', h1, h2⟩ := h.mat x (by omega) hx
    rw [h1] at hl
    rw [← Option.some.inj hl]
    have a1 := (h.loc _ (2 * x) rfl (by omega) (by omega)).2
    have a2 := (h.loc _ (2 * x + 1) rfl (by omega) (by omega)).2
    rcases h2 with ⟨-, e, -⟩ | ⟨-, e, -⟩ <;> rw [e] <;> assumption
theorem Full.start {os : List (Option α)} {lost : List Nat} {W : Nat → Nat} (h : Full f os lost W) (hm : 0 < os.length) (o : Option α) : Up f (os.set (W 1) o) lost W (W 1 + os.length) (W 1) := by
  have hi := (h.loc _ 1 rfl (by omega) (by omega)).2
  have hne : ∀ z, 1 ≤ z → z < 2 * os.length → W z = W 1 → Anc z (os.length + W 1) := fun z h1 h2 e => by
    have := (h.loc _ z rfl h1 h2).1
    rwa [e] at this
  have hset : ∀ a b, a ≠ W 1 → b ≠ W 1 → Ahead f os a b → Ahead f (os.set (W 1) o) a b := fun a b ha hb hab r hr => by
    rw [List.getElem?_set_ne (Ne.symm hb)] at hr
    rw [List.getElem?_set_ne (Ne.symm ha)]
    exact hab r hr
  have hpath : ∀ z, Anc z (os.length + W 1) → 1 ≤ z → W z = W 1 := by
    intro z
    induction z using Nat.strongRecOn with
    | _ z ih =>
      intro hz h1
      by_cases h2 : z = 1
      · rw [h2]
      · have hzl := hz.le
        obtain ⟨s1, s2, s3, s4⟩ := sib_half z (by omega)
        have i := ih (z / 2) (by omega) hz.half (by omega)
        obtain ⟨l, -, hmt⟩ := h.mat (z / 2) (by omega) (by omega)
        have hsn : W (sib z) ≠ W 1 := fun e => s2 ((hne (sib z) (by omega) (by omega) e).only hz s1 (by omega))
        have hmm : W (z / 2) = W z ∨ W (z / 2) = W (sib z) := by
          unfold sib
          rcases Nat.mod_two_eq_zero_or_one z with hc | hc
          · rw [if_pos hc]
            rw [show 2 * (z / 2) = z by omega] at hmt
            rcases hmt with ⟨e, -, -⟩ | ⟨e, -, -⟩
            · exact .inl e
            · exact .inr e
          · rw [if_neg (by omega)]
            rw [show 2 * (z / 2) + 1 = z by omega, show 2 * (z / 2) = z - 1 by omega] at hmt
            rcases hmt with ⟨e, -, -⟩ | ⟨e, -, -⟩
            · exact .inr e
            · exact .inl e
        rcases hmm with e | e
        · rw [← e, i]
        · exact absurd (e.symm.trans i) hsn
  have hc : W 1 + os.length = os.length + W 1 := by omega
  refine ⟨by rw [List.length_set]; exact h.len, fun j hj => by rw [List.length_set] at hj ⊢; exact h.leaf j hj, fun x h1 h2 hx => ?_, fun y hy h2 => ?_, ?_, by rw [List.length_set]; exact hi, fun x l hl => by rw [List.length_set]; exact h.llt x l hl⟩
  · rw [List.length_set] at h2
    obtain ⟨l, e, hmt⟩ := h.mat x h1 h2
    refine ⟨l, e, ?_⟩
    have k : ∀ z, 1 ≤ z → z < 2 * os.length → z / 2 = x → W z ≠ W 1 := fun z hz1 hz2 hz e => hx (by
      have a := hne z hz1 hz2 e
      rw [hc]
      rcases a.child with hzc | ⟨y, hy, hyz⟩
      · rw [← hz, hzc]; exact Anc.self _
      · have := (hy.half)
        have hyl : Anc (y / 2) ((os.length + W 1) / 2) := by
          obtain ⟨d, rfl⟩ := hy
          exact ⟨d, by rw [Nat.div_div_eq_div_mul, Nat.div_div_eq_div_mul, Nat.mul_comm]⟩
        rw [hyz] at hyl
        rw [← hz]
        exact hyl.half)
    have k0 := k (2 * x) (by omega) (by omega) (by omega)
    have k1 := k (2 * x + 1) (by omega) (by omega) (by omega)
    rcases hmt with ⟨e1, e2, hmt⟩ | ⟨e1, e2, hmt⟩
    · exact .inl ⟨e1, e2, hset _ _ k0 k1 hmt⟩
    · exact .inr ⟨e1, e2, hset _ _ k1 k0 hmt⟩
  · rw [hc] at hy
    have hyl := hy.le
    obtain ⟨s1, s2, s3, s4⟩ := sib_half y h2
    have hsn : W (sib y) ≠ W 1 := fun e => s2 ((hne (sib y) (by omega) (by
      unfold sib
      split
      · omega
      · omega) e).only hy s1 (by omega))
    have hw := hpath (y / 2) hy.half (by omega)
    obtain ⟨l, e, hmt⟩ := h.mat (y / 2) (by omega) (by omega)
    rw [e]
    unfold sib at hsn ⊢
    rcases Nat.mod_two_eq_zero_or_one y with hc2 | hc2
    · rw [if_pos hc2] at hsn ⊢
      rw [show 2 * (y / 2) = y by omega] at hmt
      rcases hmt with ⟨e1, e2, -⟩ | ⟨e1, e2, -⟩
      · rw [e2]
      · exact absurd (e1.symm.trans hw) hsn
    · rw [if_neg (by omega)] at hsn ⊢
      rw [show 2 * (y / 2) + 1 = y by omega, show 2 * (y / 2) = y - 1 by omega] at hmt
      rcases hmt with ⟨e1, e2, -⟩ | ⟨e1, e2, -⟩
      · exact absurd (e1.symm.trans hw) hsn
      · rw [e2]
  · rw [hc]
    exact h.leaf _ hi
theorem Up.step (_hf : Pre f) {os : List (Option α)} {lost : List Nat} {W : Nat → Nat} {c winner q b w l : Nat} (h : Up f os lost W c winner) (hq : c / 2 = q) (h1 : 1 ≤ q) (hc : c < 2 * os.length) (hb : lost[q]? = some b) (hm : Mat f os winner b w l) : ∃ W', Up f os (lost.set q l) W' q w := by
  subst hq
  obtain ⟨W', hW1, hW2⟩ : ∃ W' : Nat → Nat, (∀ x, x ≠ c / 2 → W' x = W x) ∧ W' (c / 2) = w := ⟨fun x => if x = c / 2 then w else W x, fun x h => if_neg h, if_pos rfl⟩
  have hlq : c / 2 < lost.length := by rw [h.len]; omega
  have hbs : b = W (sib c) := by
    have := h.up c (Anc.self c) (by omega)
    rw [hb] at this
    exact Option.some.inj this
  have hup : Anc (c / 2) c := (Anc.self c).half
  have hbl := h.llt _ _ hb
  have hwl : w < os.length ∧ l < os.length := by
    have := h.wlt
    rcases hm with ⟨rfl, rfl, -⟩ | ⟨rfl, rfl, -⟩ <;> constructor <;> assumption
  refine ⟨W', by rw [List.length_set]; exact h.len, fun j hj => ?_, fun x h2 h3 hx => ?_, fun y hy h2 => ?_, hW2, hwl.1, fun x l' hl' => ?_⟩
  · rw [hW1 _ (by omega)]
    exact h.leaf j hj
  · by_cases e : x = c / 2
    · subst e
      refine ⟨l, by rw [List.getElem?_set_self hlq], ?_⟩
      rw [hW1 _ (by omega), hW1 _ (by omega), hW2]
      rw [hbs, ← h.win] at hm
      unfold sib at hm
      rcases Nat.mod_two_eq_zero_or_one c with hc2 | hc2
      · rw [if_pos hc2] at hm
        rw [show 2 * (c / 2) = c by omega]
        exact hm
      · rw [if_neg (by omega)] at hm
        rw [show 2 * (c / 2) + 1 = c by omega, show 2 * (c / 2) = c - 1 by omega]
        exact hm.swap
    · have hx2 : ¬ Anc x (c / 2) := fun ha => by
        rcases ha.child with ha | ⟨y, hy, hyx⟩
        · exact e ha
        · apply hx
          obtain ⟨d, rfl⟩ := hy
          exact ⟨d, by rw [← hyx, div_turn]⟩
      obtain ⟨l', e1, e2⟩ := h.mat x h2 h3 hx2
      refine ⟨l', by rw [List.getElem?_set_ne (Ne.symm e)]; exact e1, ?_⟩
      have n0 : 2 * x ≠ c / 2 := fun e3 => hx (by rw [← e3, show 2 * x / 2 = x by omega]; exact Anc.self x)
      have n1 : 2 * x + 1 ≠ c / 2 := fun e3 => hx (by rw [← e3, show (2 * x + 1) / 2 = x by omega]; exact Anc.self x)
      rw [hW1 _ n0, hW1 _ n1, hW1 _ e]
      exact e2
  · have hyc := hy.trans hup
    have hyl := hy.le
    obtain ⟨s1, s2, s3, s4⟩ := sib_half y h2
    have hsn : sib y ≠ c / 2 := by
      rcases hy.child with e | ⟨z, hz, hzy⟩
      · rw [← e]; exact s2
      · have := hz.le
        omega
    rw [hW1 _ hsn, List.getElem?_set_ne (by omega)]
    exact h.up y hyc h2
  · rcases List.mem_or_eq_of_mem_set (List.mem_of_getElem? hl') with hm' | hm'
    · obtain ⟨x', hx', e'⟩ := List.mem_iff_getElem.1 hm'
      exact h.llt x' l' (by rw [List.getElem?_eq_getElem hx', e'])
    · rw [hm']; exact hwl.2
theorem Up.full {os : List (Option α)} {lost : List Nat} {W : Nat → Nat} {c winner : Nat} (h : Up f os lost W c winner) (hc : c / 2 = 0) (h1 : 1 ≤ c) : Full f os (lost.set 0 winner) W := by
  have hc1 : c = 1 := by omega
  subst hc1
  have hl : 0 < lost.length := by
    have := h.wlt
    rw [h.len]
    omega
  refine ⟨by rw [List.length_set]; exact h.len, h.leaf, fun x h1 h2 => ?_, fun _ => by rw [List.getElem?_set_self hl, h.win]⟩
  obtain ⟨l, e1, e2⟩ := h.mat x h1 h2 fun ha => by
    have := ha.le
    omega
  exact ⟨l, by rw [List.getElem?_set_ne (by omega)]; exact e1, e2⟩
end Go.Proofs.YtaoegcakefodaaaGreat.LosWin

namespace Go.Proofs.YtaoegcakefodaaaGreat
open Go.RowKit Go.BigFrame
theorem ne_val (a b : V) (w : World) : (binOp .neq 56 a.val b.val).run Tryz.prog w = .ok (.bool (decide (a ≠ b))) w := by
  obtain ⟨k, n, s⟩ := a
  obtain ⟨k', n', s'⟩ := b
  unfold V.val
  simp only [ne_eq, V.mk.injEq]
  simp [go_sem]
  by_cases h1 : k = k' <;> by_cases h2 : n = n' <;> by_cases h3 : s = s' <;> simp [h1, h2, h3]
set_option maxRecDepth 100000 in
theorem refSameRow_any (u v : Value) (xs ys : List V) (w : World) (hu : RdVals w u xs) (hv : RdVals w v ys) :
    Calls Tryz.prog 43 #[u, v] w fun e w' => e = .returned (.bool (decide (xs = ys))) ∧ Ext w w' := by
  obtain ⟨ao, ca, rfl, -, -⟩ := hu.shape
  obtain ⟨bo, cb, rfl, -, -⟩ := hv.shape
  obtain ⟨-, h1, h2, hca⟩ := hu.plain
  obtain ⟨-, h3, h4, hcb⟩ := hv.plain
  have HA := Lib.hid hca
  have HB := Lib.hid hcb
  unfold maxLen at h2 h4
  clear hu hv hca hcb
  by_cases hL : xs.length = ys.length
  · have HL := Lib.hid hL
    generalize hN : ys.length = N at h3
    rw [hL, hN] at h1 ⊢
    replace hN := Lib.hid hN
    clear hL
    go_enter Tryz.func43, Tryz.ntmps43
    go_wp2_with fail
    go_loopw [5] (fun i wr => ∃ j : Nat, j ≤ N ∧ i = .int .i64 j ∧ xs.take j = ys.take j ∧ Ext w wr) (fun i _ => N - (intOf i).toNat)
    case atStart => exact ⟨0, Nat.zero_le _, rfl, rfl, Ext.keeps.refl _⟩
    case round =>
      obtain ⟨j, hj, rfl, htk, hext⟩ := hrel
      have HT := Lib.hid htk
      have HE := Lib.hid hext
      clear htk hext
      by_cases hlt : j < N
      · have hjx : j < xs.length := by have := HL.out; have := hN.out; omega
        have hjy : j < ys.length := by have := hN.out; omega
        obtain ⟨g, off, rfl, a0, a1, a2⟩ := HA.out j hjx
        obtain ⟨g', off', rfl, b0, b1, b2⟩ := HB.out j hjy
        have LA := Lib.hid (fun (x : Addr) (y : Value) (h : w.cell? x = some y) (z : Later Ext wr.drew) => (show z.val.cell? x = some y from ((Ext.trans HE.out (Ext.trans (Ext.drew wr) z.ext)).cell (lt_of_cell h)).trans h))
        replace a0 := LA.out _ _ a0
        replace a1 := LA.out _ _ a1
        replace a2 := LA.out _ _ a2
        replace b0 := LA.out _ _ b0
        replace b1 := LA.out _ _ b1
        replace b2 := LA.out _ _ b2
        have HS := Lib.hid (show xs.take (j + 1) = xs.take j ++ [xs[j]] ∧ ys.take (j + 1) = ys.take j ++ [ys[j]] from ⟨List.take_succ_eq_append_getElem hjx, List.take_succ_eq_append_getElem hjy⟩)
        have HG := Lib.hid (show xs[j]? = some xs[j] ∧ ys[j]? = some ys[j] from ⟨List.getElem?_eq_getElem hjx, List.getElem?_eq_getElem hjy⟩)
        have hne := ne_val xs[j] ys[j]
        unfold V.val at hne
        generalize xs[j] = c at a0 a1 a2 HS HG hne
        generalize ys[j] = d at b0 b1 b2 HS HG hne
        clear hjx hjy
        by_cases hcd : c = d
        · subst hcd
          simp only [ne_eq, not_true_eq_false, decide_false] at hne
          go_wp2_with fail
          refine wp_region_segs Ext Ext.keeps [(List.range 9, none)] (by kernel_rfl) (by kernel_rfl) (fun c a a' w e h => (by exact ⟨e ▸ h.1, h.2⟩)) ?_
          simp only [List.range, List.range.loop, pickSegs, pickOps, List.map_cons, List.map_nil, Option.map_none, Option.getD_some, List.getElem?_toArray, List.getElem?_cons_zero, List.getElem?_cons_succ]
          refine wpSegs_none ?_
          repeat go_big_quiet_step (fail)
          refine wpQuiet_nil (wpSegs_nil ?_)
          clear a0 a1 a2 b0 b1 b2 hne
          go_wp2_with fail
          go_roundw
          case rel => exact ⟨j + 1, by omega, by go_num, by rw [HS.out.1, HS.out.2, HT.out], Ext.trans HE.out (Ext.drew wr)⟩
          case measure => simp [intOf]; omega
        · simp only [ne_eq, hcd, not_false_eq_true, decide_true] at hne
          have HNE := Lib.hid (show decide (xs = ys) = false from decide_eq_false (fun h => by subst h; have h1 := HG.out.1; rw [HG.out.2] at h1; exact hcd (Option.some.inj h1).symm))
          clear hcd
          go_wp2_with fail
          refine wp_region_segs Ext Ext.keeps [(List.range 9, none)] (by kernel_rfl) (by kernel_rfl) (fun c a a' w e h => (by exact ⟨e ▸ h.1, h.2⟩)) ?_
          simp only [List.range, List.range.loop, pickSegs, pickOps, List.map_cons, List.map_nil, Option.map_none, Option.getD_some, List.getElem?_toArray, List.getElem?_cons_zero, List.getElem?_cons_succ]
          refine wpSegs_none ?_
          repeat go_big_quiet_step (fail)
          refine wpQuiet_nil (wpSegs_nil ?_)
          clear a0 a1 a2 b0 b1 b2 hne
          go_wp2_with fail
          go_ret
          exact ⟨by rw [HNE.out]; rfl, Ext.trans HE.out (Ext.drew wr)⟩
      · have HEQ := Lib.hid (show decide (xs = ys) = true from decide_eq_true (by have h := HT.out; rw [List.take_of_length_le (by have := HL.out; have := hN.out; omega), List.take_of_length_le (by have := hN.out; omega)] at h; exact h))
        go_wp2_with fail
        go_ret
        exact ⟨by rw [HEQ.out]; rfl, HE.out⟩
  · have HNE := Lib.hid (show decide (xs = ys) = false from decide_eq_false (fun h => hL (by rw [h])))
    have hq : ((xs.length : Int) == (ys.length : Int)) = false := by rw [beq_eq_false_iff_ne]; omega
    clear hL
    generalize xs.length = M at hq h1 ⊢
    generalize ys.length = N at hq h3 ⊢
    go_enter Tryz.func43, Tryz.ntmps43
    go_wp2_with fail
    go_ret
    exact ⟨by rw [HNE.out]; rfl, Ext.keeps.refl _⟩
end Go.Proofs.YtaoegcakefodaaaGreat

namespace Go.Proofs.YtaoegcakefodaaaGreat
open Go.RowKit Go.BigFrame
set_option maxRecDepth 100000 in
set_option maxHeartbeats 1000000 in
theorem refSameRows_any (u v : Value) (xs ys : List (List V)) (w : World) (hu : RdRows w u xs) (hv : RdRows w v ys) :
    Calls Tryz.prog 19 #[u, v] w fun e w' => e = .returned (.bool (decide (xs = ys))) ∧ Ext w w' := by
  obtain ⟨ao, ca, rfl, -, -⟩ := hu.shape
  obtain ⟨bo, cb, rfl, -, -⟩ := hv.shape
  obtain ⟨as', ha1, -, h1, h2, hca⟩ := hu.heads
  obtain ⟨bs, hb1, -, h3, h4, hcb⟩ := hv.heads
  have HA := Lib.hid hca
  have HB := Lib.hid hcb
  have HHA := Lib.hid ha1
  have HHB := Lib.hid hb1
  unfold maxLen at h2 h4
  clear hu hv hca hcb ha1 hb1
  by_cases hL : xs.length = ys.length
  · have HL := Lib.hid hL
    generalize hN : ys.length = N at h3
    rw [hL, hN] at h1 ⊢
    replace hN := Lib.hid hN
    clear hL
    go_enter Tryz.func19, Tryz.ntmps19
    go_wp2_with fail
    go_loopw [5] (fun i wr => ∃ j : Nat, j ≤ N ∧ i = .int .i64 j ∧ xs.take j = ys.take j ∧ Ext w wr) (fun i _ => N - (intOf i).toNat)
    case atStart => exact ⟨0, Nat.zero_le _, rfl, rfl, Ext.keeps.refl _⟩
    case round =>
      obtain ⟨j, hj, rfl, htk, hext⟩ := hrel
      have HT := Lib.hid htk
      have HE := Lib.hid hext
      clear htk hext
      by_cases hlt : j < N
      · have hjx : j < xs.length := by have := HL.out; have := hN.out; omega
        have hjy : j < ys.length := by have := hN.out; omega
        obtain ⟨a1, a2, a3, ha, hra⟩ := HHA.out.get j hjx
        obtain ⟨b1, b2, b3, hb, hrb⟩ := HHB.out.get j hjy
        obtain ⟨g, off, rfl, c0⟩ := HA.out j _ ha
        obtain ⟨g', off', rfl, c1⟩ := HB.out j _ hb
        have z0 : ∀ z : Later Ext wr.drew, z.val.cell? ⟨g, off + j, none⟩ = some (.slice a1 a2 a3) := fun z => ((Ext.trans HE.out (Ext.trans (Ext.drew wr) z.ext)).cell (lt_of_cell c0)).trans c0
        have z1 : ∀ z : Later Ext wr.drew, z.val.cell? ⟨g', off' + j, none⟩ = some (.slice b1 b2 b3) := fun z => ((Ext.trans HE.out (Ext.trans (Ext.drew wr) z.ext)).cell (lt_of_cell c1)).trans c1
        have HS := Lib.hid (show xs.take (j + 1) = xs.take j ++ [xs[j]] ∧ ys.take (j + 1) = ys.take j ++ [ys[j]] from ⟨List.take_succ_eq_append_getElem hjx, List.take_succ_eq_append_getElem hjy⟩)
        have HG := Lib.hid (show xs[j]? = some xs[j] ∧ ys[j]? = some ys[j] from ⟨List.getElem?_eq_getElem hjx, List.getElem?_eq_getElem hjy⟩)
        have HSR := Lib.hid (refSameRow_any _ _ xs[j] ys[j] wr.drew (hra.mono (Ext.trans HE.out (Ext.drew wr))) (hrb.mono (Ext.trans HE.out (Ext.drew wr))))
        generalize xs[j] = c at HS HG HSR
        generalize ys[j] = d at HS HG HSR
        clear hra hrb ha hb c0 c1
        by_cases he : c = d
        · rw [decide_eq_true he] at HSR
          have HEQ := Lib.hid he
          clear he
          go_wp2_with fail
          refine wp_region_segs Ext Ext.keeps [([0, 1, 2, 3, 4, 5, 6, 7], some 8), ([9], none)] (by kernel_rfl) (by kernel_rfl) (fun c a a' w e h => (by exact ⟨e ▸ h.1, h.2⟩)) ?_
          simp only [pickSegs, pickOps, List.map_cons, List.map_nil, Option.map_some, Option.map_none, Option.getD_some, List.getElem?_toArray, List.getElem?_cons_zero, List.getElem?_cons_succ]
          refine wpSegs_some fun K' hK' => ?_
          repeat go_big_quiet_step (fail)
          refine wpQuiet_nil ?_
          clear z0 z1
          go_wp2_with fail
          refine (HSR.out).mono ?_
          rintro e w3 ⟨rfl, hx3⟩
          have HX3 := Lib.hid hx3
          clear hx3
          go_wp2_with fail
          refine ⟨HX3.out, hK' _ _ ?_⟩
          clear hK' K'
          refine wpSegs_none ?_
          repeat go_big_quiet_step (fail)
          refine wpQuiet_nil (wpSegs_nil ?_)
          go_wp2_with fail
          go_roundw
          case rel => exact ⟨j + 1, by omega, by go_num, by rw [HS.out.1, HS.out.2, HT.out, HEQ.out], Ext.trans HE.out (Ext.trans (Ext.drew wr) HX3.out)⟩
          case measure => simp [intOf]; omega
        · rw [decide_eq_false he] at HSR
          have HNE := Lib.hid (show xs ≠ ys from fun h => by
            have h1 := HG.out.1
            rw [h, HG.out.2] at h1
            exact he (Option.some.inj h1).symm)
          clear he
          go_wp2_with fail
          refine wp_region_segs Ext Ext.keeps [([0, 1, 2, 3, 4, 5, 6, 7], some 8), ([9], none)] (by kernel_rfl) (by kernel_rfl) (fun c a a' w e h => (by exact ⟨e ▸ h.1, h.2⟩)) ?_
          simp only [pickSegs, pickOps, List.map_cons, List.map_nil, Option.map_some, Option.map_none, Option.getD_some, List.getElem?_toArray, List.getElem?_cons_zero, List.getElem?_cons_succ]
          refine wpSegs_some fun K' hK' => ?_
          repeat go_big_quiet_step (fail)
          refine wpQuiet_nil ?_
          clear z0 z1
          go_wp2_with fail
          refine (HSR.out).mono ?_
          rintro e w3 ⟨rfl, hx3⟩
          have HX3 := Lib.hid hx3
          clear hx3
          go_wp2_with fail
          refine ⟨HX3.out, hK' _ _ ?_⟩
          clear hK' K'
          refine wpSegs_none ?_
          repeat go_big_quiet_step (fail)
          refine wpQuiet_nil (wpSegs_nil ?_)
          go_wp2_with fail
          go_ret
          exact ⟨by rw [decide_eq_false HNE.out]; rfl, Ext.trans HE.out (Ext.trans (Ext.drew wr) HX3.out)⟩
      · have HEQ := Lib.hid (show xs = ys by
          have h := HT.out
          have := HL.out
          have := hN.out
          rwa [List.take_of_length_le (by omega), List.take_of_length_le (by omega)] at h)
        go_wp2_with fail
        go_ret
        exact ⟨by rw [decide_eq_true HEQ.out]; rfl, HE.out⟩
  · have hne : xs ≠ ys := fun h => hL (by rw [h])
    rw [decide_eq_false hne]
    generalize xs.length = n at h1 hL
    generalize ys.length = k at h3 hL
    have q1 : ((n : Int) != (k : Int)) = true := bne_iff_ne.2 (by omega)
    clear hL
    go_enter Tryz.func19, Tryz.ntmps19
    go_wp2_with fail
    go_ret
    exact ⟨rfl, Ext.keeps.refl _⟩
def FitRs (m : Nat) (rs : List (List V)) : Prop := ∀ r ∈ rs, FitR m r
end Go.Proofs.YtaoegcakefodaaaGreat

namespace Go.Proofs.YtaoegcakefodaaaGreat
open Go.RowKit Go.BigFrame
def numV (n : Int) : List V := [⟨2, n, []⟩]
theorem lit_own (w : World) (r : List V) (hl : r.length ≤ maxLen) : (w.alloc (.cells (r.flatMap V.cells).toArray 56)).ownsRow w.heap.size 56 3 (.slice (some ⟨w.heap.size, 0, none⟩) r.length r.length) r.length (r.flatMap V.cells) := by
  have h := World.ownsRow_lit (base := w.heap.size) (e := 56) (size := 3) w (r.flatMap V.cells).toArray r.length (Nat.le_refl _) hl (by rw [List.size_toArray, valCells_length])
  simpa using h
def FitL (rs : List (List V)) : Prop := FitRs 5000 rs ∧ ∀ r ∈ rs, r.length ≤ 1000000
theorem FitL.append {xs ys : List (List V)} (h : FitL xs) (h' : FitL ys) : FitL (xs ++ ys) := ⟨fun r hr => by
    rcases List.mem_append.1 hr with hr | hr
    · exact h.1 r hr
    · exact h'.1 r hr, fun r hr => by
    rcases List.mem_append.1 hr with hr | hr
    · exact h.2 r hr
    · exact h'.2 r hr⟩
theorem FitL.sort {rs : List (List V)} (h : FitL rs) (ks : List Ky) : FitL (sortS ks rs) := ⟨fun r hr => h.1 r (((sortS_is ks rs).mem (cmpR_pre ks)).1 hr), fun r hr => h.2 r (((sortS_is ks rs).mem (cmpR_pre ks)).1 hr)⟩
end Go.Proofs.YtaoegcakefodaaaGreat

namespace Go.Proofs.YtaoegcakefodaaaGreat
open Go.RowKit Go.BigFrame
def nextI (ks : List Ky) (os : List (Option (List V))) : Int := match LosPure.nextS (cmpR ks) os with | some i => (i : Int) | none => 0
def nextB (ks : List Ky) (os : List (Option (List V))) : Bool := (LosPure.nextS (cmpR ks) os).isSome
end Go.Proofs.YtaoegcakefodaaaGreat

