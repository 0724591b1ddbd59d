/-
  Texts of this proof, merged: OpenVal, OpenVals, OpenRows, LosMem, LosOff, LosIn, LosPure.
-/
import Derived.Lib.SmallJoins
import Derived.Deep.Slices
import Derived.Deep.Fields
import Derived.Lib.LazyBuf
import Derived.Test.YtodjaggihmcllaaZ1
import Derived.Test.YtodjaggihmcllaaZ2
import Derived.Test.YtodjaggihmcllaaZ3
/-
  What an argument that came in as a value of the document (a struct of a kind, a number, a text) is to a walk.
-/
namespace Go.Proofs.Ytodjaggihmcllaa
open Go.ChangeShapes Go.WideShapes Go.ChangeAt Go.RowKit Go.Joins Go.Deep

section
variable {H : Type} {enc : TypeId × Value → H} {P : Program} {w : World} {base : Nat} {held : Bool}

theorem read_val {r : Reach} {b0 : Nat} {t : TypeId} {f0 f1 f2 : Field} {v : Value} {d : DataW H} {p : List MemPlace} (hs : P.underlying t = some (.struct #[f0, f1, f2])) (h0 : P.underlying f0.type = some (.int .u8)) (h1 : P.underlying f1.type = some (.int .i64)) (h2 : P.underlying f2.type = some .string)
    (hone : oneCellFields P #[f0, f1, f2] = true) (hC : P.cellsOf t = 3)
    (hv : Value.okWide P w r b0 t v) (h : DataW.Trod enc P w base (fun _ => true) held t v d p) :
    ∃ a : V, v = a.val ∧ a.fits ∧ a.s.length ≤ maxLen := by
  obtain ⟨v0, v1, v2, y0, y1, y2, n, rfl, _, _, t0, t1, t2⟩ := open_agg3 hs hone hC hv h
  obtain ⟨z0, e0, _, w0⟩ := DataW.trod_int h0 t0
  obtain ⟨z1, e1, _, w1⟩ := DataW.trod_int h1 t1
  obtain ⟨s, e2, _, w2⟩ := DataW.trod_string h2 t2
  simp only [List.cons.injEq, and_true] at e0 e1 e2
  subst e0 e1 e2
  have b0 := bounds_u8 w0
  have b1 := bounds_i64 w1
  refine ⟨⟨z0, z1, s.data.toList⟩, ?_, ⟨b0.1, b0.2, b1.1, b1.2⟩, ?_⟩
  · unfold V.val
    cases s
    simp
  · show s.data.toList.length ≤ maxLen
    cases s
    simpa [ByteArray.size] using w2

end
end Go.Proofs.Ytodjaggihmcllaa

/-
  What an argument that came in as a row of values of the document is to a walk.
-/
namespace Go.Proofs.Ytodjaggihmcllaa
open Go.ChangeShapes Go.WideShapes Go.ChangeAt Go.RowKit Go.Joins Go.Deep

section
variable {H : Type} {enc : TypeId × Value → H} {P : Program} {w : World} {base : Nat} {held : Bool}

theorem read_vals {t e : TypeId} {f0 f1 f2 : Field} {v : Value} {d : DataW H} {ps : List MemPlace} (ht : P.underlying t = some (.slice e)) (hs : P.underlying e = some (.struct #[f0, f1, f2])) (h0 : P.underlying f0.type = some (.int .u8)) (h1 : P.underlying f1.type = some (.int .i64)) (h2 : P.underlying f2.type = some .string)
    (hone : oneCellFields P #[f0, f1, f2] = true) (hC : P.cellsOf e = 3) (hv : v.cells.toList = [v]) (h : DataW.Trod enc P w base (fun _ => true) held t v d ps) :
    ∃ vs : List V, RdVals w v vs ∧ ∀ x ∈ vs, x.fits ∧ x.s.length ≤ maxLen := by
  obtain ⟨fuel, hf⟩ := h
  rw [hv] at hf
  rcases open_slice ht hf with ⟨hcs, _⟩ | ⟨a, len, cap, m, n, D, Pl, hcs, _, hl, hm, hmm, _, hi⟩
  · obtain rfl : v = .slice none 0 0 := by simpa using hcs
    exact ⟨[], ⟨none, 0, rfl, Nat.le_refl _, by simp [maxLen], fun j hj => by simp at hj⟩, by simp⟩
  · obtain rfl : v = .slice (some a) len cap := by simpa using hcs
    have hmc : m = cap := by simpa using hmm
    have key : ∀ i, i < len → ∃ x : V, (x.fits ∧ x.s.length ≤ maxLen) ∧ ∀ j y, x.cells[j]? = some y → w.cell? ((a.add (i * 3)).add j) = some y := fun i hi' => by
      obtain ⟨cs, hc, ht'⟩ := hi i (by omega)
      rw [hC] at hc
      obtain ⟨_, hcl, hat⟩ := World.cells?_some hc
      match cs, hcl with
      | [c0, c1, c2], _ =>
        obtain ⟨y0, y1, y2, n', _, _, k0, k1, k2⟩ := trod_struct3 hs ht'
        obtain ⟨o0, q0⟩ := hone_of hone 0 f0 rfl
        obtain ⟨o1, q1⟩ := hone_of hone 1 f1 rfl
        obtain ⟨o2, q2⟩ := hone_of hone 2 f2 rfl
        rw [o0, q0] at k0
        rw [o1, q1] at k1
        rw [o2, q2] at k2
        obtain ⟨z0, e0, _, w0⟩ := DataW.trod_int h0 k0
        obtain ⟨z1, e1, _, w1⟩ := DataW.trod_int h1 k1
        obtain ⟨s, e2, _, w2⟩ := DataW.trod_string h2 k2
        have e0' : c0 = .int .u8 z0 := by simpa using e0
        have e1' : c1 = .int .i64 z1 := by simpa using e1
        have e2' : c2 = .string s := by simpa using e2
        subst e0' e1' e2'
        have b0 := bounds_u8 w0
        have b1 := bounds_i64 w1
        have hsl : s.data.toList.length = s.size := Array.length_toList
        have hss : (⟨s.data.toList.toArray⟩ : ByteArray) = s := by cases s; simp
        refine ⟨⟨z0, z1, s.data.toList⟩, ⟨⟨b0.1, b0.2, b1.1, b1.2⟩, by show s.data.toList.length ≤ _; rw [hsl]; exact w2⟩, fun j y hj => ?_⟩
        unfold V.cells at hj
        simp only [hss] at hj
        have hj3 : j < 3 := by
          have := (List.getElem?_eq_some_iff.1 hj).1
          simpa using this
        rw [hat j hj3]
        exact hj
    have hall : ∃ vs : List V, vs.length = len ∧ ∀ i, (hi : i < vs.length) → (vs[i].fits ∧ vs[i].s.length ≤ maxLen) ∧ ∀ j y, (vs[i].cells)[j]? = some y → w.cell? ((a.add (i * 3)).add j) = some y := by
      refine ⟨(List.range len).map fun i => if h : i < len then (key i h).choose else V.zero, by simp, fun i hi' => ?_⟩
      have hil : i < len := by simpa using hi'
      rw [List.getElem_map, List.getElem_range, dif_pos hil]
      exact (key i hil).choose_spec
    obtain ⟨vs, hlen, hvs⟩ := hall
    refine ⟨vs, ⟨some a, cap, by rw [hlen], by omega, hm, fun j hj => ?_⟩, fun x hx => ?_⟩
    · obtain ⟨b, off, spot⟩ := a
      have h00 := (hvs 0 (by omega)).2 0 _ rfl
      have hsp : spot = none := by
        have h := World.cell?_spot h00
        cases spot with
        | none => rfl
        | some x =>
          exfalso
          simp [Addr.add] at h
      subst hsp
      exact ⟨b, off, rfl, fun i y hy => by
        have := (hvs j hj).2 i y hy
        rw [add_at, add_at] at this
        exact this⟩
    · obtain ⟨i, hi', rfl⟩ := List.mem_iff_getElem.1 hx
      exact (hvs i hi').1


theorem read_nil {t e : TypeId} {v : Value} {d : DataW H} {ps : List MemPlace} (ht : P.underlying t = some (.slice e)) (hv : v.cells.toList = [v]) (h : DataW.Trod enc P w base (fun _ => true) held t v d ps) :
    ∀ n c, v = .slice none n c → n = 0 ∧ c = 0 := by
  intro n c hn
  obtain ⟨fuel, hf⟩ := h
  rw [hv] at hf
  rcases open_slice ht hf with ⟨hcs, _⟩ | ⟨a, len, cap, m, n, D, Pl, hcs, _⟩
  · obtain rfl : v = .slice none 0 0 := by simpa using hcs
    simp only [Value.slice.injEq] at hn
    exact ⟨hn.2.1.symm, hn.2.2.symm⟩
  · obtain rfl : v = .slice (some a) len cap := by simpa using hcs
    simp at hn

end
end Go.Proofs.Ytodjaggihmcllaa

/-
  What an argument that came in as a row of rows of values of the document is to a walk.
-/
namespace Go.Proofs.Ytodjaggihmcllaa
open Go.ChangeShapes Go.WideShapes Go.ChangeAt Go.RowKit Go.Joins Go.Deep

section
variable {H : Type} {enc : TypeId × Value → H} {P : Program} {w : World} {base : Nat} {held : Bool}

theorem read_rows {t r e : TypeId} {f0 f1 f2 : Field} {v : Value} {d : DataW H} {ps : List MemPlace} (ht : P.underlying t = some (.slice r)) (hr : P.underlying r = some (.slice e)) (hs : P.underlying e = some (.struct #[f0, f1, f2])) (h0 : P.underlying f0.type = some (.int .u8)) (h1 : P.underlying f1.type = some (.int .i64)) (h2 : P.underlying f2.type = some .string)
    (hone : oneCellFields P #[f0, f1, f2] = true) (hC : P.cellsOf e = 3) (hR : P.cellsOf r = 1) (hv : v.cells.toList = [v]) (h : DataW.Trod enc P w base (fun _ => true) held t v d ps) :
    ∃ rs : List (List V), RdRows w v rs ∧ ∀ vs ∈ rs, ∀ x ∈ vs, x.fits ∧ x.s.length ≤ maxLen := by
  obtain ⟨fuel, hf⟩ := h
  rw [hv] at hf
  rcases open_slice1 ht hR hf with ⟨hcs, _⟩ | ⟨a, len, cap, m, n, W, D, Pl, hcs, _, hl, hm, hmm, _, hi⟩
  · obtain rfl : v = .slice none 0 0 := by simpa using hcs
    exact ⟨[], RdRows.nil w, by simp⟩
  · obtain rfl : v = .slice (some a) len cap := by simpa using hcs
    have hmc : m = cap := by simpa using hmm
    have key : ∀ i, i < len → ∃ vs : List V, (∀ x ∈ vs, x.fits ∧ x.s.length ≤ maxLen) ∧ RdVals w (W i) vs ∧ w.cell? (a.add i) = some (W i) := fun i hi' => by
      obtain ⟨hc, ht'⟩ := hi i (by omega)
      obtain ⟨a', l', c', e'⟩ := slice_form hr ht'
      have e'' : W i = .slice a' l' c' := by simpa using e'
      obtain ⟨vs, hvs, hfit⟩ := read_vals (v := W i) (d := D i) (ps := Pl i) hr hs h0 h1 h2 hone hC (by rw [e'']; rfl) ⟨n, by rw [e'']; rw [e''] at ht'; exact ht'⟩
      exact ⟨vs, hfit, hvs, hc⟩
    have hall : ∃ rs : List (List V), rs.length = len ∧ ∀ i, (hi : i < rs.length) → (∀ x ∈ rs[i], x.fits ∧ x.s.length ≤ maxLen) ∧ RdVals w (W i) rs[i] ∧ w.cell? (a.add i) = some (W i) := by
      refine ⟨(List.range len).map fun i => if h : i < len then (key i h).choose else [], by simp, fun i hi' => ?_⟩
      have hil : i < len := by simpa using hi'
      rw [List.getElem_map, List.getElem_range, dif_pos hil]
      exact (key i hil).choose_spec
    obtain ⟨rs, hlen, hrs⟩ := hall
    refine ⟨rs, ⟨some a, cap, by rw [hlen], by omega, hm, fun j hj => ⟨a, W j, rfl, (hrs j hj).2.1, (hrs j hj).2.2⟩⟩, fun x hx => ?_⟩
    obtain ⟨i, hi', rfl⟩ := List.mem_iff_getElem.1 hx
    exact (hrs i hi').1

end
end Go.Proofs.Ytodjaggihmcllaa

/-
  Heads that may be none, and lists of lists of rows, in memory.
-/
namespace Go.Proofs.Ytodjaggihmcllaa
open Go.RowKit Go.BigFrame

/-! ### Heads -/

/-- A slice is this head: none is nil. -/
def OptV (w : World) (v : Value) : Option (List V) → Prop
  | none => v = .slice none 0 0
  | some r => RdVals w v r ∧ ∃ ad n c, v = .slice (some ad) n c

theorem OptV.mono {w w' : World} {v : Value} {o : Option (List V)} (h : OptV w v o) (hb : Below w.heap.size w w') : OptV w' v o := by
  cases o with
  | none => exact h
  | some r => exact ⟨h.1.mono hb, h.2⟩
theorem OptV.shape {w : World} {v : Value} {o : Option (List V)} (h : OptV w v o) : ∃ a n c, v = .slice a n c := by
  cases o with
  | none => exact ⟨none, 0, 0, h⟩
  | some r => obtain ⟨ad, n, c, e⟩ := h.2; exact ⟨_, n, c, e⟩
/-- As a row of nothing. -/
theorem OptV.rd {w : World} {v : Value} {o : Option (List V)} (h : OptV w v o) : RdVals w v (o.getD []) := by
  cases o with
  | none => rw [show v = .slice none 0 0 from h]; exact RdVals.nil w
  | some r => exact h.1

/-- A row that came in, where no address has no room: it is a head, or none. -/
theorem OptV.of_rd {w : World} {v : Value} {r : List V} (h : RdVals w v r) (hz : ∀ n c, v = .slice none n c → n = 0 ∧ c = 0) : ∃ o, OptV w v o ∧ ∀ r', o = some r' → r' = r := by
  obtain ⟨a, c, e, -, -⟩ := h.shape
  cases a with
  | none =>
    obtain ⟨h1, h2⟩ := hz _ c e
    exact ⟨none, by rw [e, h1, h2]; rfl, fun _ h => by cases h⟩
  | some x => exact ⟨some r, ⟨h, x, _, c, e⟩, fun _ h => (Option.some.inj h).symm⟩

/-- These slices are these heads. -/
def HdOpt (w : World) (hs : List Value) (os : List (Option (List V))) : Prop := hs.length = os.length ∧ ∀ i, (h : i < hs.length) → (h' : i < os.length) → OptV w hs[i] os[i]

theorem HdOpt.nil (w : World) : HdOpt w [] [] := ⟨rfl, fun _ h => absurd h (Nat.not_lt_zero _)⟩
theorem HdOpt.mono {w w' : World} {hs : List Value} {os : List (Option (List V))} (h : HdOpt w hs os) (hb : Below w.heap.size w w') : HdOpt w' hs os := ⟨h.1, fun i h1 h2 => (h.2 i h1 h2).mono hb⟩
theorem HdOpt.one {w : World} {v : Value} {o : Option (List V)} (h : OptV w v o) : HdOpt w [v] [o] := ⟨rfl, fun i h1 _ => by
  have : i = 0 := by simpa using h1
  subst this
  exact h⟩
theorem HdOpt.append {w : World} {hs hs' : List Value} {os os' : List (Option (List V))} (h : HdOpt w hs os) (h' : HdOpt w hs' os') : HdOpt w (hs ++ hs') (os ++ os') := by
  refine ⟨by rw [List.length_append, List.length_append, h.1, h'.1], fun i h1 h2 => ?_⟩
  rw [List.length_append] at h1 h2
  by_cases hi : i < hs.length
  · rw [List.getElem_append_left hi, List.getElem_append_left (h.1 ▸ hi)]
    exact h.2 i hi (h.1 ▸ hi)
  · have e := h.1
    rw [List.getElem_append_right (by omega), List.getElem_append_right (by omega)]
    have k := h'.2 (i - hs.length) (by omega) (by omega)
    simp only [e] at k ⊢
    exact k
theorem HdOpt.set {w : World} {hs : List Value} {os : List (Option (List V))} (h : HdOpt w hs os) (j : Nat) {v : Value} {o : Option (List V)} (hv : OptV w v o) : HdOpt w (hs.set j v) (os.set j o) := by
  refine ⟨by rw [List.length_set, List.length_set, h.1], fun i h1 h2 => ?_⟩
  rw [List.length_set] at h1 h2
  rw [List.getElem_set, List.getElem_set]
  by_cases e : j = i
  · rw [if_pos e, if_pos e]; exact hv
  · rw [if_neg e, if_neg e]; exact h.2 i h1 h2
theorem HdOpt.at {w : World} {hs : List Value} {os : List (Option (List V))} (h : HdOpt w hs os) (i : Nat) (hi : i < os.length) : ∃ v, hs[i]? = some v ∧ OptV w v os[i] := ⟨_, List.getElem?_eq_getElem (h.1 ▸ hi), h.2 i (h.1 ▸ hi) hi⟩
theorem HdOpt.oneCell {w : World} {hs : List Value} {os : List (Option (List V))} (h : HdOpt w hs os) : ∀ x ∈ hs, x.oneCell' = true := fun x hx => by
  obtain ⟨i, hi, rfl⟩ := List.mem_iff_getElem.1 hx
  obtain ⟨a, n, c, e⟩ := (h.2 i hi (h.1 ▸ hi)).shape
  rw [e]
  cases a <;> rfl

/-- Heads that fit. -/
def FitO (m : Nat) (os : List (Option (List V))) : Prop := ∀ r, some r ∈ os → FitR m r
theorem FitO.le {m m' : Nat} {os : List (Option (List V))} (h : FitO m os) (hm : m ≤ m') : FitO m' os := fun r hr v hv => ⟨(h r hr v hv).1, Nat.le_trans (h r hr v hv).2 hm⟩
theorem FitO.nil (m : Nat) : FitO m [] := fun r hr => by simp at hr
theorem FitO.snoc {m : Nat} {os : List (Option (List V))} {o : Option (List V)} (h : FitO m os) (ho : ∀ r, o = some r → FitR m r) : FitO m (os ++ [o]) := fun r hr => by
  rcases List.mem_append.1 hr with hr | hr
  · exact h r hr
  · rw [List.mem_singleton] at hr
    exact ho r hr.symm
theorem FitO.set {m : Nat} {os : List (Option (List V))} {o : Option (List V)} (h : FitO m os) (ho : ∀ r, o = some r → FitR m r) (i : Nat) : FitO m (os.set i o) := fun r hr => by
  rcases List.mem_or_eq_of_mem_set hr with hr | hr
  · exact h r hr
  · exact ho r hr.symm

/-! ### Lists -/

/-- These slices read as these lists of rows. -/
def HdLists (w : World) (hs : List Value) (ls : List (List (List V))) : Prop := hs.length = ls.length ∧ ∀ i, (h : i < hs.length) → (h' : i < ls.length) → RdRV w hs[i] ls[i]
theorem HdLists.nil (w : World) : HdLists w [] [] := ⟨rfl, fun _ h => absurd h (Nat.not_lt_zero _)⟩
theorem HdLists.mono {w w' : World} {hs : List Value} {ls : List (List (List V))} (h : HdLists w hs ls) (hb : Below w.heap.size w w') : HdLists w' hs ls := ⟨h.1, fun i h1 h2 => (h.2 i h1 h2).mono hb⟩
theorem HdLists.one {w : World} {v : Value} {l : List (List V)} (h : RdRV w v l) : HdLists w [v] [l] := ⟨rfl, fun i h1 _ => by
  have : i = 0 := by simpa using h1
  subst this
  exact h⟩
theorem HdLists.append {w : World} {hs hs' : List Value} {ls ls' : List (List (List V))} (h : HdLists w hs ls) (h' : HdLists w hs' ls') : HdLists w (hs ++ hs') (ls ++ ls') := by
  refine ⟨by rw [List.length_append, List.length_append, h.1, h'.1], fun i h1 h2 => ?_⟩
  rw [List.length_append] at h1 h2
  by_cases hi : i < hs.length
  · rw [List.getElem_append_left hi, List.getElem_append_left (h.1 ▸ hi)]
    exact h.2 i hi (h.1 ▸ hi)
  · have e := h.1
    rw [List.getElem_append_right (by omega), List.getElem_append_right (by omega)]
    have k := h'.2 (i - hs.length) (by omega) (by omega)
    simp only [e] at k ⊢
    exact k
theorem HdLists.take {w : World} {hs : List Value} {ls : List (List (List V))} (h : HdLists w hs ls) (n : Nat) : HdLists w (hs.take n) (ls.take n) := by
  refine ⟨by rw [List.length_take, List.length_take, h.1], fun i h1 h2 => ?_⟩
  rw [List.length_take] at h1 h2
  rw [List.getElem_take, List.getElem_take]
  exact h.2 i (by omega) (by omega)
theorem HdLists.at {w : World} {hs : List Value} {ls : List (List (List V))} (h : HdLists w hs ls) (i : Nat) (hi : i < ls.length) : ∃ a c, hs[i]? = some (.slice a ls[i].length c) ∧ RdRV w (.slice a ls[i].length c) ls[i] := by
  have h1 := h.2 i (h.1 ▸ hi) hi
  obtain ⟨a, c, e, -, -⟩ := h1.shape
  exact ⟨a, c, by rw [List.getElem?_eq_getElem (h.1 ▸ hi), e], e ▸ h1⟩
theorem HdLists.oneCell {w : World} {hs : List Value} {ls : List (List (List V))} (h : HdLists w hs ls) : ∀ x ∈ hs, x.oneCell' = true := fun x hx => by
  obtain ⟨i, hi, rfl⟩ := List.mem_iff_getElem.1 hx
  obtain ⟨a, c, e, -, -⟩ := (h.2 i hi (h.1 ▸ hi)).shape
  rw [e]
  cases a <;> rfl

/-- A slice reads as these lists of rows. -/
def RdLs (w : World) (u : Value) (ls : List (List (List V))) : Prop := ∃ hs, RdV w u hs ∧ HdLists w hs ls
theorem RdLs.mono {w w' : World} {u : Value} {ls : List (List (List V))} (h : RdLs w u ls) (hb : Below w.heap.size w w') : RdLs w' u ls := by
  obtain ⟨hs, h1, h2⟩ := h
  exact ⟨hs, h1.mono hb, h2.mono hb⟩
theorem RdLs.shape {w : World} {u : Value} {ls : List (List (List V))} (h : RdLs w u ls) : ∃ a c, u = .slice a ls.length c ∧ ls.length ≤ c ∧ c ≤ maxLen := by
  obtain ⟨hs, h1, h2⟩ := h
  obtain ⟨a, c, e, h3, h4, -⟩ := RdV.cellsAt h1
  exact ⟨a, c, by rw [e, h2.1], by rw [← h2.1]; exact h3, h4⟩
theorem RdLs.take {w : World} {ao : Option Addr} {N cap : Nat} {ls : List (List (List V))} (h : RdLs w (.slice ao N cap) ls) (K : Nat) (hK : K ≤ N) : RdLs w (.slice ao K cap) (ls.take K) := by
  obtain ⟨hs, h1, h2⟩ := h
  exact ⟨hs.take K, rdV_first h1 K hK, h2.take K⟩
/-- A list of them, with its place. -/
theorem RdLs.at {w : World} {ao : Option Addr} {N cap : Nat} {ls : List (List (List V))} (h : RdLs w (.slice ao N cap) ls) (i : Nat) (hi : i < ls.length) :
    ∃ g off a c, ao = some ⟨g, off, none⟩ ∧ w.cell? ⟨g, off + i, none⟩ = some (.slice a ls[i].length c) ∧ RdRV w (.slice a ls[i].length c) ls[i] := by
  obtain ⟨hs, h1, h2⟩ := h
  obtain ⟨a, c, e1, e2⟩ := h2.at i hi
  obtain ⟨g, off, e3, e4⟩ := (RdV.plainV h1).2.2.2 i _ e1
  exact ⟨g, off, a, c, e3, e4, e2⟩
theorem RdLs.nil (w : World) : RdLs w (.slice none 0 0) [] := ⟨[], .inl ⟨rfl, rfl⟩, HdLists.nil w⟩
theorem RdRV.nil (w : World) : RdRV w (.slice none 0 0) [] := ⟨[], .inl ⟨rfl, rfl⟩, HdRows.nil w⟩

/-- append(l, r...) of a row of values to one of the call's own, and when it is nil. -/
theorem wpList_append_valsN {ops : Array Oper} {rest : List Oper} {o : Oper} {a : Act} {Q : Exit → Act → World → Prop} {w : World} (hgd : o.guard = none) (s x : Operand) (t : TypeId)
    (ho : o.op = .call { callee := .builtin .append, args := #[s, x], argTypes := #[t, t] }) (ht : Try.prog.underlying t = some (.slice 38))
    (base : Nat) (v : Value) (ps : List V) (u : Value) (r : List V) (hs : a.eval s = v) (hown : w.ownsRow base 38 3 v ps.length (ps.flatMap V.cells))
    (hx : a.eval x = u) (hu : RdVals w u r) (hp : ps.length + r.length ≤ 100000000) (hbase : base ≤ w.heap.size)
    (h : ∀ v' w', w'.ownsRow base 38 3 v' (ps ++ r).length ((ps ++ r).flatMap V.cells) → Below base w w' → OnlyS (fun k => v.ownBlock = some k) w w' → (v' = .slice none 0 0 ↔ v = .slice none 0 0 ∧ r = []) → wpList Try.prog ops Q rest (a.put o.dst v') w') :
    wpList Try.prog ops Q (o :: rest) a w := by
  obtain ⟨i0, hi, hz0, hz1, hz2⟩ := info_parts Try.info_val
  obtain ⟨ao, c, rfl, hlen, hcap, hat⟩ := hu
  have key : ∀ ad : Addr, ao = some ad → ∀ j y, (r.flatMap V.cells)[j]? = some y → w.cell? (ad.add j) = some y := fun ad e j y hj => by
    have hjl : j < r.length * 3 := by
      have := (List.getElem?_eq_some_iff.1 hj).1
      rwa [valCells_length] at this
    obtain ⟨q, m, hq, hm⟩ : ∃ q m, j = q * 3 + m ∧ m < 3 := ⟨j / 3, j % 3, by omega, by omega⟩
    subst hq
    have hql : q < r.length := by omega
    obtain ⟨g, off, e2, hc⟩ := hat q hql
    rw [e] at e2
    rw [Option.some.inj e2, add_at, ← Nat.add_assoc]
    exact hc m y ((valCells r q hql m hm).symm.trans hj)
  have hone : ∀ y ∈ r.flatMap V.cells, y.oneCell' = true := fun y hy => by
    obtain ⟨e, -, he⟩ := List.mem_flatMap.1 hy
    exact val_oneCell e y he
  cases ao with
  | none =>
    have hr : r = [] := by
      cases r with
      | nil => rfl
      | cons b t => obtain ⟨g, off, e, -⟩ := hat 0 (by simp); cases e
    subst hr
    refine wpList_plain hgd fun K hK => ?_
    have hrun := run_append_noneC (P := Try.prog) (w := w) base t o.type 38 i0 3 c ht hi v _ _ hown
    unfold Oper.wp
    simp [execOp, ho, resolve, invoke, builtin, hs, hx, hrun, Result.andThen]
    exact hK _ _ (h v w (by simpa using hown) (Below.refl _ _) (OnlyS.refl _ _) ⟨fun e => ⟨e, rfl⟩, fun e => e.1⟩)
  | some ad =>
    refine wpList_append_own _ hgd s x t ho base 38 i0 _ 3 32 ht hi hz0 hz1 hz2 rfl (by decide) v ps.length _ hs hown ad r.length c (r.flatMap V.cells) hx (valCells_length r) (key ad rfl) hone (by unfold maxLen; omega) (by omega) hbase fun v' w' h1 h2 h3 => h v' w' ?_ ?_ ?_ ?_
    · rw [List.length_append, List.flatMap_append]
      exact h1
    · exact (Below.refl base w).grown h2 hbase (fun b hb => (hown.lt b hb).1)
    · exact OnlyS.of_grown h2
    · rw [h3]
      exact ⟨fun e => ⟨e.1, List.eq_nil_of_length_eq_zero e.2⟩, fun e => ⟨e.1, by rw [e.2]; rfl⟩⟩
/-- A row of one's own that is not nil is a head. -/
theorem OptV.of_own {base : Nat} {w : World} {v : Value} {r : List V} (h : w.ownsRow base 38 3 v r.length (r.flatMap V.cells)) (hn : v ≠ .slice none 0 0) : OptV w v (some r) := by
  refine ⟨RdVals.of_owns h, ?_⟩
  rcases h.2 with ⟨e, -⟩ | ⟨g, c, cur, e, -⟩
  · exact absurd e hn
  · exact ⟨_, _, c, e⟩

end Go.Proofs.Ytodjaggihmcllaa

/-
  What is read elsewhere than in some blocks: rows, lists of rows.
-/
namespace Go.Proofs.Ytodjaggihmcllaa
open Go.RowKit Go.BigFrame

theorem Try.info_rows : (Try.prog.info? 22).map (fun i => (i.zero, i.size, i.bytes)) = some (some (.slice none 0 0), 1, 24) := by kernel_rfl

/-- Rows of different types lie apart. -/
theorem own_apart {base base' size size' n n' : Nat} {e e' : TypeId} {w : World} {u v : Value} {xs ys : List Value} (hne : e ≠ e') (h : w.ownsRow base e size u n xs) (h' : w.ownsRow base' e' size' v n' ys) : ApartV u v := fun k h1 h2 => by
  obtain ⟨c, fz, e1⟩ := Lib.ownsRow_kind h k h1
  obtain ⟨c', fz', e2⟩ := Lib.ownsRow_kind h' k h2
  rw [e1] at e2
  injection e2 with e3
  injection e3 with e4 e5
  exact absurd e5 hne

theorem RdVals.onlyS {Y : Nat → Prop} {w w' : World} {u : Value} {r : List V} (h : RdVals w u r) (ho : OnlyS Y w w') (hx : r ≠ [] → ∀ k, u.ownBlock = some k → ¬ Y k) : RdVals w' u r := by
  obtain ⟨ao, c, rfl, h1, h2, h3⟩ := h
  refine ⟨ao, c, rfl, h1, h2, fun j hj => ?_⟩
  obtain ⟨g, off, rfl, h4⟩ := h3 j hj
  exact ⟨g, off, rfl, fun i y hy => ho.cell (h4 i y hy) (hx (by rintro rfl; simp at hj) g rfl)⟩
theorem RdVals.block {w : World} {u : Value} {r : List V} (h : RdVals w u r) (hr : r ≠ []) {k : Nat} (hk : u.ownBlock = some k) : k < w.heap.size := by
  obtain ⟨ao, c, rfl, h1, h2, h3⟩ := h
  obtain ⟨g, off, rfl, h4⟩ := h3 0 (List.length_pos_iff.2 hr)
  cases hk
  exact lt_of_cell (h4 0 _ rfl)
theorem RdV.block {w : World} {u : Value} {xs : List Value} (h : RdV w u xs) (hx : xs ≠ []) {k : Nat} (hk : u.ownBlock = some k) : k < w.heap.size := by
  rcases h with ⟨-, h⟩ | ⟨x, c, rfl, h1, h2, h3⟩
  · exact absurd h hx
  · have h4 := h3 0 _ (List.getElem?_eq_getElem (List.length_pos_iff.2 hx))
    have h5 := lt_of_cell h4
    cases hk
    have e : (x.add 0).block = x.block := by
      obtain ⟨b, o, s⟩ := x
      unfold Addr.add
      split <;> rfl
    rw [e] at h5
    exact h5

/-- A slice reads as these rows, elsewhere than in X. -/
def RdX (X : Nat → Prop) (w : World) (u : Value) (rs : List (List V)) : Prop :=
  ∃ hs, RdV w u hs ∧ (hs ≠ [] → ∀ k, u.ownBlock = some k → ¬ X k) ∧ hs.length = rs.length ∧ ∀ i, (h : i < hs.length) → (h' : i < rs.length) → RdVals w hs[i] rs[i] ∧ (rs[i] ≠ [] → ∀ k, (hs[i]).ownBlock = some k → ¬ X k)
theorem RdX.rv {X : Nat → Prop} {w : World} {u : Value} {rs : List (List V)} (h : RdX X w u rs) : RdRV w u rs := by
  obtain ⟨hs, h1, -, h2, h3⟩ := h
  exact ⟨hs, h1, h2, fun i a b => (h3 i a b).1⟩
theorem RdX.onlyS {X Y : Nat → Prop} {w w' : World} {u : Value} {rs : List (List V)} (h : RdX X w u rs) (ho : OnlyS Y w w') (hy : ∀ k, Y k → X k) : RdX X w' u rs := by
  obtain ⟨hs, h1, h2, h3, h4⟩ := h
  exact ⟨hs, RdV.onlyS h1 ho (fun a k b c => h2 a k b (hy k c)), h2, h3, fun i a b => ⟨(h4 i a b).1.onlyS ho (fun c k d e => (h4 i a b).2 c k d (hy k e)), (h4 i a b).2⟩⟩
theorem RdX.ext {X : Nat → Prop} {w w' : World} {u : Value} {rs : List (List V)} (h : RdX X w u rs) (hx : Ext w w') : RdX X w' u rs := h.onlyS (Y := fun _ => False) (OnlyS.of_ext hx) fun _ h => h.elim
/-- Other blocks, that are these or new. -/
theorem RdX.turn {X X' : Nat → Prop} {w : World} {u : Value} {rs : List (List V)} (h : RdX X w u rs) (hx : ∀ k, X' k → X k ∨ w.heap.size ≤ k) : RdX X' w u rs := by
  obtain ⟨hs, h1, h2, h3, h4⟩ := h
  refine ⟨hs, h1, fun a k b c => ?_, h3, fun i a b => ⟨(h4 i a b).1, fun c k d e => ?_⟩⟩
  · rcases hx k c with h5 | h5
    · exact h2 a k b h5
    · have := RdV.block h1 a b; omega
  · rcases hx k e with h5 | h5
    · exact (h4 i a b).2 c k d h5
    · have := (h4 i a b).1.block c d; omega
theorem Cp.off {X : Nat → Prop} {base : Nat} {w : World} {u : Value} {rs : List (List V)} (h : Cp base w u rs) (hx : ∀ k, X k → k < base) : RdX X w u rs := by
  obtain ⟨hs, h1, h2, h3⟩ := h
  refine ⟨hs, h1.rd, fun a k b c => ?_, h2, fun i a b => ⟨(h3 i a b).rd, fun c k d e => ?_⟩⟩
  · rcases h1 with h1 | ⟨h1, -⟩
    · have := (h1.lt k b).1
      have := hx k c
      omega
    · exact a h1
  · rcases h3 i a b with h4 | ⟨h4, -⟩
    · have := (h4.lt k d).1
      have := hx k e
      omega
    · exact c h4

/-- These slices read as these lists, elsewhere than in X. -/
def LsX (X : Nat → Prop) (w : World) (hs : List Value) (ls : List (List (List V))) : Prop := hs.length = ls.length ∧ ∀ i, (h : i < hs.length) → (h' : i < ls.length) → RdX X w hs[i] ls[i]
theorem LsX.nil (X : Nat → Prop) (w : World) : LsX X w [] [] := ⟨rfl, fun _ h => absurd h (Nat.not_lt_zero _)⟩
theorem LsX.hd {X : Nat → Prop} {w : World} {hs : List Value} {ls : List (List (List V))} (h : LsX X w hs ls) : HdLists w hs ls := ⟨h.1, fun i a b => (h.2 i a b).rv⟩
theorem LsX.onlyS {X Y : Nat → Prop} {w w' : World} {hs : List Value} {ls : List (List (List V))} (h : LsX X w hs ls) (ho : OnlyS Y w w') (hy : ∀ k, Y k → X k) : LsX X w' hs ls := ⟨h.1, fun i a b => (h.2 i a b).onlyS ho hy⟩
theorem LsX.ext {X : Nat → Prop} {w w' : World} {hs : List Value} {ls : List (List (List V))} (h : LsX X w hs ls) (hx : Ext w w') : LsX X w' hs ls := ⟨h.1, fun i a b => (h.2 i a b).ext hx⟩
theorem LsX.turn {X X' : Nat → Prop} {w : World} {hs : List Value} {ls : List (List (List V))} (h : LsX X w hs ls) (hx : ∀ k, X' k → X k ∨ w.heap.size ≤ k) : LsX X' w hs ls := ⟨h.1, fun i a b => (h.2 i a b).turn hx⟩
theorem LsX.snoc {X : Nat → Prop} {w : World} {hs : List Value} {ls : List (List (List V))} {v : Value} {l : List (List V)} (h : LsX X w hs ls) (hv : RdX X w v l) : LsX X w (hs ++ [v]) (ls ++ [l]) := by
  refine ⟨by rw [List.length_append, List.length_append, h.1]; rfl, fun i h1 h2 => ?_⟩
  rw [List.length_append] at h1 h2
  by_cases hi : i < hs.length
  · rw [List.getElem_append_left hi, List.getElem_append_left (h.1 ▸ hi)]
    exact h.2 i hi (h.1 ▸ hi)
  · have e := h.1
    have e1 : (hs ++ [v])[i] = v := by
      rw [List.getElem_append_right (by omega)]
      simp
    have e2 : (ls ++ [l])[i] = l := by
      rw [List.getElem_append_right (by omega)]
      simp
    rw [e1, e2]
    exact hv

/-- append(l, s...), and where the row lies then. -/
theorem wpList_append_rdA {P : Program} {w : World} {ops : Array Oper} {rest : List Oper} {o : Oper} {a : Act} {Q : Exit → Act → World → Prop} (hgd : o.guard = none) (s x : Operand) (t : TypeId)
    (ho : o.op = .call { callee := .builtin .append, args := #[s, x], argTypes := #[t, t] })
    (base : Nat) (e : TypeId) (i : TypeInfo) (z : Value) (bytes : Nat) (ht : P.underlying t = some (.slice e)) (hi : P.info? e = some i) (hz : i.zero = some z)
    (hsize : i.size = 1) (hby : i.bytes = bytes) (hzs : z.cells.size = 1)
    (v : Value) (n : Nat) (xs : List Value) (hs : a.eval s = v) (hown : w.ownsRow base e 1 v n xs)
    (u : Value) (news : List Value) (hx : a.eval x = u) (hu : RdV w u news) (h1 : ∀ u ∈ news, u.oneCell' = true)
    (h63 : n + news.length ≤ maxLen) (hbytes : (n + news.length) * bytes ≤ 140737488355328) (hbase : base ≤ w.heap.size)
    (h : ∀ v' w', w'.ownsRow base e 1 v' (n + news.length) (xs ++ news) → Below base w w' → OnlyS (fun k => v.ownBlock = some k) w w' → Grew w v v' → wpList P ops Q rest (a.put o.dst v') w') : wpList P ops Q (o :: rest) a w := by
  rcases hu with ⟨rfl, rfl⟩ | ⟨ad, cap, rfl, h2, h3, h4⟩
  · refine wpList_append_own_none hgd s x t ho base e i 1 ht hi v n xs hs hown hx ?_
    refine h v w ?_ (Below.refl _ _) (OnlyS.refl _ _) (.inl rfl)
    simpa using hown
  · exact wpList_append_apart _ hgd s x t ho base e i z 1 bytes ht hi hz hsize hby hzs (by decide) v n xs hs hown ad news.length cap news hx (by rw [Nat.mul_one]) h4 h1 h63 hbytes hbase fun v' w' a b c => h v' w' a ((Below.refl base w).grown b hbase (fun b hb => (hown.lt b hb).1)) (OnlyS.of_grown b) c

end Go.Proofs.Ytodjaggihmcllaa

/-
  Heads that lie in some blocks; a row that is put, and written then.
-/
namespace Go.Proofs.Ytodjaggihmcllaa
open Go.RowKit Go.BigFrame

/-- A slice is this head, in blocks of X. -/
def OptI (X : Nat → Prop) (w : World) (v : Value) : Option (List V) → Prop
  | none => v = .slice none 0 0
  | some r => (RdVals w v r ∧ ∃ ad n c, v = .slice (some ad) n c) ∧ (r ≠ [] → ∀ k, v.ownBlock = some k → X k)
theorem OptI.opt {X : Nat → Prop} {w : World} {v : Value} {o : Option (List V)} (h : OptI X w v o) : OptV w v o := by
  cases o with
  | none => exact h
  | some r => exact h.1
theorem OptI.onlyS {X Y : Nat → Prop} {w w' : World} {v : Value} {o : Option (List V)} (h : OptI X w v o) (ho : OnlyS Y w w') (hy : ∀ k, X k → ¬ Y k) : OptI X w' v o := by
  cases o with
  | none => exact h
  | some r => exact ⟨⟨h.1.1.onlyS ho (fun hr k hk => hy k (h.2 hr k hk)), h.1.2⟩, h.2⟩
theorem OptI.turn {X X' : Nat → Prop} {w : World} {v : Value} {o : Option (List V)} (h : OptI X w v o) (hx : ∀ k, k < w.heap.size → X k → X' k) : OptI X' w v o := by
  cases o with
  | none => exact h
  | some r => exact ⟨h.1, fun hr k hk => hx k (h.1.1.block hr hk) (h.2 hr k hk)⟩

/-- These slices are these heads, in blocks of X. -/
def HdI (X : Nat → Prop) (w : World) (hs : List Value) (os : List (Option (List V))) : Prop := hs.length = os.length ∧ ∀ i, (h : i < hs.length) → (h' : i < os.length) → OptI X w hs[i] os[i]
theorem HdI.nil (X : Nat → Prop) (w : World) : HdI X w [] [] := ⟨rfl, fun _ h => absurd h (Nat.not_lt_zero _)⟩
theorem HdI.opt {X : Nat → Prop} {w : World} {hs : List Value} {os : List (Option (List V))} (h : HdI X w hs os) : HdOpt w hs os := ⟨h.1, fun i a b => (h.2 i a b).opt⟩
theorem HdI.onlyS {X Y : Nat → Prop} {w w' : World} {hs : List Value} {os : List (Option (List V))} (h : HdI X w hs os) (ho : OnlyS Y w w') (hy : ∀ k, X k → ¬ Y k) : HdI X w' hs os := ⟨h.1, fun i a b => (h.2 i a b).onlyS ho hy⟩
theorem HdI.ext {X : Nat → Prop} {w w' : World} {hs : List Value} {os : List (Option (List V))} (h : HdI X w hs os) (hx : Ext w w') : HdI X w' hs os := h.onlyS (Y := fun _ => False) (OnlyS.of_ext hx) fun _ _ h => h
theorem HdI.turn {X X' : Nat → Prop} {w : World} {hs : List Value} {os : List (Option (List V))} (h : HdI X w hs os) (hx : ∀ k, k < w.heap.size → X k → X' k) : HdI X' w hs os := ⟨h.1, fun i a b => (h.2 i a b).turn hx⟩
theorem HdI.snoc {X : Nat → Prop} {w : World} {hs : List Value} {os : List (Option (List V))} {v : Value} {o : Option (List V)} (h : HdI X w hs os) (hv : OptI X w v o) : HdI X w (hs ++ [v]) (os ++ [o]) := by
  refine ⟨by rw [List.length_append, List.length_append, h.1]; rfl, fun i h1 h2 => ?_⟩
  rw [List.length_append] at h1 h2
  by_cases hi : i < hs.length
  · rw [List.getElem_append_left hi, List.getElem_append_left (h.1 ▸ hi)]
    exact h.2 i hi (h.1 ▸ hi)
  · have e := h.1
    have e1 : (hs ++ [v])[i] = v := by
      rw [List.getElem_append_right (by omega)]
      simp
    have e2 : (os ++ [o])[i] = o := by
      rw [List.getElem_append_right (by omega)]
      simp
    rw [e1, e2]
    exact hv
theorem HdI.set {X : Nat → Prop} {w : World} {hs : List Value} {os : List (Option (List V))} (h : HdI X w hs os) (j : Nat) {v : Value} {o : Option (List V)} (hv : OptI X w v o) : HdI X w (hs.set j v) (os.set j o) := by
  refine ⟨by rw [List.length_set, List.length_set, h.1], fun i h1 h2 => ?_⟩
  rw [List.length_set] at h1 h2
  rw [List.getElem_set, List.getElem_set]
  by_cases e : j = i
  · rw [if_pos e, if_pos e]; exact hv
  · rw [if_neg e, if_neg e]; exact h.2 i h1 h2

/-- Short rows of short texts. -/
def GoodO (os : List (Option (List V))) : Prop := ∀ r, some r ∈ os → r.length ≤ 20 ∧ FitR 200 r
theorem GoodO.fit {os : List (Option (List V))} (h : GoodO os) : FitO 200 os := fun r hr => (h r hr).2
theorem GoodO.snoc {os : List (Option (List V))} {o : Option (List V)} (h : GoodO os) (ho : ∀ r, o = some r → r.length ≤ 20 ∧ FitR 200 r) : GoodO (os ++ [o]) := fun r hr => by
  rcases List.mem_append.1 hr with hr | hr
  · exact h r hr
  · rw [List.mem_singleton] at hr
    exact ho r hr.symm
theorem GoodO.set {os : List (Option (List V))} {o : Option (List V)} (h : GoodO os) (ho : ∀ r, o = some r → r.length ≤ 20 ∧ FitR 200 r) (i : Nat) : GoodO (os.set i o) := fun r hr => by
  rcases List.mem_or_eq_of_mem_set hr with hr | hr
  · exact h r hr
  · exact ho r hr.symm

/-- What is put: nil, or a row of one's own. -/
def NX (b0 : Nat) (w : World) (v : Value) : Option (List V) → Prop
  | none => v = .slice none 0 0
  | some r => (w.ownsRow b0 38 3 v r.length (r.flatMap V.cells) ∧ v ≠ .slice none 0 0) ∧ r ≠ [] ∧ r.length ≤ 20 ∧ FitR 200 r
theorem NX.opt {b0 : Nat} {w : World} {v : Value} {o : Option (List V)} (h : NX b0 w v o) : OptV w v o := by
  cases o with
  | none => exact h
  | some r => exact OptV.of_own h.1.1 h.1.2
theorem NX.fit {b0 : Nat} {w : World} {v : Value} {o : Option (List V)} (h : NX b0 w v o) : ∀ r, o = some r → r.length ≤ 20 ∧ FitR 200 r := fun r e => by
  subst e
  exact h.2.2
theorem NX.shape {b0 : Nat} {w : World} {v : Value} {o : Option (List V)} (h : NX b0 w v o) : ∃ a c, v = .slice a (o.getD []).length c := by
  cases o with
  | none => exact ⟨none, 0, h⟩
  | some r =>
    obtain ⟨a, c, e⟩ := owns3_shape h.1.1
    exact ⟨a, c, e⟩
theorem NX.lt {b0 : Nat} {w : World} {v : Value} {o : Option (List V)} (h : NX b0 w v o) {k : Nat} (hk : v.ownBlock = some k) : b0 ≤ k ∧ k < w.heap.size := by
  cases o with
  | none => rw [show v = .slice none 0 0 from h] at hk; cases hk
  | some r => exact h.1.1.lt k hk

/-- A row of one's own, whatever it holds by now. -/
def Spl (b0 : Nat) (w : World) (v : Value) (n : Nat) : Prop := (v = .slice none 0 0 ∧ n = 0) ∨ ∃ ys, w.ownsRow b0 38 3 v n ys
theorem NX.spl {b0 : Nat} {w : World} {v : Value} {o : Option (List V)} (h : NX b0 w v o) : Spl b0 w v (o.getD []).length := by
  cases o with
  | none => exact .inl ⟨h, rfl⟩
  | some r => exact .inr ⟨_, h.1.1⟩
theorem Spl.onlyS {b0 n : Nat} {Y : Nat → Prop} {w w' : World} {v : Value} (h : Spl b0 w v n) (ho : OnlyS Y w w') (hy : ∀ k, v.ownBlock = some k → ¬ Y k) : Spl b0 w' v n := by
  rcases h with h | ⟨ys, h⟩
  · exact .inl h
  · refine .inr ⟨ys, h.1, ?_⟩
    rcases h.2 with ⟨rfl, h2⟩ | ⟨g, cap, cur, rfl, h2, h3, h4, h5, h6, h7⟩
    · exact .inl ⟨rfl, h2⟩
    · exact .inr ⟨g, cap, cur, rfl, h2, (ho.block g (Array.getElem?_eq_some_iff.1 h3).1 (hy g rfl)).trans h3, h4, h5, h6, h7⟩
theorem Spl.get {b0 n c : Nat} {w : World} {a : Option Addr} (h : Spl b0 w (.slice a n c) n) {j : Nat} (hj : j < n) : ∃ g, a = some ⟨g, 0, none⟩ ∧ (∃ u, w.cell? ⟨g, j * 3 + 1, none⟩ = some u) ∧ w.frozen? ⟨g, j * 3 + 1, none⟩ = false ∧ b0 ≤ g ∧ n ≤ c ∧ c ≤ maxLen ∧ ∀ u, Spl b0 (w.setCell ⟨g, j * 3 + 1, none⟩ u) (.slice a n c) n := by
  rcases h with ⟨-, h⟩ | ⟨ys, h⟩
  · omega
  · rcases h.2 with ⟨e, h3⟩ | ⟨g, c', cur, e, h4, h5, h6, h7, h8, h9⟩
    · omega
    · simp only [Value.slice.injEq] at e
      obtain ⟨rfl, -, rfl⟩ := e
      have hjl : j * 3 + 1 < n * 3 := by omega
      exact ⟨g, rfl, ⟨_, (h.cellAt _ hjl).trans (List.getElem?_eq_getElem (by rw [h.1]; exact hjl))⟩, h.frozenAt _, h4, h6, h7, fun u => .inr ⟨_, (h.stored _ u).1⟩⟩

/-- A row of heads of one's own, at a place. -/
theorem own_at {base n c : Nat} {e : TypeId} {w : World} {a : Option Addr} {xs : List Value} (h : w.ownsRow base e 1 (.slice a n c) n xs) {i : Nat} (hi : i < n) :
    ∃ g, a = some ⟨g, 0, none⟩ ∧ (∃ u, w.cell? ⟨g, i, none⟩ = some u) ∧ w.frozen? ⟨g, i, none⟩ = false ∧ base ≤ g ∧ g < w.heap.size ∧ ∀ u, (w.setCell ⟨g, i, none⟩ u).ownsRow base e 1 (.slice a n c) n (xs.set i u) := by
  rcases h.2 with ⟨e1, h3⟩ | ⟨g, c', cur, e1, h4, h5, h6, h7, h8, h9⟩
  · omega
  · simp only [Value.slice.injEq] at e1
    obtain ⟨rfl, -, rfl⟩ := e1
    exact ⟨g, rfl, ⟨_, (h.cellAt i (by omega)).trans (List.getElem?_eq_getElem (by rw [h.1]; omega))⟩, h.frozenAt i, h4, (h.lt g rfl).2, fun u => (h.stored i u).1⟩
theorem only_set (g j : Nat) (w : World) (u : Value) : OnlyS (fun k => k = g) w (w.setCell ⟨g, j, none⟩ u) := OnlyS.of_onlyP (OnlyP.set g j w u) rfl

end Go.Proofs.Ytodjaggihmcllaa

/-
  Lists as one: which one's first comes next, and what comes of all. No program.
-/
namespace Go.Proofs.Ytodjaggihmcllaa.LosPure
open OrdPure

variable {α : Type} {f : α → α → Int}

/-- Which comes next: the first of the least. -/
def nextS (f : α → α → Int) : List (Option α) → Option Nat
  | [] => none
  | none :: t => (nextS f t).map (· + 1)
  | some r :: t => match nextS f t with
    | none => some 0
    | some j => match t[j]? with
      | some (some q) => if f r q ≤ 0 then some 0 else some (j + 1)
      | _ => some 0

/-- It is none, if there is none; else none is ahead of it, and none of the earlier ones is like it. -/
def IsNext (f : α → α → Int) (os : List (Option α)) : Option Nat → Prop
  | none => ∀ (i : Nat) (r : α), os[i]? ≠ some (some r)
  | some j => ∃ q, os[j]? = some (some q) ∧ ∀ (i : Nat) (r : α), os[i]? = some (some r) → (i < j → f q r < 0) ∧ f q r ≤ 0

theorem nextS_is (hf : Pre f) : ∀ os : List (Option α), IsNext f os (nextS f os)
  | [] => by intro i r h; simp at h
  | none :: t => by
    have ih := nextS_is hf t
    unfold nextS
    cases hn : nextS f t with
    | none =>
      rw [hn] at ih
      intro i r h
      cases i with
      | zero => simp at h
      | succ i => exact ih i r (by simpa using h)
    | some j =>
      rw [hn] at ih
      obtain ⟨q, h1, h2⟩ := ih
      refine ⟨q, by simpa using h1, fun i r h => ?_⟩
      cases i with
      | zero => simp at h
      | succ i =>
        have h3 := h2 i r (by simpa using h)
        exact ⟨fun hi => h3.1 (by have hi' : i + 1 < j + 1 := hi; omega), h3.2⟩
  | some r :: t => by
    have ih := nextS_is hf t
    unfold nextS
    cases hn : nextS f t with
    | none =>
      rw [hn] at ih
      refine ⟨r, by simp, fun i r' h => ?_⟩
      cases i with
      | zero =>
        have e : r = r' := by simpa using h
        subst e
        exact ⟨fun hi => absurd hi (Nat.not_lt_zero _), by rw [hf.refl]; omega⟩
      | succ i => exact absurd (by simpa using h) (ih i r')
    | some j =>
      rw [hn] at ih
      obtain ⟨q, h1, h2⟩ := ih
      simp only [h1]
      by_cases hq : f r q ≤ 0
      · rw [if_pos hq]
        refine ⟨r, by simp, fun i r' h => ?_⟩
        cases i with
        | zero =>
          have e : r = r' := by simpa using h
          subst e
          exact ⟨fun hi => absurd hi (Nat.not_lt_zero _), by rw [hf.refl]; omega⟩
        | succ i => exact ⟨fun hi => absurd hi (Nat.not_lt_zero _), hf.trans _ _ _ hq (h2 i r' (by simpa using h)).2⟩
      · rw [if_neg hq]
        refine ⟨q, by simpa using h1, fun i r' h => ?_⟩
        cases i with
        | zero =>
          have e : r = r' := by simpa using h
          subst e
          have := hf.neg r q
          exact ⟨fun _ => by omega, by omega⟩
        | succ i =>
          have h3 := h2 i r' (by simpa using h)
          exact ⟨fun hi => h3.1 (by omega), h3.2⟩

theorem IsNext.unique (hf : Pre f) {os : List (Option α)} {a b : Option Nat} (ha : IsNext f os a) (hb : IsNext f os b) : a = b := by
  cases a with
  | none =>
    cases b with
    | none => rfl
    | some j => obtain ⟨q, h1, -⟩ := hb; exact absurd h1 (ha j q)
  | some i =>
    obtain ⟨p, h1, h2⟩ := ha
    cases b with
    | none => exact absurd h1 (hb i p)
    | some j =>
      obtain ⟨q, h3, h4⟩ := hb
      have a1 := h2 j q h3
      have a2 := h4 i p h1
      have := hf.neg p q
      rcases Nat.lt_trichotomy i j with h | h | h
      · have := a2.1 h; omega
      · rw [h]
      · have := a1.1 h; omega
theorem IsNext.eq (hf : Pre f) {os : List (Option α)} {b : Option Nat} (h : IsNext f os b) : nextS f os = b := IsNext.unique hf (nextS_is hf os) h
theorem next_some (hf : Pre f) {os : List (Option α)} {j : Nat} (h : nextS f os = some j) : ∃ q, os[j]? = some (some q) ∧ ∀ i r, os[i]? = some (some r) → (i < j → f q r < 0) ∧ f q r ≤ 0 := by
  have := nextS_is hf os
  rw [h] at this
  exact this
theorem next_none (hf : Pre f) {os : List (Option α)} (h : nextS f os = none) : ∀ (i : Nat) (r : α), os[i]? ≠ some (some r) := by
  have := nextS_is hf os
  rw [h] at this
  exact this

/-- So many of the lists' rows, one behind the other. -/
def mergeN (f : α → α → Int) : Nat → List (List α) → List α
  | 0, _ => []
  | n + 1, ls => match nextS f (ls.map List.head?) with
    | none => []
    | some i => match ls[i]? with
      | some (x :: t) => x :: mergeN f n (ls.set i t)
      | _ => []
def mergeL (f : α → α → Int) (ls : List (List α)) : List α := mergeN f ls.flatten.length ls

theorem set_parts {ls : List α} {i : Nat} {x : α} (h : ls[i]? = some x) (y : α) : ls = ls.take i ++ x :: ls.drop (i + 1) ∧ ls.set i y = ls.take i ++ y :: ls.drop (i + 1) := by
  obtain ⟨hi, rfl⟩ := List.getElem?_eq_some_iff.1 h
  refine ⟨?_, List.set_eq_take_append_cons_drop.trans (if_pos hi)⟩
  conv => lhs; rw [← List.take_append_drop i ls]
  rw [List.drop_eq_getElem_cons hi]

theorem mergeN_sort (hf : Pre f) : ∀ (n : Nat) (ls : List (List α)), ls.flatten.length = n → (∀ l ∈ ls, Rising f l) → IsSort f ls.flatten (mergeN f n ls)
  | 0, ls, hn, _ => by
    rw [List.eq_nil_of_length_eq_zero hn]
    exact IsSort.nil
  | n + 1, ls, hn, hr => by
    unfold mergeN
    cases hx : nextS f (ls.map List.head?) with
    | none =>
      exfalso
      have h0 := next_none hf hx
      have h1 : ls.flatten = [] := by
        rw [List.flatten_eq_nil_iff]
        intro l hl
        obtain ⟨i, hi, rfl⟩ := List.mem_iff_getElem.1 hl
        cases hc : ls[i] with
        | nil => rfl
        | cons x t =>
          refine absurd ?_ (h0 i x)
          rw [List.getElem?_map, List.getElem?_eq_getElem hi, hc]
          rfl
      rw [h1] at hn
      simp at hn
    | some i =>
      obtain ⟨q, h1, h2⟩ := next_some hf hx
      rw [List.getElem?_map] at h1
      cases hc : ls[i]? with
      | none => rw [hc] at h1; simp at h1
      | some l =>
        rw [hc] at h1
        cases l with
        | nil => simp at h1
        | cons q' t =>
          have e : q' = q := by simpa using h1
          subst e
          simp only [hc]
          obtain ⟨e1, e2⟩ := set_parts hc t
          have key : ∀ k l', ls[k]? = some l' → ∀ y ∈ l', (k < i → 0 < f y q') ∧ f q' y ≤ 0 := fun k l' hk y hy => by
            have hl' : l' ∈ ls := List.mem_of_getElem? hk
            cases l' with
            | nil => simp at hy
            | cons h t' =>
              have h3 := h2 k h (by rw [List.getElem?_map, hk]; rfl)
              rcases List.mem_cons.1 hy with rfl | hy
              · have := hf.neg q' y
                exact ⟨fun hi => by have := h3.1 hi; omega, h3.2⟩
              · have h4 := (List.pairwise_cons.1 (hr _ hl')).1 y hy
                refine ⟨fun hi => ?_, hf.trans _ _ _ h3.2 h4⟩
                have h5 := h3.1 hi
                have h6 := hf.trans h y q' h4
                have := hf.neg q' h
                omega
          have hA : ∀ a ∈ (ls.take i).flatten, 0 < f a q' := fun a ha => by
            obtain ⟨l', hl', hal⟩ := List.mem_flatten.1 ha
            obtain ⟨k, hk, rfl⟩ := List.mem_iff_getElem.1 hl'
            rw [List.length_take] at hk
            rw [List.getElem_take] at hal
            exact (key k _ (List.getElem?_eq_getElem (by omega)) a hal).1 (by omega)
          have hset : (ls.set i t).flatten = (ls.take i).flatten ++ (t ++ (ls.drop (i + 1)).flatten) := by
            rw [e2, List.flatten_append, List.flatten_cons]
          have hfl : ls.flatten = (ls.take i).flatten ++ q' :: (t ++ (ls.drop (i + 1)).flatten) := by
            conv => lhs; rw [e1]
            rw [List.flatten_append, List.flatten_cons, List.cons_append]
          have ih := mergeN_sort hf n (ls.set i t) (by
            rw [hset]
            rw [hfl] at hn
            simp only [List.length_append, List.length_cons] at hn ⊢
            omega) (fun l' hl' => by
              rcases List.mem_or_eq_of_mem_set hl' with h | h
              · exact hr l' h
              · subst h
                exact (List.pairwise_cons.1 (hr _ (List.mem_of_getElem? hc))).2)
          rw [hset] at ih
          rw [hfl]
          refine ⟨List.pairwise_cons.2 ⟨fun y hy => ?_, ih.1⟩, ?_⟩
          · have hy' : y ∈ ls.flatten := by
              rw [hfl]
              have := (ih.mem hf).1 hy
              rw [List.mem_append] at this ⊢
              rcases this with h | h
              · exact .inl h
              · exact .inr (List.mem_cons_of_mem _ h)
            obtain ⟨l', hl', hyl⟩ := List.mem_flatten.1 hy'
            obtain ⟨k, hk, rfl⟩ := List.mem_iff_getElem.1 hl'
            exact (key k _ (List.getElem?_eq_getElem hk) y hyl).2
          · have h5 : Stable f ((ls.take i).flatten ++ [q']) ([q'] ++ (ls.take i).flatten) := Stable.blocks hf (fun a ha b hb => by
              rw [List.mem_singleton] at hb
              subst hb
              exact hA a ha)
            have h6 := Stable.append h5 (Stable.refl (f := f) (t ++ (ls.drop (i + 1)).flatten))
            rw [List.append_assoc, List.append_assoc] at h6
            exact Stable.trans h6 (Stable.append (Stable.refl [q']) ih.2)

theorem mergeL_sort (hf : Pre f) {ls : List (List α)} (hr : ∀ l ∈ ls, Rising f l) : IsSort f ls.flatten (mergeL f ls) := mergeN_sort hf _ ls rfl hr

theorem Stable.flatten {ls ms : List (List α)} (h : ls.length = ms.length) (hs : ∀ i, (hi : i < ls.length) → Stable f ls[i] (ms[i]'(h ▸ hi))) : Stable f ls.flatten ms.flatten := by
  induction ls generalizing ms with
  | nil =>
    cases ms with
    | nil => exact Stable.refl _
    | cons _ _ => simp at h
  | cons a t ih =>
    cases ms with
    | nil => simp at h
    | cons b u =>
      rw [List.flatten_cons, List.flatten_cons]
      exact Stable.append (hs 0 (by simp)) (ih (by simpa using h) fun i hi => hs (i + 1) (by simpa using hi))

end Go.Proofs.Ytodjaggihmcllaa.LosPure
namespace Go.Proofs.Ytodjaggihmcllaa

open OrdPure in
/-- Lists that are sorted, as one: all sorted. -/
theorem mergeL_sortS (ks : List Ky) (ls : List (List (List V))) : LosPure.mergeL (cmpR ks) (ls.map (sortS ks)) = sortS ks ls.flatten := by
  refine sortS_eq ?_
  have h1 := LosPure.mergeL_sort (cmpR_pre ks) (ls := ls.map (sortS ks)) (fun l hl => by
    obtain ⟨m, -, rfl⟩ := List.mem_map.1 hl
    exact (sortS_is ks m).1)
  refine ⟨h1.1, Stable.trans (LosPure.Stable.flatten (by rw [List.length_map]) fun i hi => ?_) h1.2⟩
  rw [List.getElem_map]
  exact (sortS_is ks ls[i]).2

end Go.Proofs.Ytodjaggihmcllaa
