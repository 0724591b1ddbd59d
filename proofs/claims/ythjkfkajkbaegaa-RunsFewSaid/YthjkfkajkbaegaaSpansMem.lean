/-
  Spans in memory: what reads as spans, a row of them of one's own; an argument of them.
-/
import Derived.RegionTactic
import Derived.ChangeAlike
import Derived.Lib.SmallJoins
import Derived.Deep.SlicePairs
import Derived.Deep.Fields
import Derived.Test.YthjkfkajkbaegaaOnly
import Derived.Test.YthjkfkajkbaegaaSlices
import Derived.Test.YthjkfkajkbaegaaOpen
import Derived.Test.YthjkfkajkbaegaaSpansPure
namespace Go.Proofs.Ythjkfkajkbaegaa
open Go.ChangeShapes Go.WideShapes Go.ChangeAt Go.RowKit Go.Joins Go.Deep

def Sp.cells (s : Sp) : List Value := [.int .i64 s.f, .int .i64 s.t]
def Sp.val (s : Sp) : Value := .agg #[.int .i64 s.f, .int .i64 s.t]
structure Sp.fits (s : Sp) : Prop where
  f : -9223372036854775808 ≤ s.f ∧ s.f ≤ 9223372036854775807
  t : -9223372036854775808 ≤ s.t ∧ s.t ≤ 9223372036854775807

/-- A slice reads as these spans. -/
def RdSp (w : World) (u : Value) (l : List Sp) : Prop :=
  ∃ ao cap, u = .slice ao l.length cap ∧ l.length ≤ cap ∧ cap ≤ maxLen ∧ (∀ j, (hj : j < l.length) → ∃ g off, ao = some ⟨g, off, none⟩ ∧ w.cell? ⟨g, off + j * 2, none⟩ = some (.int .i64 l[j].f) ∧ w.cell? ⟨g, off + j * 2 + 1, none⟩ = some (.int .i64 l[j].t)) ∧ (ao = none → cap = 0)

theorem RdSp.mono {w w' : World} {u : Value} {l : List Sp} (h : RdSp w u l) (hb : Below w.heap.size w w') : RdSp w' u l := by
  obtain ⟨ao, cap, h1, h2, h3, h4, h0⟩ := h
  refine ⟨ao, cap, h1, h2, h3, fun j hj => ?_, h0⟩
  obtain ⟨g, off, h5, h6, h7⟩ := h4 j hj
  exact ⟨g, off, h5, (hb.cell (lt_of_cell h6)).trans h6, (hb.cell (lt_of_cell h7)).trans h7⟩
theorem RdSp.shape {w : World} {u : Value} {l : List Sp} (h : RdSp w u l) : ∃ a cap, u = .slice a l.length cap ∧ l.length ≤ cap ∧ cap ≤ maxLen := by
  obtain ⟨a, cap, h1, h2, h3, _⟩ := h
  exact ⟨a, cap, h1, h2, h3⟩
theorem RdSp.nil (w : World) : RdSp w (.slice none 0 0) [] := ⟨none, 0, rfl, Nat.le_refl _, by simp [maxLen], fun j hj => (by simp at hj), fun _ => rfl⟩
theorem RdSp.onlyS {X : Nat → Prop} {w w' : World} {u : Value} {l : List Sp} (h : RdSp w u l) (ho : OnlyS X w w') (hx : l ≠ [] → ∀ k, u.ownBlock = some k → ¬ X k) : RdSp w' u l := by
  obtain ⟨ao, cap, h1, h2, h3, h4, h0⟩ := h
  subst h1
  refine ⟨ao, cap, rfl, h2, h3, fun j hj => ?_, h0⟩
  obtain ⟨g, off, rfl, h6, h7⟩ := h4 j hj
  have hg : ¬ X g := hx (by rintro rfl; simp at hj) g rfl
  exact ⟨g, off, rfl, ho.cell h6 hg, ho.cell h7 hg⟩
/-- The first ones. -/
theorem RdSp.take {w : World} {ao : Option Addr} {N cap : Nat} {l : List Sp} (h : RdSp w (.slice ao N cap) l) (K : Nat) (hK : K ≤ N) : RdSp w (.slice ao K cap) (l.take K) := by
  obtain ⟨a', cap', h1, h2, h3, h4, h0⟩ := h
  simp only [Value.slice.injEq] at h1
  obtain ⟨rfl, rfl, rfl⟩ := h1
  have hl : (l.take K).length = K := by rw [List.length_take]; omega
  refine ⟨ao, cap, by rw [hl], by omega, h3, fun j hj => ?_, h0⟩
  rw [List.getElem_take]
  exact h4 j (by omega)

/-- A row of spans of one's own. -/
def OwnSp (base : Nat) (w : World) (v : Value) (l : List Sp) : Prop :=
  (v = .slice none 0 0 ∧ l = []) ∨ ∃ g off cap, v = .slice (some ⟨g, off, none⟩) l.length cap ∧ base ≤ g ∧ g < w.heap.size ∧ l.length ≤ cap ∧ cap ≤ maxLen ∧
    (∀ j, (hj : j < l.length) → w.cell? ⟨g, off + j * 2, none⟩ = some (.int .i64 l[j].f) ∧ w.cell? ⟨g, off + j * 2 + 1, none⟩ = some (.int .i64 l[j].t)) ∧ ∀ i, i < l.length * 2 → w.frozen? ⟨g, off + i, none⟩ = false
theorem OwnSp.rd {base : Nat} {w : World} {v : Value} {l : List Sp} (h : OwnSp base w v l) : RdSp w v l := by
  rcases h with ⟨rfl, rfl⟩ | ⟨g, off, cap, rfl, _, _, h2, h3, h4, _⟩
  · exact RdSp.nil w
  · exact ⟨_, cap, rfl, h2, h3, fun j hj => ⟨g, off, rfl, h4 j hj⟩, fun h => by cases h⟩
theorem OwnSp.block {base : Nat} {w : World} {v : Value} {l : List Sp} (h : OwnSp base w v l) : ∀ k, v.ownBlock = some k → base ≤ k ∧ k < w.heap.size := fun k hk => by
  rcases h with ⟨rfl, rfl⟩ | ⟨g, off, cap, rfl, h1, h2, _⟩
  · cases hk
  · cases hk
    exact ⟨h1, h2⟩
theorem OwnSp.onlyS {X : Nat → Prop} {base : Nat} {w w' : World} {v : Value} {l : List Sp} (h : OwnSp base w v l) (ho : OnlyS X w w') (hx : ∀ k, v.ownBlock = some k → ¬ X k) : OwnSp base w' v l := by
  rcases h with h | ⟨g, off, cap, rfl, h1, h2, h3, h4, h5, h6⟩
  · exact .inl h
  · have hg := hx g rfl
    refine .inr ⟨g, off, cap, rfl, h1, Nat.lt_of_lt_of_le h2 ho.size, h3, h4, fun j hj => ⟨ho.cell (h5 j hj).1 hg, ho.cell (h5 j hj).2 hg⟩, fun i hi => ?_⟩
    have := h6 i hi
    unfold World.frozen? at this ⊢
    rw [ho.block g h2 hg]
    exact this
theorem OwnSp.ext {base : Nat} {w w' : World} {v : Value} {l : List Sp} (h : OwnSp base w v l) (hx : Ext w w') : OwnSp base w' v l := h.onlyS (X := fun _ => False) (OnlyS.of_ext hx) (fun _ _ => id)
theorem OwnSp.base_le {base base' : Nat} {w : World} {v : Value} {l : List Sp} (h : OwnSp base w v l) (hb : base' ≤ base) : OwnSp base' w v l := by
  rcases h with h | ⟨g, off, cap, rfl, h1, h2⟩
  · exact .inl h
  · exact .inr ⟨g, off, cap, rfl, Nat.le_trans hb h1, h2⟩
theorem spCells (l : List Sp) (j : Nat) (hj : j < l.length) : (l.flatMap Sp.cells)[j * 2]? = some (.int .i64 l[j].f) ∧ (l.flatMap Sp.cells)[j * 2 + 1]? = some (.int .i64 l[j].t) := by
  induction l generalizing j with
  | nil => simp at hj
  | cons a t ih =>
    cases j with
    | zero => exact ⟨rfl, rfl⟩
    | succ j =>
      have h := ih j (by simpa using hj)
      have e1 : (j + 1) * 2 = (j * 2) + 1 + 1 := by omega
      rw [e1]
      exact h
theorem spCells_length (l : List Sp) : (l.flatMap Sp.cells).length = l.length * 2 := by
  induction l with
  | nil => rfl
  | cons a t ih => rw [List.flatMap_cons, List.length_append, ih, List.length_cons]; show 2 + _ = _; omega
theorem OwnSp.of_owns {E : TypeId} {base : Nat} {w : World} {v : Value} {l : List Sp} (h : w.ownsRow base E 2 v l.length (l.flatMap Sp.cells)) : OwnSp base w v l := by
  rcases h.2 with ⟨h1, h2⟩ | ⟨g, cap, cur, rfl, h2, h3, h4, h5, _⟩
  · exact .inl ⟨h1, List.length_eq_zero_iff.1 h2⟩
  · have hc := fun i u hu => h.cells (g := g) rfl i u hu
    refine .inr ⟨g, 0, cap, rfl, h2, (Array.getElem?_eq_some_iff.1 h3).1, h4, h5, fun j hj => ?_, fun i _ => h.frozenAt _⟩
    have c := spCells l j hj
    have c0 := hc _ _ c.1
    have c1 := hc _ _ c.2
    rw [add_at] at c0 c1
    exact ⟨c0, by rw [Nat.add_assoc]; exact c1⟩

/-- A call answers these spans, of its own, and this error. -/
def AnsSp (w : World) (r : List Sp × Int) (e : Ending) (w' : World) : Prop := ∃ v, e = .returned (.tuple #[v, .int .i64 r.2]) ∧ OwnSp w.heap.size w' v r.1 ∧ Ext w w'

/-- Spans that a call of the program is given. -/
structure InSp (w : World) (u : Value) (l : List Sp) : Prop where
  rd : RdSp w u l
  few : l.length ≤ 100000
  fits : ∀ s ∈ l, s.fits

section
variable {H : Type} {enc : TypeId × Value → H} {P : Program} {w : World} {base : Nat} {held : Bool}

theorem read_spans {t e : TypeId} {f0 f1 : Field} {v : Value} {d : DataW H} {ps : List MemPlace} (ht : P.underlying t = some (.slice e)) (hs : P.underlying e = some (.struct #[f0, f1])) (h0 : P.underlying f0.type = some (.int .i64)) (h1 : P.underlying f1.type = some (.int .i64))
    (hone : oneCellFields P #[f0, f1] = true) (hC : P.cellsOf e = 2) (hv : v.cells.toList = [v]) (h : DataW.Trod enc P w base (fun _ => true) held t v d ps) :
    ∃ ss : List Sp, RdSp w v ss ∧ ∀ a ∈ ss, a.fits := by
  obtain ⟨fuel, hf⟩ := h
  rw [hv] at hf
  obtain ⟨o0, q0⟩ := hone_of hone 0 f0 rfl
  obtain ⟨o1, q1⟩ := hone_of hone 1 f1 rfl
  rcases open_slice_pairs ht hs hC o0 o1 q0 q1 hf with ⟨hcs, _⟩ | ⟨a, len, cap, m, n, V0, V1, D0, D1, P0, P1, hcs, _, hl, hm, hmm, _, hi⟩
  · obtain rfl : v = .slice none 0 0 := by simpa using hcs
    exact ⟨[], RdSp.nil w, by simp⟩
  · obtain rfl : v = .slice (some a) len cap := by simpa using hcs
    have hmc : m = cap := by simpa using hmm
    have key : ∀ i, i < len → ∃ x : Sp, x.fits ∧ w.cell? (a.add (i * 2)) = some (.int .i64 x.f) ∧ w.cell? (a.add (i * 2 + 1)) = some (.int .i64 x.t) := fun i hi' => by
      obtain ⟨c0, c1, t0, t1⟩ := hi i (by omega)
      obtain ⟨y, e0, _, w0⟩ := DataW.trod_int h0 t0
      obtain ⟨z, e1, _, w1⟩ := DataW.trod_int h1 t1
      have e0' : V0 i = .int .i64 y := by simpa using e0
      have e1' : V1 i = .int .i64 z := by simpa using e1
      exact ⟨⟨y, z⟩, ⟨bounds_i64 w0, bounds_i64 w1⟩, by rw [c0, e0'], by rw [c1, e1']⟩
    have hall : ∃ ss : List Sp, ss.length = len ∧ ∀ i, (hi : i < ss.length) → ss[i].fits ∧ w.cell? (a.add (i * 2)) = some (.int .i64 ss[i].f) ∧ w.cell? (a.add (i * 2 + 1)) = some (.int .i64 ss[i].t) := by
      refine ⟨(List.range len).map fun i => if h : i < len then (key i h).choose else ⟨0, 0⟩, by simp, fun i hi' => ?_⟩
      have hil : i < len := by simpa using hi'
      rw [List.getElem_map, List.getElem_range, dif_pos hil]
      exact (key i hil).choose_spec
    obtain ⟨ss, hlen, has⟩ := hall
    refine ⟨ss, ⟨some a, cap, by rw [hlen], by omega, hm, fun j hj => ?_, fun h => by cases h⟩, fun x hx => ?_⟩
    · obtain ⟨b, off, spot⟩ := a
      have h00 := (has 0 (by omega)).2.1
      have hsp : spot = none := by
        have h := World.cell?_spot h00
        cases spot with
        | none => rfl
        | some x =>
          exfalso
          simp [Addr.add] at h
      subst hsp
      obtain ⟨_, ha, hb⟩ := has j hj
      rw [add_at] at ha hb
      exact ⟨b, off, rfl, ha, by rw [← Nat.add_assoc] at hb; exact hb⟩
    · obtain ⟨i, hi', rfl⟩ := List.mem_iff_getElem.1 hx
      exact (has i hi').1

end
end Go.Proofs.Ythjkfkajkbaegaa
