/-
  What an argument that came in as a row of acts of layer 6 (a struct of a bool and a number) is to a walk.
-/
import Derived.Test.YtcokdkhfnlhnlaaOpen
import Derived.Lib.SmallJoins
import Derived.Deep.Slices
import Derived.Deep.SlicePairs
import Derived.Deep.Fields
namespace Go.Proofs.Ytcokdkhfnlhnlaa
open Go.ChangeShapes Go.WideShapes Go.ChangeAt Go.RowKit Go.Joins Go.Deep

/-- A slice reads as these acts. -/
def RdPays (w : World) (u : Value) (as : List (Bool × Int)) : Prop :=
  ∃ ao cap, u = .slice ao as.length cap ∧ as.length ≤ cap ∧ cap ≤ maxLen ∧ ∀ j, (hj : j < as.length) → ∃ g off, ao = some ⟨g, off, none⟩ ∧ w.cell? ⟨g, off + j * 2, none⟩ = some (.bool as[j].1) ∧ w.cell? ⟨g, off + j * 2 + 1, none⟩ = some (.int .i64 as[j].2)

theorem RdPays.mono {w w' : World} {u : Value} {as : List (Bool × Int)} (h : RdPays w u as) (hb : Below w.heap.size w w') : RdPays w' u as := by
  obtain ⟨ao, cap, h1, h2, h3, h4⟩ := h
  refine ⟨ao, cap, h1, h2, h3, fun j hj => ?_⟩
  obtain ⟨g, off, h5, h6, h7⟩ := h4 j hj
  exact ⟨g, off, h5, (hb.cell (lt_of_cell h6)).trans h6, (hb.cell (lt_of_cell h7)).trans h7⟩

section
variable {H : Type} {enc : TypeId × Value → H} {P : Program} {w : World} {base : Nat} {held : Bool}

theorem read_pays {t e : TypeId} {f0 f1 : Field} {v : Value} {d : DataW H} {ps : List MemPlace} (ht : P.underlying t = some (.slice e)) (hs : P.underlying e = some (.struct #[f0, f1])) (h0 : P.underlying f0.type = some .bool) (h1 : P.underlying f1.type = some (.int .i64))
    (hone : oneCellFields P #[f0, f1] = true) (hC : P.cellsOf e = 2) (hv : v.cells.toList = [v]) (h : DataW.Trod enc P w base (fun _ => true) held t v d ps) :
    ∃ as : List (Bool × Int), RdPays w v as ∧ ∀ a ∈ as, -9223372036854775808 ≤ a.2 ∧ a.2 ≤ 9223372036854775807 := by
  obtain ⟨fuel, hf⟩ := h
  rw [hv] at hf
  obtain ⟨o0, q0⟩ := hone_of hone 0 f0 rfl
  obtain ⟨o1, q1⟩ := hone_of hone 1 f1 rfl
  rcases open_slice_pairs ht hs hC o0 o1 q0 q1 hf with ⟨hcs, _⟩ | ⟨a, len, cap, m, n, V0, V1, D0, D1, P0, P1, hcs, _, hl, hm, hmm, _, hi⟩
  · obtain rfl : v = .slice none 0 0 := by simpa using hcs
    exact ⟨[], ⟨none, 0, rfl, Nat.le_refl _, by simp [maxLen], fun j hj => by simp at hj⟩, by simp⟩
  · obtain rfl : v = .slice (some a) len cap := by simpa using hcs
    have hmc : m = cap := by simpa using hmm
    have key : ∀ i, i < len → ∃ x : Bool × Int, (-9223372036854775808 ≤ x.2 ∧ x.2 ≤ 9223372036854775807) ∧ w.cell? (a.add (i * 2)) = some (.bool x.1) ∧ w.cell? (a.add (i * 2 + 1)) = some (.int .i64 x.2) := fun i hi' => by
      obtain ⟨c0, c1, t0, t1⟩ := hi i (by omega)
      obtain ⟨b, e0, _⟩ := DataW.trod_bool h0 t0
      obtain ⟨z, e1, _, w1⟩ := DataW.trod_int h1 t1
      have e0' : V0 i = .bool b := by simpa using e0
      have e1' : V1 i = .int .i64 z := by simpa using e1
      exact ⟨(b, z), bounds_i64 w1, by rw [c0, e0'], by rw [c1, e1']⟩
    have hall : ∃ as : List (Bool × Int), as.length = len ∧ ∀ i, (hi : i < as.length) → (-9223372036854775808 ≤ as[i].2 ∧ as[i].2 ≤ 9223372036854775807) ∧ w.cell? (a.add (i * 2)) = some (.bool as[i].1) ∧ w.cell? (a.add (i * 2 + 1)) = some (.int .i64 as[i].2) := by
      refine ⟨(List.range len).map fun i => if h : i < len then (key i h).choose else (false, 0), by simp, fun i hi' => ?_⟩
      have hil : i < len := by simpa using hi'
      rw [List.getElem_map, List.getElem_range, dif_pos hil]
      exact (key i hil).choose_spec
    obtain ⟨as, hlen, has⟩ := hall
    refine ⟨as, ⟨some a, cap, by rw [hlen], by omega, hm, fun j hj => ?_⟩, fun x hx => ?_⟩
    · obtain ⟨b, off, spot⟩ := a
      have h00 := (has 0 (by omega)).2.1
      have hsp : spot = none := by
        have h := World.cell?_spot h00
        cases spot with
        | none => rfl
        | some x =>
          exfalso
          simp [Addr.add] at h
      subst hsp
      obtain ⟨_, ha, hb⟩ := has j hj
      rw [add_at] at ha hb
      exact ⟨b, off, rfl, ha, by rw [← Nat.add_assoc] at hb; exact hb⟩
    · obtain ⟨i, hi', rfl⟩ := List.mem_iff_getElem.1 hx
      exact (has i hi').1

end
end Go.Proofs.Ytcokdkhfnlhnlaa
