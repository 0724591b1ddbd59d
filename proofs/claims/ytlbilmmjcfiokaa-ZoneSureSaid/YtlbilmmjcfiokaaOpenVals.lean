/-
  What an argument that came in as a row of values of the document is to a walk.
-/
import Derived.Test.YtlbilmmjcfiokaaOpenVal
import Derived.Deep.Slices
import Derived.Deep.Fields
namespace Go.Proofs.Ytlbilmmjcfiokaa
open Go.ChangeShapes Go.WideShapes Go.ChangeAt Go.RowKit Go.Joins Go.Deep

section
variable {H : Type} {enc : TypeId × Value → H} {P : Program} {w : World} {base : Nat} {held : Bool}

theorem read_vals {t e : TypeId} {f0 f1 f2 : Field} {v : Value} {d : DataW H} {ps : List MemPlace} (ht : P.underlying t = some (.slice e)) (hs : P.underlying e = some (.struct #[f0, f1, f2])) (h0 : P.underlying f0.type = some (.int .u8)) (h1 : P.underlying f1.type = some (.int .i64)) (h2 : P.underlying f2.type = some .string)
    (hone : oneCellFields P #[f0, f1, f2] = true) (hC : P.cellsOf e = 3) (hv : v.cells.toList = [v]) (h : DataW.Trod enc P w base (fun _ => true) held t v d ps) :
    ∃ vs : List V, RdVals w v vs ∧ ∀ x ∈ vs, x.fits ∧ x.s.length ≤ maxLen := by
  obtain ⟨fuel, hf⟩ := h
  rw [hv] at hf
  rcases open_slice ht hf with ⟨hcs, _⟩ | ⟨a, len, cap, m, n, D, Pl, hcs, _, hl, hm, hmm, _, hi⟩
  · obtain rfl : v = .slice none 0 0 := by simpa using hcs
    exact ⟨[], ⟨none, 0, rfl, Nat.le_refl _, by simp [maxLen], fun j hj => by simp at hj⟩, by simp⟩
  · obtain rfl : v = .slice (some a) len cap := by simpa using hcs
    have hmc : m = cap := by simpa using hmm
    have key : ∀ i, i < len → ∃ x : V, (x.fits ∧ x.s.length ≤ maxLen) ∧ ∀ j y, x.cells[j]? = some y → w.cell? ((a.add (i * 3)).add j) = some y := fun i hi' => by
      obtain ⟨cs, hc, ht'⟩ := hi i (by omega)
      rw [hC] at hc
      obtain ⟨_, hcl, hat⟩ := World.cells?_some hc
      match cs, hcl with
      | [c0, c1, c2], _ =>
        obtain ⟨y0, y1, y2, n', _, _, k0, k1, k2⟩ := trod_struct3 hs ht'
        obtain ⟨o0, q0⟩ := hone_of hone 0 f0 rfl
        obtain ⟨o1, q1⟩ := hone_of hone 1 f1 rfl
        obtain ⟨o2, q2⟩ := hone_of hone 2 f2 rfl
        rw [o0, q0] at k0
        rw [o1, q1] at k1
        rw [o2, q2] at k2
        obtain ⟨z0, e0, _, w0⟩ := DataW.trod_int h0 k0
        obtain ⟨z1, e1, _, w1⟩ := DataW.trod_int h1 k1
        obtain ⟨s, e2, _, w2⟩ := DataW.trod_string h2 k2
        have e0' : c0 = .int .u8 z0 := by simpa using e0
        have e1' : c1 = .int .i64 z1 := by simpa using e1
        have e2' : c2 = .string s := by simpa using e2
        subst e0' e1' e2'
        have b0 := bounds_u8 w0
        have b1 := bounds_i64 w1
        have hsl : s.data.toList.length = s.size := Array.length_toList
        have hss : (⟨s.data.toList.toArray⟩ : ByteArray) = s := by cases s; simp
        refine ⟨⟨z0, z1, s.data.toList⟩, ⟨⟨b0.1, b0.2, b1.1, b1.2⟩, by show s.data.toList.length ≤ _; rw [hsl]; exact w2⟩, fun j y hj => ?_⟩
        unfold V.cells at hj
        simp only [hss] at hj
        have hj3 : j < 3 := by
          have := (List.getElem?_eq_some_iff.1 hj).1
          simpa using this
        rw [hat j hj3]
        exact hj
    have hall : ∃ vs : List V, vs.length = len ∧ ∀ i, (hi : i < vs.length) → (vs[i].fits ∧ vs[i].s.length ≤ maxLen) ∧ ∀ j y, (vs[i].cells)[j]? = some y → w.cell? ((a.add (i * 3)).add j) = some y := by
      refine ⟨(List.range len).map fun i => if h : i < len then (key i h).choose else V.zero, by simp, fun i hi' => ?_⟩
      have hil : i < len := by simpa using hi'
      rw [List.getElem_map, List.getElem_range, dif_pos hil]
      exact (key i hil).choose_spec
    obtain ⟨vs, hlen, hvs⟩ := hall
    refine ⟨vs, ⟨some a, cap, by rw [hlen], by omega, hm, fun j hj => ?_⟩, fun x hx => ?_⟩
    · obtain ⟨b, off, spot⟩ := a
      have h00 := (hvs 0 (by omega)).2 0 _ rfl
      have hsp : spot = none := by
        have h := World.cell?_spot h00
        cases spot with
        | none => rfl
        | some x =>
          exfalso
          simp [Addr.add] at h
      subst hsp
      exact ⟨b, off, rfl, fun i y hy => by
        have := (hvs j hj).2 i y hy
        rw [add_at, add_at] at this
        exact this⟩
    · obtain ⟨i, hi', rfl⟩ := List.mem_iff_getElem.1 hx
      exact (hvs i hi').1

end
end Go.Proofs.Ytlbilmmjcfiokaa
