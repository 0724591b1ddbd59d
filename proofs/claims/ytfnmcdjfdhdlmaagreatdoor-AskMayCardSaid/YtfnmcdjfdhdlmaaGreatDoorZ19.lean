/-
  Texts of this proof, merged: OpenNode.
-/
import Derived.Test.YtfnmcdjfdhdlmaaGreatDoorZ18
import Derived.Test.YtfnmcdjfdhdlmaaGreatDoorZ3
/-
  What an argument that came in as a row of nodes (structs of three numbers and a value) is to a walk.
-/
namespace Go.Proofs.YtfnmcdjfdhdlmaaGreatDoor
open Go.ChangeShapes Go.WideShapes Go.ChangeAt Go.RowKit Go.Joins Go.Deep

section
variable {H : Type} {enc : TypeId × Value → H} {P : Program} {w : World} {base : Nat} {held : Bool}

theorem node_of {t e : TypeId} {f0 f1 f2 f3 g0 g1 g2 : Field} {cs : List Value} {fuel : Nat} {x : DataW H × List MemPlace} (hs : P.underlying t = some (.struct #[f0, f1, f2, f3])) (he : P.underlying e = some (.struct #[g0, g1, g2]))
    (h0 : P.underlying g0.type = some (.int .u8)) (h1 : P.underlying g1.type = some (.int .i64)) (h2 : P.underlying g2.type = some .string) (hone : oneCellFields P #[g0, g1, g2] = true)
    (t0 : P.underlying f0.type = some (.int .u8)) (t1 : P.underlying f1.type = some (.int .i64)) (t2 : P.underlying f2.type = some (.int .i64)) (t3 : f3.type = e) (o0 : f0.offset = 0) (o1 : f1.offset = 1) (o2 : f2.offset = 2) (o3 : f3.offset = 3)
    (c0 : P.cellsOf f0.type = 1) (c1 : P.cellsOf f1.type = 1) (c2 : P.cellsOf f2.type = 1) (c3 : P.cellsOf e = 3) (hcl : cs.length = 6) (hf : DataW.trod enc P w base (fun _ => true) held fuel t cs = some x) :
    ∃ a : Nd, cs = a.cells ∧ a.fits ∧ a.v.s.length ≤ maxLen := by
  cases fuel with
  | zero => simp [DataW.trod] at hf
  | succ fuel =>
  obtain ⟨xs, n, _, _, hl, hlen, hfld⟩ := DataW.trod_struct hs hf
  have k0 := hfld 0 f0 rfl
  have k1 := hfld 1 f1 rfl
  have k2 := hfld 2 f2 rfl
  have k3 := hfld 3 f3 rfl
  rw [o0, c0] at k0
  rw [o1, c1] at k1
  rw [o2, c2] at k2
  rw [o3, t3, c3] at k3
  match xs, hlen with
  | [y0, y1, y2, y3], _ =>
    simp only [List.getElem?_cons_zero, List.getElem?_cons_succ] at k0 k1 k2 k3
    match cs, hcl with
    | [x0, x1, x2, x3, x4, x5], _ =>
      simp only [List.drop_zero, List.drop_succ_cons, List.take_succ_cons, List.take_zero] at k0 k1 k2 k3
      obtain ⟨z0, e0, _, w0⟩ := DataW.trod_int t0 k0
      obtain ⟨z1, e1, _, w1⟩ := DataW.trod_int t1 k1
      obtain ⟨z2, e2, _, w2⟩ := DataW.trod_int t2 k2
      obtain ⟨b, eb, fb, lb⟩ := val_of he h0 h1 h2 hone rfl k3
      unfold V.cells at eb
      simp only [List.cons.injEq, and_true] at eb e0 e1 e2
      obtain ⟨rfl, rfl, rfl⟩ := eb
      subst e0 e1 e2
      have b0 := bounds_u8 w0
      have b1 := bounds_i64 w1
      have b2 := bounds_i64 w2
      exact ⟨⟨z0, z1, z2, b⟩, rfl, ⟨b0.1, b0.2, b1.1, b1.2, b2.1, b2.2, fb⟩, lb⟩

theorem read_nodes {t s e : TypeId} {f0 f1 f2 f3 g0 g1 g2 : Field} {v : Value} {d : DataW H} {ps : List MemPlace} (ht : P.underlying t = some (.slice s)) (hs : P.underlying s = some (.struct #[f0, f1, f2, f3])) (he : P.underlying e = some (.struct #[g0, g1, g2]))
    (h0 : P.underlying g0.type = some (.int .u8)) (h1 : P.underlying g1.type = some (.int .i64)) (h2 : P.underlying g2.type = some .string) (hone : oneCellFields P #[g0, g1, g2] = true)
    (t0 : P.underlying f0.type = some (.int .u8)) (t1 : P.underlying f1.type = some (.int .i64)) (t2 : P.underlying f2.type = some (.int .i64)) (t3 : f3.type = e) (o0 : f0.offset = 0) (o1 : f1.offset = 1) (o2 : f2.offset = 2) (o3 : f3.offset = 3)
    (c0 : P.cellsOf f0.type = 1) (c1 : P.cellsOf f1.type = 1) (c2 : P.cellsOf f2.type = 1) (c3 : P.cellsOf e = 3) (hC : P.cellsOf s = 6) (hv : v.cells.toList = [v]) (h : DataW.Trod enc P w base (fun _ => true) held t v d ps) :
    ∃ l : List Nd, RdNds w v l ∧ ∀ x ∈ l, x.fits ∧ x.v.s.length ≤ maxLen := by
  obtain ⟨fuel, hf⟩ := h
  rw [hv] at hf
  rcases open_slice ht hf with ⟨hcs, _⟩ | ⟨a, len, cap, m, n, D, Pl, hcs, _, hl, hm, hmm, _, hi⟩
  · obtain rfl : v = .slice none 0 0 := by simpa using hcs
    exact ⟨[], RdNds.nil w, by simp⟩
  · obtain rfl : v = .slice (some a) len cap := by simpa using hcs
    have hmc : m = cap := by simpa using hmm
    have key : ∀ i, i < len → ∃ x : Nd, (x.fits ∧ x.v.s.length ≤ maxLen) ∧ ∀ j y, x.cells[j]? = some y → w.cell? ((a.add (i * 6)).add j) = some y := fun i hi' => by
      obtain ⟨cs, hc, ht'⟩ := hi i (by omega)
      rw [hC] at hc
      obtain ⟨_, hcl, hat⟩ := World.cells?_some hc
      obtain ⟨b, rfl, fb, lb⟩ := node_of hs he h0 h1 h2 hone t0 t1 t2 t3 o0 o1 o2 o3 c0 c1 c2 c3 hcl ht'
      refine ⟨b, ⟨fb, lb⟩, fun j y hj => ?_⟩
      have hj6 : j < 6 := by
        have := (List.getElem?_eq_some_iff.1 hj).1
        rwa [hcl] at this
      rw [hat j hj6]
      exact hj
    have hall : ∃ l : List Nd, l.length = len ∧ ∀ i, (hi : i < l.length) → (l[i].fits ∧ l[i].v.s.length ≤ maxLen) ∧ ∀ j y, (l[i].cells)[j]? = some y → w.cell? ((a.add (i * 6)).add j) = some y := by
      refine ⟨(List.range len).map fun i => if h : i < len then (key i h).choose else ⟨0, 0, 0, V.zero⟩, by simp, fun i hi' => ?_⟩
      have hil : i < len := by simpa using hi'
      rw [List.getElem_map, List.getElem_range, dif_pos hil]
      exact (key i hil).choose_spec
    obtain ⟨l, hlen, hvs⟩ := hall
    refine ⟨l, ⟨some a, cap, by rw [hlen], by omega, hm, fun j hj => ?_⟩, fun x hx => ?_⟩
    · obtain ⟨b, off, spot⟩ := a
      have h00 := (hvs 0 (by omega)).2 0 _ rfl
      have hsp : spot = none := by
        have h := World.cell?_spot h00
        cases spot with
        | none => rfl
        | some x =>
          exfalso
          simp [Addr.add] at h
      subst hsp
      exact ⟨b, off, rfl, fun i y hy => by
        have := (hvs j hj).2 i y hy
        rw [add_at, add_at] at this
        exact this⟩
    · obtain ⟨i, hi', rfl⟩ := List.mem_iff_getElem.1 hx
      exact (hvs i hi').1

end
end Go.Proofs.YtfnmcdjfdhdlmaaGreatDoor
