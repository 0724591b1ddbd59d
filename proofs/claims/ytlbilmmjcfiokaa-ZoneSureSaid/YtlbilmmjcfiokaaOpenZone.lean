/-
  What an argument that came in as a zone of the document (a struct of two values and two numbers) is to a walk; rows without an address.
-/
import Derived.Test.YtlbilmmjcfiokaaOpenVals
import Derived.Test.YtlbilmmjcfiokaaZonePure
namespace Go.Proofs.Ytlbilmmjcfiokaa
open Go.ChangeShapes Go.WideShapes Go.ChangeAt Go.RowKit Go.Joins Go.Deep

section
variable {H : Type} {enc : TypeId × Value → H} {P : Program} {w : World} {base : Nat} {held : Bool}

theorem val_of {e : TypeId} {f0 f1 f2 : Field} {cs : List Value} {fuel : Nat} {x : DataW H × List MemPlace} (hs : P.underlying e = some (.struct #[f0, f1, f2])) (h0 : P.underlying f0.type = some (.int .u8)) (h1 : P.underlying f1.type = some (.int .i64)) (h2 : P.underlying f2.type = some .string)
    (hone : oneCellFields P #[f0, f1, f2] = true) (hcl : cs.length = 3) (ht' : DataW.trod enc P w base (fun _ => true) held fuel e cs = some x) :
    ∃ a : V, cs = a.cells ∧ a.fits ∧ a.s.length ≤ maxLen := by
  match cs, hcl with
  | [c0, c1, c2], _ =>
    obtain ⟨y0, y1, y2, n', _, _, k0, k1, k2⟩ := trod_struct3 hs ht'
    obtain ⟨o0, q0⟩ := hone_of hone 0 f0 rfl
    obtain ⟨o1, q1⟩ := hone_of hone 1 f1 rfl
    obtain ⟨o2, q2⟩ := hone_of hone 2 f2 rfl
    rw [o0, q0] at k0
    rw [o1, q1] at k1
    rw [o2, q2] at k2
    obtain ⟨z0, e0, _, w0⟩ := DataW.trod_int h0 k0
    obtain ⟨z1, e1, _, w1⟩ := DataW.trod_int h1 k1
    obtain ⟨s, e2, _, w2⟩ := DataW.trod_string h2 k2
    have e0' : c0 = .int .u8 z0 := by simpa using e0
    have e1' : c1 = .int .i64 z1 := by simpa using e1
    have e2' : c2 = .string s := by simpa using e2
    subst e0' e1' e2'
    have b0 := bounds_u8 w0
    have b1 := bounds_i64 w1
    have hsl : s.data.toList.length = s.size := Array.length_toList
    have hss : (⟨s.data.toList.toArray⟩ : ByteArray) = s := by cases s; simp
    refine ⟨⟨z0, z1, s.data.toList⟩, ?_, ⟨b0.1, b0.2, b1.1, b1.2⟩, by show s.data.toList.length ≤ _; rw [hsl]; exact w2⟩
    unfold V.cells
    simp only [hss]

theorem read_zone {r : Reach} {b0 : Nat} {t e : TypeId} {f0 f1 f2 f3 g0 g1 g2 : Field} {v : Value} {d : DataW H} {p : List MemPlace} (hs : P.underlying t = some (.struct #[f0, f1, f2, f3])) (he : P.underlying e = some (.struct #[g0, g1, g2]))
    (h0 : P.underlying g0.type = some (.int .u8)) (h1 : P.underlying g1.type = some (.int .i64)) (h2 : P.underlying g2.type = some .string) (hone : oneCellFields P #[g0, g1, g2] = true)
    (t0 : f0.type = e) (t1 : f1.type = e) (t2 : P.underlying f2.type = some (.int .i64)) (t3 : P.underlying f3.type = some (.int .i64)) (o0 : f0.offset = 0) (o1 : f1.offset = 3) (o2 : f2.offset = 6) (o3 : f3.offset = 7)
    (c0 : P.cellsOf e = 3) (c2 : P.cellsOf f2.type = 1) (c3 : P.cellsOf f3.type = 1) (hC : P.cellsOf t = 8)
    (hv : Value.okWide P w r b0 t v) (h : DataW.Trod enc P w base (fun _ => true) held t v d p) :
    ∃ z : Zo, v = z.val ∧ z.fits ∧ z.small maxLen := by
  obtain ⟨cs, rfl, hsz⟩ := okWide_struct hs hv
  obtain ⟨fuel, hf⟩ := h
  obtain ⟨xs, n, _, _, hl, hlen, hfld⟩ := DataW.trod_struct hs hf
  rw [hC] at hl
  have k0 := hfld 0 f0 rfl
  have k1 := hfld 1 f1 rfl
  have k2 := hfld 2 f2 rfl
  have k3 := hfld 3 f3 rfl
  rw [o0, t0, c0] at k0
  rw [o1, t1, c0] at k1
  rw [o2, c2] at k2
  rw [o3, c3] at k3
  match xs, hlen with
  | [y0, y1, y2, y3], _ =>
    simp only [List.getElem?_cons_zero, List.getElem?_cons_succ] at k0 k1 k2 k3
    have hcs : (Value.agg cs).cells.toList = cs.toList := rfl
    rw [hcs] at hl k0 k1 k2 k3
    have hca : cs = cs.toList.toArray := rfl
    generalize cs.toList = l at hl k0 k1 k2 k3 hca
    subst hca
    match l, hl with
    | [x0, x1, x2, x3, x4, x5, x6, x7], _ =>
      simp only [List.drop_zero, List.drop_succ_cons, List.take_succ_cons, List.take_zero] at k0 k1 k2 k3
      obtain ⟨a, ea, fa, la⟩ := val_of he h0 h1 h2 hone rfl k0
      obtain ⟨b, eb, fb, lb⟩ := val_of he h0 h1 h2 hone rfl k1
      obtain ⟨m, e2, _, w2⟩ := DataW.trod_int t2 k2
      obtain ⟨q, e3, _, w3⟩ := DataW.trod_int t3 k3
      unfold V.cells at ea eb
      simp only [List.cons.injEq, and_true] at ea eb e2 e3
      obtain ⟨rfl, rfl, rfl⟩ := ea
      obtain ⟨rfl, rfl, rfl⟩ := eb
      subst e2 e3
      have b2 := bounds_i64 w2
      have b3 := bounds_i64 w3
      exact ⟨⟨a, b, m, q⟩, rfl, ⟨fa, fb, b2.1, b2.2, b3.1, b3.2⟩, la, lb⟩

theorem read_nil {t e : TypeId} {v : Value} {d : DataW H} {ps : List MemPlace} (ht : P.underlying t = some (.slice e)) (hv : v.cells.toList = [v]) (h : DataW.Trod enc P w base (fun _ => true) held t v d ps) :
    ∀ n c, v = .slice none n c → n = 0 ∧ c = 0 := by
  intro n c hn
  obtain ⟨fuel, hf⟩ := h
  rw [hv] at hf
  rcases open_slice ht hf with ⟨hcs, _⟩ | ⟨a, len, cap, m, n, D, Pl, hcs, _⟩
  · obtain rfl : v = .slice none 0 0 := by simpa using hcs
    simp only [Value.slice.injEq] at hn
    exact ⟨hn.2.1.symm, hn.2.2.symm⟩
  · obtain rfl : v = .slice (some a) len cap := by simpa using hcs
    simp at hn

end
end Go.Proofs.Ytlbilmmjcfiokaa
