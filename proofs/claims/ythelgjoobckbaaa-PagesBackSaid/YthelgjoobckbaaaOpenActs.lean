/-
  What an argument that came in as an act of layer 5 (a struct of numbers and slices), or as a row of acts, is to a walk.
-/
import Derived.Test.YthelgjoobckbaaaOpen
import Derived.Lib.SmallJoins
import Derived.Deep.Slices
import Derived.Deep.Fields
namespace Go.Proofs.Ythelgjoobckbaaa
open Go.ChangeShapes Go.WideShapes Go.ChangeAt Go.RowKit Go.Joins Go.Deep

/-- An act. -/
structure Act5 where
  k : Int
  at' : Int
  n : Int
  b : List UInt8
  l : List Int
  m : UInt8

/-- What may come in. -/
structure Act5.fits (a : Act5) : Prop where
  k : 0 ≤ a.k ∧ a.k ≤ 255
  at' : -9223372036854775808 ≤ a.at' ∧ a.at' ≤ 9223372036854775807
  n : -9223372036854775808 ≤ a.n ∧ a.n ≤ 9223372036854775807
  l : ∀ i ∈ a.l, -9223372036854775808 ≤ i ∧ i ≤ 9223372036854775807

/-- These cells are an act's. -/
def ActAt (w : World) (cs : List Value) (a : Act5) : Prop :=
  ∃ vb vl, cs = [.int .u8 a.k, .int .i64 a.at', .int .i64 a.n, vb, vl, .int .u8 a.m.toNat] ∧ Rd w vb a.b ∧ RdV w vl (a.l.map (Value.int .i64))

/-- A slice reads as these acts. -/
def RdActs (w : World) (u : Value) (as : List Act5) : Prop :=
  ∃ ao cap, u = .slice ao as.length cap ∧ as.length ≤ cap ∧ cap ≤ maxLen ∧ ∀ j, (hj : j < as.length) → ∃ g off cs, ao = some ⟨g, off, none⟩ ∧ ActAt w cs as[j] ∧ ∀ i y, cs[i]? = some y → w.cell? ⟨g, off + j * 6 + i, none⟩ = some y

section
variable {H : Type} {enc : TypeId × Value → H} {P : Program} {w : World} {base : Nat} {held : Bool}

theorem act_of {e tb tl : TypeId} {f0 f1 f2 f3 f4 f5 : Field} {cs : List Value} {fuel : Nat} {x : DataW H × List MemPlace} (hs : P.underlying e = some (.struct #[f0, f1, f2, f3, f4, f5]))
    (h0 : P.underlying f0.type = some (.int .u8)) (h1 : P.underlying f1.type = some (.int .i64)) (h2 : P.underlying f2.type = some (.int .i64)) (h3 : P.underlying f3.type = some (.slice tb)) (h3e : P.underlying tb = some (.int .u8)) (h3c : P.cellsOf tb = 1)
    (h4 : P.underlying f4.type = some (.slice tl)) (h4e : P.underlying tl = some (.int .i64)) (h4c : P.cellsOf tl = 1) (h5 : P.underlying f5.type = some (.int .u8))
    (hone : oneCellFields P #[f0, f1, f2, f3, f4, f5] = true) (hC : P.cellsOf e = 6) (h : DataW.trod enc P w base (fun _ => true) held fuel e cs = some x) :
    ∃ a : Act5, ActAt w cs a ∧ a.fits := by
  obtain ⟨xs, n, _, rfl, hl, hlen, hf⟩ := DataW.trod_struct hs h
  rw [hC] at hl
  obtain ⟨o0, q0⟩ := hone_of hone 0 f0 rfl
  obtain ⟨o1, q1⟩ := hone_of hone 1 f1 rfl
  obtain ⟨o2, q2⟩ := hone_of hone 2 f2 rfl
  obtain ⟨o3, q3⟩ := hone_of hone 3 f3 rfl
  obtain ⟨o4, q4⟩ := hone_of hone 4 f4 rfl
  obtain ⟨o5, q5⟩ := hone_of hone 5 f5 rfl
  have k0 := hf 0 f0 rfl
  have k1 := hf 1 f1 rfl
  have k2 := hf 2 f2 rfl
  have k3 := hf 3 f3 rfl
  have k4 := hf 4 f4 rfl
  have k5 := hf 5 f5 rfl
  rw [o0, q0] at k0
  rw [o1, q1] at k1
  rw [o2, q2] at k2
  rw [o3, q3] at k3
  rw [o4, q4] at k4
  rw [o5, q5] at k5
  match cs, hl with
  | [c0, c1, c2, c3, c4, c5], _ =>
    simp only [List.drop_zero, List.drop_succ_cons, List.take_succ_cons, List.take_zero] at k0 k1 k2 k3 k4 k5
    match xs, hlen with
    | [y0, y1, y2, y3, y4, y5], _ =>
      simp only [List.getElem?_cons_zero, List.getElem?_cons_succ] at k0 k1 k2 k3 k4 k5
      obtain ⟨z0, e0, _, w0⟩ := DataW.trod_int h0 k0
      obtain ⟨z1, e1, _, w1⟩ := DataW.trod_int h1 k1
      obtain ⟨z2, e2, _, w2⟩ := DataW.trod_int h2 k2
      obtain ⟨z5, e5, _, w5⟩ := DataW.trod_int h5 k5
      obtain ⟨a3, l3, p3, e3⟩ := slice_form h3 k3
      obtain ⟨a4, l4, p4, e4⟩ := slice_form h4 k4
      simp only [List.cons.injEq, and_true] at e0 e1 e2 e3 e4 e5
      subst e0 e1 e2 e3 e4 e5
      obtain ⟨b, rb⟩ := read_bytes (enc := enc) (w := w) (base := base) (held := held) (v := .slice a3 l3 p3) (d := y3.1) (ps := y3.2) h3 h3e h3c rfl ⟨n, k3⟩
      obtain ⟨zs, rz, wz⟩ := read_ints (enc := enc) (w := w) (base := base) (held := held) (v := .slice a4 l4 p4) (d := y4.1) (ps := y4.2) h4 h4e h4c rfl ⟨n, k4⟩
      have b0 := bounds_u8 w0
      have b1 := bounds_i64 w1
      have b2 := bounds_i64 w2
      have b5 := bounds_u8 w5
      refine ⟨⟨z0, z1, z2, b, zs, UInt8.ofNat z5.toNat⟩, ⟨_, _, ?_, rb, rz⟩, ⟨b0, b1, b2, fun i hi => bounds_i64 (wz i hi)⟩⟩
      have e : ((UInt8.ofNat z5.toNat).toNat : Int) = z5 := by
        rw [UInt8.toNat_ofNat']
        omega
      simp only
      rw [e]

theorem read_act {r : Reach} {b0 : Nat} {e tb tl : TypeId} {f0 f1 f2 f3 f4 f5 : Field} {v : Value} {d : DataW H} {p : List MemPlace} (hs : P.underlying e = some (.struct #[f0, f1, f2, f3, f4, f5]))
    (h0 : P.underlying f0.type = some (.int .u8)) (h1 : P.underlying f1.type = some (.int .i64)) (h2 : P.underlying f2.type = some (.int .i64)) (h3 : P.underlying f3.type = some (.slice tb)) (h3e : P.underlying tb = some (.int .u8)) (h3c : P.cellsOf tb = 1)
    (h4 : P.underlying f4.type = some (.slice tl)) (h4e : P.underlying tl = some (.int .i64)) (h4c : P.cellsOf tl = 1) (h5 : P.underlying f5.type = some (.int .u8))
    (hone : oneCellFields P #[f0, f1, f2, f3, f4, f5] = true) (hC : P.cellsOf e = 6) (hv : Value.okWide P w r b0 e v) (h : DataW.Trod enc P w base (fun _ => true) held e v d p) :
    ∃ (a : Act5) (cs : List Value), v = .agg cs.toArray ∧ ActAt w cs a ∧ a.fits := by
  obtain ⟨cs, rfl, hsz⟩ := okWide_struct hs hv
  obtain ⟨fuel, hf⟩ := h
  obtain ⟨a, ha, hfit⟩ := act_of hs h0 h1 h2 h3 h3e h3c h4 h4e h4c h5 hone hC hf
  exact ⟨a, _, rfl, ha, hfit⟩

theorem read_acts {t e tb tl : TypeId} {f0 f1 f2 f3 f4 f5 : Field} {v : Value} {d : DataW H} {ps : List MemPlace} (ht : P.underlying t = some (.slice e)) (hs : P.underlying e = some (.struct #[f0, f1, f2, f3, f4, f5]))
    (h0 : P.underlying f0.type = some (.int .u8)) (h1 : P.underlying f1.type = some (.int .i64)) (h2 : P.underlying f2.type = some (.int .i64)) (h3 : P.underlying f3.type = some (.slice tb)) (h3e : P.underlying tb = some (.int .u8)) (h3c : P.cellsOf tb = 1)
    (h4 : P.underlying f4.type = some (.slice tl)) (h4e : P.underlying tl = some (.int .i64)) (h4c : P.cellsOf tl = 1) (h5 : P.underlying f5.type = some (.int .u8))
    (hone : oneCellFields P #[f0, f1, f2, f3, f4, f5] = true) (hC : P.cellsOf e = 6) (hv : v.cells.toList = [v]) (h : DataW.Trod enc P w base (fun _ => true) held t v d ps) :
    ∃ as : List Act5, RdActs w v as ∧ ∀ a ∈ as, a.fits := by
  obtain ⟨fuel, hf⟩ := h
  rw [hv] at hf
  rcases open_slice ht hf with ⟨hcs, _⟩ | ⟨a, len, cap, m, n, D, Pl, hcs, _, hl, hm, hmm, _, hi⟩
  · obtain rfl : v = .slice none 0 0 := by simpa using hcs
    exact ⟨[], ⟨none, 0, rfl, Nat.le_refl _, by simp [maxLen], fun j hj => by simp at hj⟩, by simp⟩
  · obtain rfl : v = .slice (some a) len cap := by simpa using hcs
    have hmc : m = cap := by simpa using hmm
    have key : ∀ i, i < len → ∃ x : Act5, x.fits ∧ ∃ cs, ActAt w cs x ∧ ∀ j y, cs[j]? = some y → w.cell? ((a.add (i * 6)).add j) = some y := fun i hi' => by
      obtain ⟨cs, hc, ht'⟩ := hi i (by omega)
      rw [hC] at hc
      obtain ⟨_, hcl, hat⟩ := World.cells?_some hc
      obtain ⟨x, hx, hfit⟩ := act_of hs h0 h1 h2 h3 h3e h3c h4 h4e h4c h5 hone hC ht'
      refine ⟨x, hfit, _, hx, fun j y hj => ?_⟩
      have hj6 : j < 6 := by
        have h1 := (List.getElem?_eq_some_iff.1 hj).1
        rw [hcl] at h1
        exact h1
      rw [hat j hj6]
      exact hj
    have hall : ∃ as : List Act5, as.length = len ∧ ∀ i, (hi : i < as.length) → as[i].fits ∧ ∃ cs, ActAt w cs as[i] ∧ ∀ j y, cs[j]? = some y → w.cell? ((a.add (i * 6)).add j) = some y := by
      refine ⟨(List.range len).map fun i => if h : i < len then (key i h).choose else ⟨0, 0, 0, [], [], 0⟩, by simp, fun i hi' => ?_⟩
      have hil : i < len := by simpa using hi'
      rw [List.getElem_map, List.getElem_range, dif_pos hil]
      exact (key i hil).choose_spec
    obtain ⟨as, hlen, has⟩ := hall
    refine ⟨as, ⟨some a, cap, by rw [hlen], by omega, hm, fun j hj => ?_⟩, fun x hx => ?_⟩
    · obtain ⟨b, off, spot⟩ := a
      obtain ⟨_, cs0, ⟨vb0, vl0, rfl, _, _⟩, h00'⟩ := has 0 (by omega)
      have h00 := h00' 0 _ rfl
      have hsp : spot = none := by
        have h := World.cell?_spot h00
        cases spot with
        | none => rfl
        | some x =>
          exfalso
          simp [Addr.add] at h
      subst hsp
      obtain ⟨_, cs, hcs', hat⟩ := has j hj
      exact ⟨b, off, cs, rfl, hcs', fun i y hy => by
        have := hat i y hy
        rw [add_at, add_at] at this
        exact this⟩
    · obtain ⟨i, hi', rfl⟩ := List.mem_iff_getElem.1 hx
      exact (has i hi').1

end
end Go.Proofs.Ythelgjoobckbaaa
