/-
  Texts of this proof, merged: OpenNode, Head, AskRef5, LaySort, IntSort, SortI.
-/
import Derived.Shelf.Sort.Plain
import Derived.Shelf.Slices.CompactI
import Derived.Shelf.Slices.In.SortNone
import Derived.Lib.SlicesCompact
import Derived.Sort.OwnSortedInts
import Derived.Test.YtfnmcdjfdhdlmaaDoorZ11
import Derived.Test.YtfnmcdjfdhdlmaaDoorZ3
import Derived.Test.YtfnmcdjfdhdlmaaDoorZ9
import Derived.Test.YtfnmcdjfdhdlmaaDoorZ10
import Derived.Test.YtfnmcdjfdhdlmaaDoorProg
import Derived.Test.YtfnmcdjfdhdlmaaDoorZ2
/-
  What an argument that came in as a row of nodes (structs of three numbers and a value) is to a walk.
-/
namespace Go.Proofs.YtfnmcdjfdhdlmaaDoor
open Go.ChangeShapes Go.WideShapes Go.ChangeAt Go.RowKit Go.Joins Go.Deep

section
variable {H : Type} {enc : TypeId × Value → H} {P : Program} {w : World} {base : Nat} {held : Bool}

theorem node_of {t e : TypeId} {f0 f1 f2 f3 g0 g1 g2 : Field} {cs : List Value} {fuel : Nat} {x : DataW H × List MemPlace} (hs : P.underlying t = some (.struct #[f0, f1, f2, f3])) (he : P.underlying e = some (.struct #[g0, g1, g2]))
    (h0 : P.underlying g0.type = some (.int .u8)) (h1 : P.underlying g1.type = some (.int .i64)) (h2 : P.underlying g2.type = some .string) (hone : oneCellFields P #[g0, g1, g2] = true)
    (t0 : P.underlying f0.type = some (.int .u8)) (t1 : P.underlying f1.type = some (.int .i64)) (t2 : P.underlying f2.type = some (.int .i64)) (t3 : f3.type = e) (o0 : f0.offset = 0) (o1 : f1.offset = 1) (o2 : f2.offset = 2) (o3 : f3.offset = 3)
    (c0 : P.cellsOf f0.type = 1) (c1 : P.cellsOf f1.type = 1) (c2 : P.cellsOf f2.type = 1) (c3 : P.cellsOf e = 3) (hcl : cs.length = 6) (hf : DataW.trod enc P w base (fun _ => true) held fuel t cs = some x) :
    ∃ a : Nd, cs = a.cells ∧ a.fits ∧ a.v.s.length ≤ maxLen := by
  cases fuel with
  | zero => simp [DataW.trod] at hf
  | succ fuel =>
  obtain ⟨xs, n, _, _, hl, hlen, hfld⟩ := DataW.trod_struct hs hf
  have k0 := hfld 0 f0 rfl
  have k1 := hfld 1 f1 rfl
  have k2 := hfld 2 f2 rfl
  have k3 := hfld 3 f3 rfl
  rw [o0, c0] at k0
  rw [o1, c1] at k1
  rw [o2, c2] at k2
  rw [o3, t3, c3] at k3
  match xs, hlen with
  | [y0, y1, y2, y3], _ =>
    simp only [List.getElem?_cons_zero, List.getElem?_cons_succ] at k0 k1 k2 k3
    match cs, hcl with
    | [x0, x1, x2, x3, x4, x5], _ =>
      simp only [List.drop_zero, List.drop_succ_cons, List.take_succ_cons, List.take_zero] at k0 k1 k2 k3
      obtain ⟨z0, e0, _, w0⟩ := DataW.trod_int t0 k0
      obtain ⟨z1, e1, _, w1⟩ := DataW.trod_int t1 k1
      obtain ⟨z2, e2, _, w2⟩ := DataW.trod_int t2 k2
      obtain ⟨b, eb, fb, lb⟩ := val_of he h0 h1 h2 hone rfl k3
      unfold V.cells at eb
      simp only [List.cons.injEq, and_true] at eb e0 e1 e2
      obtain ⟨rfl, rfl, rfl⟩ := eb
      subst e0 e1 e2
      have b0 := bounds_u8 w0
      have b1 := bounds_i64 w1
      have b2 := bounds_i64 w2
      exact ⟨⟨z0, z1, z2, b⟩, rfl, ⟨b0.1, b0.2, b1.1, b1.2, b2.1, b2.2, fb⟩, lb⟩

theorem read_nodes {t s e : TypeId} {f0 f1 f2 f3 g0 g1 g2 : Field} {v : Value} {d : DataW H} {ps : List MemPlace} (ht : P.underlying t = some (.slice s)) (hs : P.underlying s = some (.struct #[f0, f1, f2, f3])) (he : P.underlying e = some (.struct #[g0, g1, g2]))
    (h0 : P.underlying g0.type = some (.int .u8)) (h1 : P.underlying g1.type = some (.int .i64)) (h2 : P.underlying g2.type = some .string) (hone : oneCellFields P #[g0, g1, g2] = true)
    (t0 : P.underlying f0.type = some (.int .u8)) (t1 : P.underlying f1.type = some (.int .i64)) (t2 : P.underlying f2.type = some (.int .i64)) (t3 : f3.type = e) (o0 : f0.offset = 0) (o1 : f1.offset = 1) (o2 : f2.offset = 2) (o3 : f3.offset = 3)
    (c0 : P.cellsOf f0.type = 1) (c1 : P.cellsOf f1.type = 1) (c2 : P.cellsOf f2.type = 1) (c3 : P.cellsOf e = 3) (hC : P.cellsOf s = 6) (hv : v.cells.toList = [v]) (h : DataW.Trod enc P w base (fun _ => true) held t v d ps) :
    ∃ l : List Nd, RdNds w v l ∧ ∀ x ∈ l, x.fits ∧ x.v.s.length ≤ maxLen := by
  obtain ⟨fuel, hf⟩ := h
  rw [hv] at hf
  rcases open_slice ht hf with ⟨hcs, _⟩ | ⟨a, len, cap, m, n, D, Pl, hcs, _, hl, hm, hmm, _, hi⟩
  · obtain rfl : v = .slice none 0 0 := by simpa using hcs
    exact ⟨[], RdNds.nil w, by simp⟩
  · obtain rfl : v = .slice (some a) len cap := by simpa using hcs
    have hmc : m = cap := by simpa using hmm
    have key : ∀ i, i < len → ∃ x : Nd, (x.fits ∧ x.v.s.length ≤ maxLen) ∧ ∀ j y, x.cells[j]? = some y → w.cell? ((a.add (i * 6)).add j) = some y := fun i hi' => by
      obtain ⟨cs, hc, ht'⟩ := hi i (by omega)
      rw [hC] at hc
      obtain ⟨_, hcl, hat⟩ := World.cells?_some hc
      obtain ⟨b, rfl, fb, lb⟩ := node_of hs he h0 h1 h2 hone t0 t1 t2 t3 o0 o1 o2 o3 c0 c1 c2 c3 hcl ht'
      refine ⟨b, ⟨fb, lb⟩, fun j y hj => ?_⟩
      have hj6 : j < 6 := by
        have := (List.getElem?_eq_some_iff.1 hj).1
        rwa [hcl] at this
      rw [hat j hj6]
      exact hj
    have hall : ∃ l : List Nd, l.length = len ∧ ∀ i, (hi : i < l.length) → (l[i].fits ∧ l[i].v.s.length ≤ maxLen) ∧ ∀ j y, (l[i].cells)[j]? = some y → w.cell? ((a.add (i * 6)).add j) = some y := by
      refine ⟨(List.range len).map fun i => if h : i < len then (key i h).choose else ⟨0, 0, 0, V.zero⟩, by simp, fun i hi' => ?_⟩
      have hil : i < len := by simpa using hi'
      rw [List.getElem_map, List.getElem_range, dif_pos hil]
      exact (key i hil).choose_spec
    obtain ⟨l, hlen, hvs⟩ := hall
    refine ⟨l, ⟨some a, cap, by rw [hlen], by omega, hm, fun j hj => ?_⟩, fun x hx => ?_⟩
    · obtain ⟨b, off, spot⟩ := a
      have h00 := (hvs 0 (by omega)).2 0 _ rfl
      have hsp : spot = none := by
        have h := World.cell?_spot h00
        cases spot with
        | none => rfl
        | some x =>
          exfalso
          simp [Addr.add] at h
      subst hsp
      exact ⟨b, off, rfl, fun i y hy => by
        have := (hvs j hj).2 i y hy
        rw [add_at, add_at] at this
        exact this⟩
    · obtain ⟨i, hi', rfl⟩ := List.mem_iff_getElem.1 hx
      exact (hvs i hi').1

end
end Go.Proofs.YtfnmcdjfdhdlmaaDoor

/-
  The first ones of a slice; how many these are; bytes as a text. Over any program.
-/
namespace Go.Proofs.YtfnmcdjfdhdlmaaDoor
open Go.ChangeAt Go.RowKit

/-- The first ones of a slice. -/
theorem rdV_first {w : World} {ao : Option Addr} {N cap : Nat} {xs : List Value} (h : RdV w (.slice ao N cap) xs) (K : Nat) (hK : K ≤ N) : RdV w (.slice ao K cap) (xs.take K) := by
  rcases h with ⟨h1, h2⟩ | ⟨x, cap', h1, h2, h3, h4⟩
  · simp only [Value.slice.injEq] at h1
    obtain ⟨rfl, rfl, rfl⟩ := h1
    have hk : K = 0 := by omega
    subst hk
    subst h2
    exact .inl ⟨rfl, rfl⟩
  · simp only [Value.slice.injEq] at h1
    obtain ⟨rfl, rfl, rfl⟩ := h1
    exact RdV.takes h2 h3 h4 K K (by omega)
/-- How many of the first k there are: as a walk may show it. -/
theorem min_firstN (N k : Nat) : ∃ K : Nat, min (N : Int) (k : Int) = (K : Int) ∧ (if (k : Int) < (N : Int) then (k : Int) else (N : Int)) = (K : Int) ∧ K ≤ N ∧ K ≤ k ∧ K = min N k :=
  ⟨min N k, by omega, by split <;> omega, by omega, by omega, rfl⟩
theorem take_minN {α : Type} (l : List α) (k : Nat) : l.take (min l.length k) = l.take k := by
  rcases Nat.le_total l.length k with h | h
  · rw [Nat.min_eq_left h, List.take_of_length_le (Nat.le_refl _), List.take_of_length_le h]
  · rw [Nat.min_eq_right h]
/-- string(b), as a fact of the walk. -/
theorem str_of {w : World} {v : Value} {l : List UInt8} (h : Rd w v l) : (convert 22 9 v).run Tryd.prog w = .ok (.string ⟨l.toArray⟩) w :=
  h.string 22 9 5 Tryd.underlying22 Tryd.underlying5 Tryd.underlying9
/-- A row of ints that is read: where it lies. -/
theorem RdV.plain {w : World} {ao : Option Addr} {N cap : Nat} {xs : List Int} (h : RdV w (.slice ao N cap) (xs.map (Value.int .i64))) : N = xs.length ∧ N ≤ cap ∧ cap ≤ maxLen ∧ ∀ j, (hj : j < xs.length) → ∃ g off, ao = some ⟨g, off, none⟩ ∧ w.cell? ⟨g, off + j, none⟩ = some (.int .i64 xs[j]) := by
  obtain ⟨a', c', h0, h1, h2, h3⟩ := RdV.cellsAt h
  simp only [Value.slice.injEq, List.length_map] at h0 h1
  obtain ⟨rfl, rfl, rfl⟩ := h0
  refine ⟨rfl, h1, h2, fun j hj => ?_⟩
  obtain ⟨⟨g, off, sp⟩, rfl, hc⟩ := h3 j (.int .i64 xs[j]) (by rw [List.getElem?_map, List.getElem?_eq_getElem hj]; rfl)
  have hsp : sp = none := by
    obtain ⟨a0, ha0, hc0⟩ := h3 0 (.int .i64 xs[0]) (by rw [List.getElem?_map, List.getElem?_eq_getElem (by omega)]; rfl)
    obtain rfl := Option.some.inj ha0
    have h := World.cell?_spot hc0
    simpa [Addr.add] using h
  subst hsp
  rw [add_at] at hc
  exact ⟨g, off, rfl, hc⟩
/-- A row that is read: where it lies. -/
theorem RdV.plainV {w : World} {ao : Option Addr} {N cap : Nat} {xs : List Value} (h : RdV w (.slice ao N cap) xs) : N = xs.length ∧ N ≤ cap ∧ cap ≤ maxLen ∧ ∀ j u, xs[j]? = some u → ∃ g off, ao = some ⟨g, off, none⟩ ∧ w.cell? ⟨g, off + j, none⟩ = some u := by
  obtain ⟨a', c', h0, h1, h2, h3⟩ := RdV.cellsAt h
  simp only [Value.slice.injEq] at h0 h1
  obtain ⟨rfl, rfl, rfl⟩ := h0
  refine ⟨rfl, h1, h2, fun j u hj => ?_⟩
  obtain ⟨⟨g, off, sp⟩, rfl, hc⟩ := h3 j u hj
  have hsp : sp = none := by
    have hlt : 0 < xs.length := by
      have := (List.getElem?_eq_some_iff.1 hj).1
      omega
    obtain ⟨a0, ha0, hc0⟩ := h3 0 xs[0] (List.getElem?_eq_getElem hlt)
    obtain rfl := Option.some.inj ha0
    have h := World.cell?_spot hc0
    simpa [Addr.add] using h
  subst hsp
  rw [add_at] at hc
  exact ⟨g, off, rfl, hc⟩
/-- The rest of a row of bytes, as a fact of the walk. -/
theorem slice_rest {w : World} {ao : Option Addr} {N cap : Nat} {l : List UInt8} (h : Rd w (.slice ao N cap) l) (k : Nat) (hk : k ≤ N) :
    ∃ a c, Rd w (.slice a (N - k) c) (l.drop k) ∧ ∀ W, (Instr.slice 22 (.slice ao N cap) (some (.int .i64 (k : Int))) none none).run Tryd.prog W = .ok (.slice a (N - k) c) W := by
  obtain ⟨e, h2, h3, -⟩ := RdV.plainV h
  rw [List.length_map] at e
  subst e
  have hlo : (k : Int) ≤ (l.length : Int) := by omega
  rcases h with ⟨h1, h4⟩ | ⟨x, cap', h1, h4, h5, h6⟩
  · simp only [Value.slice.injEq] at h1
    obtain ⟨rfl, h7, rfl⟩ := h1
    have hl0 : l = [] := List.length_eq_zero_iff.1 h7
    subst hl0
    obtain rfl : k = 0 := by simpa using hk
    refine ⟨none, 0, Rd.nil w, fun W => ?_⟩
    simp [Instr.slice, Instr.sliceBounds, Instr.sliceBound, run_underlying Tryd.underlying22, go_sem]
  · simp only [Value.slice.injEq] at h1
    obtain ⟨rfl, -, rfl⟩ := h1
    by_cases hc : cap = k
    · refine ⟨some x, cap - k, ?_, fun W => ?_⟩
      · have hd : l.drop k = [] := List.drop_eq_nil_of_le (by omega)
        rw [hd, show l.length - k = 0 by omega]
        exact .inr ⟨x, _, rfl, Nat.zero_le _, by omega, fun i u hu => by simp at hu⟩
      · subst hc
        simp [Instr.slice, Instr.sliceBounds, Instr.sliceBound, run_underlying Tryd.underlying22, go_sem, hk]
    · refine ⟨some (x.add k), cap - k, ?_, fun W => ?_⟩
      · refine .inr ⟨x.add k, cap - k, by rw [List.length_map, List.length_drop], by rw [List.length_map, List.length_drop]; omega, by omega, fun i u hu => ?_⟩
        have e2 : (x.add k).add i = x.add (k + i) := by unfold Addr.add; simp; split <;> split <;> simp_all <;> omega
        rw [e2]
        exact h6 (k + i) u (by rw [List.map_drop, List.getElem?_drop] at hu; exact hu)
      · simp [Instr.slice, Instr.sliceBounds, Instr.sliceBound, run_underlying Tryd.underlying22, go_sem, hk, hc]
/-- The rest of a row of one-cell values, as a fact of the walk. -/
theorem slice_restV {P : Program} {t e : TypeId} (ht : P.underlying t = some (.slice e)) {i0 : TypeInfo} (hi : P.info? e = some i0) (hz : i0.size = 1) {w : World} {ao : Option Addr} {N cap : Nat} {l : List Value} (h : RdV w (.slice ao N cap) l) (k : Nat) (hk : k ≤ N) :
    ∃ a c, RdV w (.slice a (N - k) c) (l.drop k) ∧ ∀ W, (Instr.slice t (.slice ao N cap) (some (.int .i64 (k : Int))) none none).run P W = .ok (.slice a (N - k) c) W := by
  obtain ⟨e, h2, h3, -⟩ := RdV.plainV h
  subst e
  have hlo : (k : Int) ≤ (l.length : Int) := by omega
  rcases h with ⟨h1, h4⟩ | ⟨x, cap', h1, h4, h5, h6⟩
  · simp only [Value.slice.injEq] at h1
    obtain ⟨rfl, h7, rfl⟩ := h1
    have hl0 : l = [] := List.length_eq_zero_iff.1 h7
    subst hl0
    obtain rfl : k = 0 := by simpa using hk
    refine ⟨none, 0, RdV.nil w, fun W => ?_⟩
    simp [Instr.slice, Instr.sliceBounds, Instr.sliceBound, run_underlying ht, sizeOf, typeInfo, hi, go_sem]
  · simp only [Value.slice.injEq] at h1
    obtain ⟨rfl, -, rfl⟩ := h1
    by_cases hc : cap = k
    · refine ⟨some x, cap - k, ?_, fun W => ?_⟩
      · have hd : l.drop k = [] := List.drop_eq_nil_of_le (by omega)
        rw [hd, show l.length - k = 0 by omega]
        exact .inr ⟨x, _, rfl, Nat.zero_le _, by omega, fun i u hu => by simp at hu⟩
      · subst hc
        simp [Instr.slice, Instr.sliceBounds, Instr.sliceBound, run_underlying ht, sizeOf, typeInfo, hi, go_sem, hk]
    · refine ⟨some (x.add k), cap - k, ?_, fun W => ?_⟩
      · refine .inr ⟨x.add k, cap - k, by rw [List.length_drop], by rw [List.length_drop]; omega, by omega, fun i u hu => ?_⟩
        have e2 : (x.add k).add i = x.add (k + i) := by unfold Addr.add; simp; split <;> split <;> simp_all <;> omega
        rw [e2]
        exact h6 (k + i) u (by rw [List.getElem?_drop] at hu; exact hu)
      · simp [Instr.slice, Instr.sliceBounds, Instr.sliceBound, run_underlying ht, sizeOf, typeInfo, hi, hz, go_sem, hk, hc]
theorem int_one (l : List Int) : ∀ u ∈ l.map (Value.int .i64), u.oneCell' = true := by
  intro u hu
  obtain ⟨c, _, rfl⟩ := List.mem_map.1 hu
  rfl

theorem str_later {w : World} {v : Value} {l : List UInt8} (h : Rd w v l) : ∀ z : Later Ext w.drew, (convert 22 9 v).run Tryd.prog z.val = .ok (.string ⟨l.toArray⟩) z.val := fun z => str_of (h.mono (Ext.trans (Ext.drew w) z.ext))

end Go.Proofs.YtfnmcdjfdhdlmaaDoor

/-
  The contract of the document's own Cols.
-/
namespace Go.Proofs.YtfnmcdjfdhdlmaaDoor
open Go.RowKit Go.BigFrame

theorem insI_at (c : Int) : ∀ (acc : List Int) (kn : Nat), kn ≤ acc.length → (∀ i, (h : i < acc.length) → i < kn → acc[i] < c) → (∀ h : kn < acc.length, c < acc[kn]) → insI c acc = acc.take kn ++ c :: acc.drop kn
  | [], kn, hk, _, _ => by
    have : kn = 0 := by simpa using hk
    subst this
    rfl
  | y :: t, 0, _, _, h2 => by
    have h := h2 (by simp)
    simp only [List.getElem_cons_zero] at h
    unfold insI
    rw [if_pos h]
    rfl
  | y :: t, kn + 1, hk, h1, h2 => by
    have h := h1 0 (by simp) (by omega)
    simp only [List.getElem_cons_zero] at h
    unfold insI
    rw [if_neg (by omega), if_neg (by omega), insI_at c t kn (by simpa using hk) (fun i hi hik => by have := h1 (i + 1) (by simpa using hi) (by omega); simpa using this) (fun hi => by have := h2 (by simpa using hi); simpa using this)]
    rfl
theorem insI_same (c : Int) : ∀ (acc : List Int) (kn : Nat) (hk : kn < acc.length), (∀ i, (h : i < acc.length) → i < kn → acc[i] < c) → acc[kn] = c → insI c acc = acc
  | [], _, hk, _, _ => by simp at hk
  | y :: t, 0, _, _, h2 => by
    simp only [List.getElem_cons_zero] at h2
    unfold insI
    rw [if_neg (by omega), if_pos h2.symm]
  | y :: t, kn + 1, hk, h1, h2 => by
    have h := h1 0 (by simp) (by omega)
    simp only [List.getElem_cons_zero] at h
    unfold insI
    rw [if_neg (by omega), if_neg (by omega), insI_same c t kn (by simpa using hk) (fun i hi hik => by have := h1 (i + 1) (by simpa using hi) (by omega); simpa using this) (by simpa using h2)]
theorem insI_len (c : Int) (acc : List Int) : (insI c acc).length ≤ acc.length + 1 := by
  induction acc with
  | nil => exact Nat.le_refl _
  | cons y t ih =>
    unfold insI
    split
    · simp
    · split
      · simp
      · simp; omega
theorem cols_succ {l : List Nd} {j : Nat} (h : j < l.length) : colsS (l.take (j + 1)) = if colN l[j] = true then insI l[j].col (colsS (l.take j)) else colsS (l.take j) := by
  unfold colsS
  rw [List.take_succ_eq_append_getElem h, List.foldl_append]
  rfl
theorem int_oneCell (l : List Int) : ∀ u ∈ l.map (Value.int .i64), u.oneCell' = true := by
  intro u hu
  obtain ⟨x, _, rfl⟩ := List.mem_map.1 hu
  rfl
theorem empty_ints (w : World) : (w.alloc (.cells #[] 3)).ownsRow w.heap.size 3 1 (.slice (some ⟨w.heap.size, 0, none⟩) 0 0) 0 [] := World.ownsRow_made w #[] 0 (Nat.le_refl _) (by simp [maxLen]) rfl

set_option maxRecDepth 100000 in
set_option maxHeartbeats 8000000 in
theorem refCols14_any (u : Value) (l : List Nd) (w : World) (hu : RdNds w u l) (hl : l.length ≤ 100000) :
    Calls Tryd.prog 11 #[u] w fun e w' => ∃ v, e = .returned v ∧ w'.ownsRow w.heap.size 3 1 v (colsS l).length ((colsS l).map (Value.int .i64)) ∧ Ext w w' := by
  obtain ⟨i1, hi1, hy0, hy1, hy2⟩ := info_parts Tryd.info_int8
  obtain ⟨ao, cap, rfl, -, -⟩ := hu.shape
  obtain ⟨-, h1, h2, hc⟩ := hu.plain
  have HCS := Lib.hid hc
  unfold maxLen at h2
  obtain ⟨N, hN⟩ : ∃ N, l.length = N := ⟨_, rfl⟩
  have HN := Lib.hid hN
  rw [hN] at h1 hl ⊢
  clear hu hc hN
  go_enter Tryd.func11, Tryd.ntmps11
  go_wp2_with fail
  go_loopw [3, 4, 5, 6] (fun s i _ _ wr => ∃ (j : Nat) (sv : Value), j ≤ N ∧ i = .int .i64 j ∧ sv = s ∧ wr.ownsRow w.heap.size 3 1 sv (colsS (l.take j)).length ((colsS (l.take j)).map (Value.int .i64)) ∧ (colsS (l.take j)).length ≤ j ∧ Ext w wr) (fun _ i _ _ _ => N - (intOf i).toNat)
  case atStart => exact ⟨0, .slice none 0 0, Nat.zero_le _, rfl, rfl, owns_nil _ _ _ _, Nat.le_refl _, Ext.keeps.refl _⟩
  case round =>
    obtain ⟨j, sv, hj, rfl, rfl, ho, hln, hx⟩ := hrel
    have HO := Lib.hid ho
    have HX := Lib.hid hx
    clear ho hx
    obtain ⟨vo, vc, rfl, hv1, hv2⟩ := own_shapeP HO.out
    by_cases hlt : j < N
    · have hjl : j < l.length := by have := HN.out; omega
      obtain ⟨g, off, rfl, c0, c1, c2, c3, c4, c5⟩ := HCS.out j hjl
      have HC0 := Lib.hid (fun W (h : Below w.heap.size w W) => (h.cell (lt_of_cell c0)).trans c0)
      have HC := Lib.hid (fun W (h : Below w.heap.size w W) => (h.cell (lt_of_cell c1)).trans c1)
      have HSUC := Lib.hid (cols_succ hjl)
      have HIL := Lib.hid (insI_len l[j].col (colsS (l.take j)))
      have HCN := Lib.hid (show colN l[j] = decide (5 ≤ l[j].op ∧ l[j].op ≤ 8) from rfl)
      generalize colsS (l.take j) = W at HO HSUC HIL hln hv1 ⊢
      generalize l[j] = nd at HC0 HC HSUC HIL HCN
      obtain ⟨o, s, kd, ⟨vk, vn, vs⟩⟩ := nd
      simp only at HC0 HC HSUC HIL HCN
      have HCLM := Lib.hid (fun W => refColumn_any o W)
      rw [← HCN.out] at HCLM
      generalize colN ⟨o, s, kd, ⟨vk, vn, vs⟩⟩ = cb at HSUC HCLM
      clear c0 c1 c2 c3 c4 c5 hjl HCN
      obtain ⟨WL, hWL⟩ : ∃ WL, W.length = WL := ⟨_, rfl⟩
      have HWL := Lib.hid hWL
      rw [hWL] at HO hln hv1 ⊢
      clear hWL
      go_wp2_with fail
      have HO1 := Lib.hid HO.out
      go_loopw [5] (fun k wi => ∃ kn : Nat, kn ≤ WL ∧ k = .int .i64 kn ∧ (∀ i, (hi : i < W.length) → i < kn → W[i] < s) ∧ wi.ownsRow w.heap.size 3 1 (.slice vo WL vc) WL (W.map (Value.int .i64)) ∧ Ext w wi) (fun k _ => WL - (intOf k).toNat)
      case atStart => exact ⟨0, Nat.zero_le _, rfl, fun i _ h => by omega, HO1.out, HX.out⟩
      case round =>
        obtain ⟨kn, hkn, rfl, hb1, ho2, hx2⟩ := hrel
        have HB1 := Lib.hid hb1
        have HO2 := Lib.hid ho2
        have HX2 := Lib.hid hx2
        obtain ⟨-, -, -, hat2⟩ := RdV.plainV (RdV.of_owns ho2)
        have HAT2 := Lib.hid hat2
        have hcl : ∀ z : Later Ext wr.drew, z.val.cell? ⟨g, off + j * 6 + 1, none⟩ = some (.int .i64 s) := fun z => HC.out z.val (Ext.trans hx2 (Ext.trans (Ext.drew wr) z.ext))
        clear hb1 ho2 hx2 hat2
        by_cases hk : kn < WL
        · have hkW : kn < W.length := by have := HWL.out; omega
          obtain ⟨g2, off2, rfl, hcw⟩ := HAT2.out kn (.int .i64 W[kn]) (by rw [List.getElem?_map, List.getElem?_eq_getElem hkW]; rfl)
          have hcw2 : ∀ z : Later Ext wr.drew, z.val.cell? ⟨g2, off2 + kn, none⟩ = some (.int .i64 W[kn]) := fun z => ((Ext.trans (Ext.drew wr) z.ext).cell (lt_of_cell hcw)).trans hcw
          have HNX := Lib.hid (fun (h : W[kn] < s) => (show ∀ i, (hi : i < W.length) → i < kn + 1 → W[i] < s from fun i hi hik => by
            by_cases e : i = kn
            · subst e; exact h
            · exact HB1.out i hi (by omega)))
          have HEX := Lib.hid (fun (h : s < W[kn]) => insI_at s W kn (by omega) HB1.out (fun _ => h))
          have HSAME := Lib.hid (fun (h : W[kn] = s) => insI_same s W kn hkW HB1.out h)
          have HGT := Lib.hid (List.getElem?_eq_getElem hkW)
          generalize W[kn] = t at hcw2 HNX HEX HSAME HGT
          clear hcw hkW
          have d5 : decide (kn < WL) = true := decide_eq_true hk
          by_cases hts : t < s
          · have HN2 := Lib.hid (HNX.out hts)
            have d6 : decide (t < s) = true := decide_eq_true hts
            clear hts
            go_wp2_with fail
            refine wp_region_segs Ext Ext.keeps [(List.range 16, none)] (by kernel_rfl) (by kernel_rfl) (fun c a a' w e h => (by exact ⟨e ▸ h.1, h.2⟩)) ?_
            simp only [List.range, List.range.loop, pickSegs, pickOps, List.map_cons, List.map_nil, Option.map_none, Option.getD_some, List.getElem?_toArray, List.getElem?_cons_zero, List.getElem?_cons_succ]
            refine wpSegs_none ?_
            repeat go_big_quiet_step (fail)
            refine wpQuiet_nil (wpSegs_nil ?_)
            clear hcl hcw2
            go_wp2_with fail
            go_roundw
            case rel => exact ⟨kn + 1, by omega, by go_num, HN2.out, owns_ext HO2.out (Ext.drew wr), Ext.trans HX2.out (Ext.drew wr)⟩
            case measure => simp [intOf]; omega
          · have d6 : decide (t < s) = false := decide_eq_false hts
            by_cases heq : t = s
            · have HINS := Lib.hid (HSAME.out heq)
              have d7 : (t == s) = true := by simp [heq]
              clear hts heq
              go_wp2_with fail
              refine wp_region_segs Ext Ext.keeps [(List.range 16, none)] (by kernel_rfl) (by kernel_rfl) (fun c a a' w e h => (by exact ⟨e ▸ h.1, h.2⟩)) ?_
              simp only [List.range, List.range.loop, pickSegs, pickOps, List.map_cons, List.map_nil, Option.map_none, Option.getD_some, List.getElem?_toArray, List.getElem?_cons_zero, List.getElem?_cons_succ]
              refine wpSegs_none ?_
              repeat go_big_quiet_step (fail)
              refine wpQuiet_nil (wpSegs_nil ?_)
              clear hcl hcw2
              go_wp2_with fail
              have HOD := Lib.hid (owns_ext HO2.out (Ext.drew wr))
              have HXD := Lib.hid (Ext.trans HX2.out (Ext.drew wr))
              generalize wr.drew = wd at HOD HXD ⊢
              have hq0 : ∀ z : Later Ext wd.drew, z.val.cell? ⟨g, off + j * 6, none⟩ = some (.int .u8 o) := fun z => HC0.out z.val (Ext.trans HXD.out (Ext.trans (Ext.drew wd) z.ext))
              refine wp_region_segs Ext Ext.keeps [([0, 1, 2, 3, 4], some 5), ([6, 7, 8, 9, 10, 11, 12, 13, 14, 15, 16, 17, 18, 19, 20, 21, 22, 23, 24], none)] (by kernel_rfl) (by kernel_rfl) (fun c a a' w e h => (by exact ⟨e ▸ h.1, h.2⟩)) ?_
              simp only [pickSegs, pickOps, List.map_cons, List.map_nil, Option.map_some, Option.map_none, Option.getD_some, List.getElem?_toArray, List.getElem?_cons_zero, List.getElem?_cons_succ]
              refine wpSegs_some fun K hK => ?_
              repeat go_big_quiet_step (fail)
              refine wpQuiet_nil ?_
              clear hq0
              go_wp2_with fail
              refine (HCLM.out _).mono ?_
              rintro e W' ⟨rfl, rfl⟩
              go_wp2_with fail
              refine ⟨Ext.keeps.refl _, hK _ _ ?_⟩
              clear hK K
              have HOE := Lib.hid (owns_ext HOD.out (Ext.drew wd))
              have HXE := Lib.hid (Ext.trans HXD.out (Ext.drew wd))
              generalize wd.drew = we at HOE HXE ⊢
              have hq1 : ∀ z : Later Ext we, z.val.cell? ⟨g, off + j * 6 + 1, none⟩ = some (.int .i64 s) := fun z => HC.out z.val (Ext.trans HXE.out z.ext)
              have hq2 : ∀ z : Later Ext we, z.val.cell? ⟨g2, off2 + kn, none⟩ = some (.int .i64 t) := fun z => by
                obtain ⟨-, -, -, h⟩ := RdV.plainV (RdV.of_owns (owns_ext HOE.out z.ext))
                obtain ⟨g3, off3, e3, h3⟩ := h kn (.int .i64 t) (by rw [List.getElem?_map, HGT.out]; rfl)
                simp only [Option.some.injEq, Addr.mk.injEq, and_true] at e3
                obtain ⟨rfl, rfl⟩ := e3
                exact h3
              cases cb with
              | false =>
                have HSF := Lib.hid (show colsS (l.take (j + 1)) = W by have h := HSUC.out; simpa using h)
                refine wpSegs_none ?_
                repeat go_big_quiet_step (fail)
                refine wpQuiet_nil (wpSegs_nil ?_)
                clear hq1 hq2
                go_wp2_with fail
                go_roundw
                case rel => exact ⟨j + 1, _, by omega, by go_num, rfl, by rw [HSF.out, HWL.out]; exact HOE.out, by rw [HSF.out, HWL.out]; omega, HXE.out⟩
                case measure => simp [intOf]; omega
              | true =>
                have HSF := Lib.hid (show colsS (l.take (j + 1)) = W by have h := HSUC.out; rw [HINS.out] at h; simpa using h)
                refine wpSegs_none ?_
                repeat go_big_quiet_step (fail)
                refine wpQuiet_nil (wpSegs_nil ?_)
                clear hq1 hq2
                go_wp2_with fail
                go_roundw
                case rel => exact ⟨j + 1, _, by omega, by go_num, rfl, by rw [HSF.out, HWL.out]; exact HOE.out, by rw [HSF.out, HWL.out]; omega, HXE.out⟩
                case measure => simp [intOf]; omega
            · have HINS := Lib.hid (HEX.out (by omega))
              have d7 : (t == s) = false := beq_eq_false_iff_ne.2 heq
              clear hts heq
              go_wp2_with fail
              refine wp_region_segs Ext Ext.keeps [(List.range 16, none)] (by kernel_rfl) (by kernel_rfl) (fun c a a' w e h => (by exact ⟨e ▸ h.1, h.2⟩)) ?_
              simp only [List.range, List.range.loop, pickSegs, pickOps, List.map_cons, List.map_nil, Option.map_none, Option.getD_some, List.getElem?_toArray, List.getElem?_cons_zero, List.getElem?_cons_succ]
              refine wpSegs_none ?_
              repeat go_big_quiet_step (fail)
              refine wpQuiet_nil (wpSegs_nil ?_)
              clear hcl hcw2
              go_wp2_with fail
              have HOD := Lib.hid (owns_ext HO2.out (Ext.drew wr))
              have HXD := Lib.hid (Ext.trans HX2.out (Ext.drew wr))
              generalize wr.drew = wd at HOD HXD ⊢
              have hq0 : ∀ z : Later Ext wd.drew, z.val.cell? ⟨g, off + j * 6, none⟩ = some (.int .u8 o) := fun z => HC0.out z.val (Ext.trans HXD.out (Ext.trans (Ext.drew wd) z.ext))
              refine wp_region_segs Ext Ext.keeps [([0, 1, 2, 3, 4], some 5), ([6, 7, 8, 9, 10, 11, 12, 13, 14, 15, 16, 17, 18, 19, 20, 21, 22, 23, 24], none)] (by kernel_rfl) (by kernel_rfl) (fun c a a' w e h => (by exact ⟨e ▸ h.1, h.2⟩)) ?_
              simp only [pickSegs, pickOps, List.map_cons, List.map_nil, Option.map_some, Option.map_none, Option.getD_some, List.getElem?_toArray, List.getElem?_cons_zero, List.getElem?_cons_succ]
              refine wpSegs_some fun K hK => ?_
              repeat go_big_quiet_step (fail)
              refine wpQuiet_nil ?_
              clear hq0
              go_wp2_with fail
              refine (HCLM.out _).mono ?_
              rintro e W' ⟨rfl, rfl⟩
              go_wp2_with fail
              refine ⟨Ext.keeps.refl _, hK _ _ ?_⟩
              clear hK K
              have HOE := Lib.hid (owns_ext HOD.out (Ext.drew wd))
              have HXE := Lib.hid (Ext.trans HXD.out (Ext.drew wd))
              generalize wd.drew = we at HOE HXE ⊢
              have hq1 : ∀ z : Later Ext we, z.val.cell? ⟨g, off + j * 6 + 1, none⟩ = some (.int .i64 s) := fun z => HC.out z.val (Ext.trans HXE.out z.ext)
              have hq2 : ∀ z : Later Ext we, z.val.cell? ⟨g2, off2 + kn, none⟩ = some (.int .i64 t) := fun z => by
                obtain ⟨-, -, -, h⟩ := RdV.plainV (RdV.of_owns (owns_ext HOE.out z.ext))
                obtain ⟨g3, off3, e3, h3⟩ := h kn (.int .i64 t) (by rw [List.getElem?_map, HGT.out]; rfl)
                simp only [Option.some.injEq, Addr.mk.injEq, and_true] at e3
                obtain ⟨rfl, rfl⟩ := e3
                exact h3
              cases cb with
              | false =>
                have HSF := Lib.hid (show colsS (l.take (j + 1)) = W by have h := HSUC.out; simpa using h)
                refine wpSegs_none ?_
                repeat go_big_quiet_step (fail)
                refine wpQuiet_nil (wpSegs_nil ?_)
                clear hq1 hq2
                go_wp2_with fail
                go_roundw
                case rel => exact ⟨j + 1, _, by omega, by go_num, rfl, by rw [HSF.out, HWL.out]; exact HOE.out, by rw [HSF.out, HWL.out]; omega, HXE.out⟩
                case measure => simp [intOf]; omega
              | true =>
                have HSF := Lib.hid (show colsS (l.take (j + 1)) = W.take kn ++ s :: W.drop kn by have h := HSUC.out; rw [HINS.out] at h; simpa using h)
                refine wpSegs_none ?_
                repeat go_big_quiet_step (fail)
                refine wpQuiet_nil (wpSegs_nil ?_)
                clear hq1 hq2
                obtain ⟨ra, rcap, hrr, hsl⟩ := slice_restV Tryd.underlying29 hi1 hy1 (RdV.of_owns HOE.out) kn hkn
                have HRR := Lib.hid (hrr.mono (ext_new we (.cells #[] 3)))
                have HTO := Lib.hid (int_oneCell (W.drop kn))
                have HDL := Lib.hid (show ((W.map (Value.int .i64)).drop kn).length = WL - kn by rw [List.length_drop, List.length_map, HWL.out])
                rw [List.map_drop] at HTO
                clear hrr
                go_wp2_with (at_builtin; go_must (refine wpList_append_rd rfl (.tmp 56) (.tmp 59) 29 rfl we.heap.size 3 i1 (.int .i64 0) 8 Tryd.underlying29 hi1 hy0 hy1 hy2 rfl _ _ _ rfl (empty_ints we) _ _ rfl HRR.out HTO.out (by rw [HDL.out]; unfold maxLen; omega) (by rw [HDL.out]; omega) (by simp) ?_); intro v5 w5 hown5 hgrow5; have HO5 := Lib.hid hown5; have HX5 := Lib.hid (show Ext we w5 from (ext_new we _).grown hgrow5 (by simp) (fun k hk => by cases hk; exact Nat.le_refl _)); clear hown5 hgrow5)
                have HX05 := Lib.hid (show Below w.heap.size w w5 from Ext.trans HXE.out HX5.out)
                have hcl5 : ∀ z : Later (Below w.heap.size) w5.drew, z.val.cell? ⟨g, off + j * 6 + 1, none⟩ = some (.int .i64 s) := fun z => HC.out z.val (HX05.out.trans ((Below.drew (Below.refl w.heap.size w5)).trans z.ext))
                have HO6 := Lib.hid (owns_ext (owns_ext HOE.out HX5.out) (Ext.drew w5))
                have HX6 := Lib.hid (show Below w.heap.size w w5.drew from HX05.out.trans (Below.drew (Below.refl w.heap.size w5)))
                have HR6 := Lib.hid ((RdV.of_owns HO5.out).mono (Ext.drew w5))
                have HBL := Lib.hid (show ∀ k, v5.ownBlock = some k → we.heap.size ≤ k from fun k hk => (HO5.out.lt k hk).1)
                have HBW := Lib.hid (fun (n k : Nat) (hk : (Value.slice (some ⟨g2, off2, none⟩) n vc).ownBlock = some k) => (show k < we.heap.size from (HOE.out.lt k ((ownBlock_len (some ⟨g2, off2, none⟩) WL n vc).trans hk)).2))
                rw [List.nil_append] at HR6
                refine wp_region_segs (Below w.heap.size) (Below.keepsD _) [([0, 1, 2, 3, 4, 5, 6, 7], some 8), ([], some 9), ([10], none)] (by kernel_rfl) (by kernel_rfl) (fun c a a' w e h => (by exact ⟨e ▸ h.1, h.2⟩)) ?_
                simp only [pickSegs, pickOps, List.map_cons, List.map_nil, Option.map_some, Option.map_none, Option.getD_some, List.getElem?_toArray, List.getElem?_cons_zero, List.getElem?_cons_succ]
                refine wpSegs_some fun KK hKK => ?_
                repeat go_big_quiet_step (fail)
                refine wpQuiet_nil ?_
                clear hcl5
                generalize w5.drew = w6 at HO6 HX6 HR6 ⊢
                have HSZ6 := Lib.hid HX6.out.size
                go_wp2_with fail
                refine ⟨(Below.refl w.heap.size w6).alloc HSZ6.out _, hKK _ _ ?_⟩
                clear hKK KK
                refine wpSegs_some fun KK hKK => ?_
                refine wpQuiet_nil ?_
                have HO6k := Lib.hid (owns_take HO6.out kn hkn)
                go_wp2_with (at_builtin; go_must (refine wpList_append_own _ rfl (.tmp 63) (.tmp 69) 29 rfl w.heap.size 3 i1 (.int .i64 0) 1 8 Tryd.underlying29 hi1 hy0 hy1 hy2 rfl (by decide) _ _ _ rfl (HO6k.out.alloc _) ⟨w6.heap.size, 0, none⟩ 1 1 [.int .i64 s] rfl rfl (row_new _ _ _) (by simp [Value.oneCell']) (by unfold maxLen; omega) (by omega) (by have := HSZ6.out; simp; omega) ?_); intro v7 w7 hown7 hgrow7 _; have HO7 := Lib.hid hown7; have HG7 := Lib.hid (OnlyS.of_grown hgrow7); have HB7 := Lib.hid ((Below.refl w.heap.size (w6.alloc (.cells #[.int .i64 s] 3))).grown hgrow7 (by have := HSZ6.out; simp; omega) (fun b hb => (HO6k.out.lt b hb).1)); clear hown7 hgrow7)
                refine ⟨HB7.out, hKK _ _ ?_⟩
                clear hKK KK
                simp only [Act.put, List.setIfInBounds_toArray, List.set]
                refine wpSegs_none ?_
                repeat go_big_quiet_step (fail)
                refine wpQuiet_nil (wpSegs_nil ?_)
                have HR7 := Lib.hid (RdV.onlyS (HR6.out.mono (ext_new w6 (.cells #[.int .i64 s] 3))) HG7.out (fun _ k hk hx => by
                  have h1 := HBL.out k hk
                  have h2 := HBW.out kn k hx
                  omega))
                have HX7 := Lib.hid (show Below w.heap.size w w7 from HX6.out.trans (((Below.refl w.heap.size w6).alloc HSZ6.out _).trans HB7.out))
                have HSZ7 := Lib.hid HX7.out.size
                go_wp2_with (at_builtin; go_must (refine wpList_append_rd rfl (.tmp 71) (.tmp 72) 29 rfl w.heap.size 3 i1 (.int .i64 0) 8 Tryd.underlying29 hi1 hy0 hy1 hy2 rfl _ _ _ rfl HO7.out _ _ rfl HR7.out HTO.out (by rw [HDL.out]; unfold maxLen; omega) (by rw [HDL.out]; omega) HSZ7.out ?_); intro v8 w8 hown8 hgrow8; have HO8 := Lib.hid hown8; have HB8 := Lib.hid ((Below.refl w.heap.size w7).grown hgrow8 HSZ7.out (fun b hb => (HO7.out.lt b hb).1)); clear hown8 hgrow8)
                obtain ⟨xo, xc, rfl, hx1', hx2'⟩ := own_shapeP HO8.out
                go_wp2_with fail
                go_roundw
                case rel =>
                  have e1 : (W.take kn ++ s :: W.drop kn).length = kn + 1 + (WL - kn) := by
                    rw [List.length_append, List.length_cons, List.length_take, List.length_drop, HWL.out]
                    omega
                  refine ⟨j + 1, _, by omega, by go_num, rfl, ?_, by rw [HSF.out, e1]; omega, HX7.out.trans HB8.out⟩
                  rw [HSF.out]
                  have h := HO8.out
                  rw [HDL.out] at h
                  have e2 : (W.take kn ++ s :: W.drop kn).map (Value.int .i64) = (W.map (Value.int .i64)).take kn ++ [.int .i64 s] ++ (W.map (Value.int .i64)).drop kn := by
                    rw [List.map_append, List.map_cons, List.map_take, List.map_drop, List.append_assoc]
                    rfl
                  rw [e1, e2, HDL.out]
                  exact h
                case measure => simp [intOf]; omega
        · have HINS := Lib.hid (insI_at s W kn (by have := HWL.out; omega) HB1.out (fun h => absurd h (by have := HWL.out; omega)))
          have d5 : decide (kn < WL) = false := decide_eq_false hk
          go_wp2_with fail
          refine wp_region_segs Ext Ext.keeps [(List.range 16, none)] (by kernel_rfl) (by kernel_rfl) (fun c a a' w e h => (by exact ⟨e ▸ h.1, h.2⟩)) ?_
          simp only [List.range, List.range.loop, pickSegs, pickOps, List.map_cons, List.map_nil, Option.map_none, Option.getD_some, List.getElem?_toArray, List.getElem?_cons_zero, List.getElem?_cons_succ]
          refine wpSegs_none ?_
          repeat go_big_quiet_step (fail)
          refine wpQuiet_nil (wpSegs_nil ?_)
          clear hcl
          go_wp2_with fail
          have HOD := Lib.hid (owns_ext HO2.out (Ext.drew wr))
          have HXD := Lib.hid (Ext.trans HX2.out (Ext.drew wr))
          generalize wr.drew = wd at HOD HXD ⊢
          have hq0 : ∀ z : Later Ext wd.drew, z.val.cell? ⟨g, off + j * 6, none⟩ = some (.int .u8 o) := fun z => HC0.out z.val (Ext.trans HXD.out (Ext.trans (Ext.drew wd) z.ext))
          refine wp_region_segs Ext Ext.keeps [([0, 1, 2, 3, 4], some 5), ([6, 7, 8, 9, 10, 11, 12, 13, 14, 15, 16, 17, 18, 19, 20, 21, 22, 23, 24], none)] (by kernel_rfl) (by kernel_rfl) (fun c a a' w e h => (by exact ⟨e ▸ h.1, h.2⟩)) ?_
          simp only [pickSegs, pickOps, List.map_cons, List.map_nil, Option.map_some, Option.map_none, Option.getD_some, List.getElem?_toArray, List.getElem?_cons_zero, List.getElem?_cons_succ]
          refine wpSegs_some fun K hK => ?_
          repeat go_big_quiet_step (fail)
          refine wpQuiet_nil ?_
          clear hq0
          go_wp2_with fail
          refine (HCLM.out _).mono ?_
          rintro e W' ⟨rfl, rfl⟩
          go_wp2_with fail
          refine ⟨Ext.keeps.refl _, hK _ _ ?_⟩
          clear hK K
          have HOE := Lib.hid (owns_ext HOD.out (Ext.drew wd))
          have HXE := Lib.hid (Ext.trans HXD.out (Ext.drew wd))
          generalize wd.drew = we at HOE HXE ⊢
          have hq1 : ∀ z : Later Ext we, z.val.cell? ⟨g, off + j * 6 + 1, none⟩ = some (.int .i64 s) := fun z => HC.out z.val (Ext.trans HXE.out z.ext)
          cases cb with
          | false =>
            have HSF := Lib.hid (show colsS (l.take (j + 1)) = W by have h := HSUC.out; simpa using h)
            refine wpSegs_none ?_
            repeat go_big_quiet_step (fail)
            refine wpQuiet_nil (wpSegs_nil ?_)
            clear hq1
            go_wp2_with fail
            go_roundw
            case rel => exact ⟨j + 1, _, by omega, by go_num, rfl, by rw [HSF.out, HWL.out]; exact HOE.out, by rw [HSF.out, HWL.out]; omega, HXE.out⟩
            case measure => simp [intOf]; omega
          | true =>
            have HSF := Lib.hid (show colsS (l.take (j + 1)) = W.take kn ++ s :: W.drop kn by have h := HSUC.out; rw [HINS.out] at h; simpa using h)
            refine wpSegs_none ?_
            repeat go_big_quiet_step (fail)
            refine wpQuiet_nil (wpSegs_nil ?_)
            clear hq1
            obtain ⟨ra, rcap, hrr, hsl⟩ := slice_restV Tryd.underlying29 hi1 hy1 (RdV.of_owns HOE.out) kn hkn
            have HRR := Lib.hid (hrr.mono (ext_new we (.cells #[] 3)))
            have HTO := Lib.hid (int_oneCell (W.drop kn))
            have HDL := Lib.hid (show ((W.map (Value.int .i64)).drop kn).length = WL - kn by rw [List.length_drop, List.length_map, HWL.out])
            rw [List.map_drop] at HTO
            clear hrr
            go_wp2_with (at_builtin; go_must (refine wpList_append_rd rfl (.tmp 56) (.tmp 59) 29 rfl we.heap.size 3 i1 (.int .i64 0) 8 Tryd.underlying29 hi1 hy0 hy1 hy2 rfl _ _ _ rfl (empty_ints we) _ _ rfl HRR.out HTO.out (by rw [HDL.out]; unfold maxLen; omega) (by rw [HDL.out]; omega) (by simp) ?_); intro v5 w5 hown5 hgrow5; have HO5 := Lib.hid hown5; have HX5 := Lib.hid (show Ext we w5 from (ext_new we _).grown hgrow5 (by simp) (fun k hk => by cases hk; exact Nat.le_refl _)); clear hown5 hgrow5)
            have HX05 := Lib.hid (show Below w.heap.size w w5 from Ext.trans HXE.out HX5.out)
            have hcl5 : ∀ z : Later (Below w.heap.size) w5.drew, z.val.cell? ⟨g, off + j * 6 + 1, none⟩ = some (.int .i64 s) := fun z => HC.out z.val (HX05.out.trans ((Below.drew (Below.refl w.heap.size w5)).trans z.ext))
            have HO6 := Lib.hid (owns_ext (owns_ext HOE.out HX5.out) (Ext.drew w5))
            have HX6 := Lib.hid (show Below w.heap.size w w5.drew from HX05.out.trans (Below.drew (Below.refl w.heap.size w5)))
            have HR6 := Lib.hid ((RdV.of_owns HO5.out).mono (Ext.drew w5))
            have HBL := Lib.hid (show ∀ k, v5.ownBlock = some k → we.heap.size ≤ k from fun k hk => (HO5.out.lt k hk).1)
            have HBW := Lib.hid (fun (n k : Nat) (hk : (Value.slice vo n vc).ownBlock = some k) => (show k < we.heap.size from (HOE.out.lt k ((ownBlock_len vo WL n vc).trans hk)).2))
            rw [List.nil_append] at HR6
            refine wp_region_segs (Below w.heap.size) (Below.keepsD _) [([0, 1, 2, 3, 4, 5, 6, 7], some 8), ([], some 9), ([10], none)] (by kernel_rfl) (by kernel_rfl) (fun c a a' w e h => (by exact ⟨e ▸ h.1, h.2⟩)) ?_
            simp only [pickSegs, pickOps, List.map_cons, List.map_nil, Option.map_some, Option.map_none, Option.getD_some, List.getElem?_toArray, List.getElem?_cons_zero, List.getElem?_cons_succ]
            refine wpSegs_some fun KK hKK => ?_
            repeat go_big_quiet_step (fail)
            refine wpQuiet_nil ?_
            clear hcl5
            generalize w5.drew = w6 at HO6 HX6 HR6 ⊢
            have HSZ6 := Lib.hid HX6.out.size
            go_wp2_with fail
            refine ⟨(Below.refl w.heap.size w6).alloc HSZ6.out _, hKK _ _ ?_⟩
            clear hKK KK
            refine wpSegs_some fun KK hKK => ?_
            refine wpQuiet_nil ?_
            have HO6k := Lib.hid (owns_take HO6.out kn hkn)
            go_wp2_with (at_builtin; go_must (refine wpList_append_own _ rfl (.tmp 63) (.tmp 69) 29 rfl w.heap.size 3 i1 (.int .i64 0) 1 8 Tryd.underlying29 hi1 hy0 hy1 hy2 rfl (by decide) _ _ _ rfl (HO6k.out.alloc _) ⟨w6.heap.size, 0, none⟩ 1 1 [.int .i64 s] rfl rfl (row_new _ _ _) (by simp [Value.oneCell']) (by unfold maxLen; omega) (by omega) (by have := HSZ6.out; simp; omega) ?_); intro v7 w7 hown7 hgrow7 _; have HO7 := Lib.hid hown7; have HG7 := Lib.hid (OnlyS.of_grown hgrow7); have HB7 := Lib.hid ((Below.refl w.heap.size (w6.alloc (.cells #[.int .i64 s] 3))).grown hgrow7 (by have := HSZ6.out; simp; omega) (fun b hb => (HO6k.out.lt b hb).1)); clear hown7 hgrow7)
            refine ⟨HB7.out, hKK _ _ ?_⟩
            clear hKK KK
            simp only [Act.put, List.setIfInBounds_toArray, List.set]
            refine wpSegs_none ?_
            repeat go_big_quiet_step (fail)
            refine wpQuiet_nil (wpSegs_nil ?_)
            have HR7 := Lib.hid (RdV.onlyS (HR6.out.mono (ext_new w6 (.cells #[.int .i64 s] 3))) HG7.out (fun _ k hk hx => by
              have h1 := HBL.out k hk
              have h2 := HBW.out kn k hx
              omega))
            have HX7 := Lib.hid (show Below w.heap.size w w7 from HX6.out.trans (((Below.refl w.heap.size w6).alloc HSZ6.out _).trans HB7.out))
            have HSZ7 := Lib.hid HX7.out.size
            go_wp2_with (at_builtin; go_must (refine wpList_append_rd rfl (.tmp 71) (.tmp 72) 29 rfl w.heap.size 3 i1 (.int .i64 0) 8 Tryd.underlying29 hi1 hy0 hy1 hy2 rfl _ _ _ rfl HO7.out _ _ rfl HR7.out HTO.out (by rw [HDL.out]; unfold maxLen; omega) (by rw [HDL.out]; omega) HSZ7.out ?_); intro v8 w8 hown8 hgrow8; have HO8 := Lib.hid hown8; have HB8 := Lib.hid ((Below.refl w.heap.size w7).grown hgrow8 HSZ7.out (fun b hb => (HO7.out.lt b hb).1)); clear hown8 hgrow8)
            obtain ⟨xo, xc, rfl, hx1', hx2'⟩ := own_shapeP HO8.out
            go_wp2_with fail
            go_roundw
            case rel =>
              have e1 : (W.take kn ++ s :: W.drop kn).length = kn + 1 + (WL - kn) := by
                rw [List.length_append, List.length_cons, List.length_take, List.length_drop, HWL.out]
                omega
              refine ⟨j + 1, _, by omega, by go_num, rfl, ?_, by rw [HSF.out, e1]; omega, HX7.out.trans HB8.out⟩
              rw [HSF.out]
              have h := HO8.out
              rw [HDL.out] at h
              have e2 : (W.take kn ++ s :: W.drop kn).map (Value.int .i64) = (W.map (Value.int .i64)).take kn ++ [.int .i64 s] ++ (W.map (Value.int .i64)).drop kn := by
                rw [List.map_append, List.map_cons, List.map_take, List.map_drop, List.append_assoc]
                rfl
              rw [e1, e2, HDL.out]
              exact h
            case measure => simp [intOf]; omega
    · have e : j = N := by omega
      subst e
      have HALL := Lib.hid (show l.take j = l from List.take_of_length_le (by have := HN.out; omega))
      rw [HALL.out] at HO ⊢
      go_wp2_with fail
      go_ret
      exact ⟨_, rfl, HO.out, HX.out⟩

end Go.Proofs.YtfnmcdjfdhdlmaaDoor

/-
  The library's contracts of sorting numbers, and of leaving out what stands twice side by side, laid at this program.
-/
namespace Go.Proofs
open Go.Shelf
def Tryd.laysSortI_ren : Go.Shelf.Ren := ⟨fun | 189 => 23 | 125 => 44 | 257 => 43 | 128 => 72 | 129 => 73 | 294 => 63 | 295 => 64 | 296 => 65 | 297 => 66 | 298 => 67 | 299 => 68 | 216 => 69 | 300 => 70 | 301 => 71 | 328 => 84 | 329 => 85 | 330 => 86 | 331 => 87 | 332 => 88 | 215 => 89 | 343 => 99 | n => n, fun | 28 => 29 | 3 => 3 | 46 => 67 | 0 => 0 | 51 => 90 | 53 => 92 | 4 => 4 | 183 => 84 | 182 => 83 | 131 => 61 | 5 => 5 | 9 => 9 | 218 => 105 | 222 => 109 | 228 => 124 | 229 => 125 | n => n, fun | n => n⟩
theorem Tryd.laysSortI : Go.Proofs.Lays.n189 Tryd.prog Tryd.laysSortI_ren := {
  mixed := by kernel_rfl
  f125 := Tryd.func44.trans (congrArg some (by kernel_rfl))
  f128 := Tryd.func72.trans (congrArg some (by kernel_rfl))
  f129 := Tryd.func73.trans (congrArg some (by kernel_rfl))
  f189 := Tryd.func23.trans (congrArg some (by kernel_rfl))
  f215 := Tryd.func89.trans (congrArg some (by kernel_rfl))
  f216 := Tryd.func69.trans (congrArg some (by kernel_rfl))
  f257 := Tryd.func43.trans (congrArg some (by kernel_rfl))
  f294 := Tryd.func63.trans (congrArg some (by kernel_rfl))
  f295 := Tryd.func64.trans (congrArg some (by kernel_rfl))
  f296 := Tryd.func65.trans (congrArg some (by kernel_rfl))
  f297 := Tryd.func66.trans (congrArg some (by kernel_rfl))
  f298 := Tryd.func67.trans (congrArg some (by kernel_rfl))
  f299 := Tryd.func68.trans (congrArg some (by kernel_rfl))
  f300 := Tryd.func70.trans (congrArg some (by kernel_rfl))
  f301 := Tryd.func71.trans (congrArg some (by kernel_rfl))
  f328 := Tryd.func84.trans (congrArg some (by kernel_rfl))
  f329 := Tryd.func85.trans (congrArg some (by kernel_rfl))
  f330 := Tryd.func86.trans (congrArg some (by kernel_rfl))
  f331 := Tryd.func87.trans (congrArg some (by kernel_rfl))
  f332 := Tryd.func88.trans (congrArg some (by kernel_rfl))
  f343 := Tryd.func99.trans (congrArg some (by kernel_rfl))
  t0 := Tryd.underlying0
  a0 := Tryd.isAgg0
  z0 := Tryd.sizeOf0
  v0 := Tryd.zeroValue0
  t3 := Tryd.underlying3
  a3 := Tryd.isAgg3
  z3 := Tryd.sizeOf3
  v3 := Tryd.zeroValue3
  t4 := Tryd.underlying4
  a4 := Tryd.isAgg4
  z4 := Tryd.sizeOf4
  v4 := Tryd.zeroValue4
  t5 := Tryd.underlying5
  a5 := Tryd.isAgg5
  z5 := Tryd.sizeOf5
  v5 := Tryd.zeroValue5
  t9 := Tryd.underlying9
  a9 := Tryd.isAgg9
  z9 := Tryd.sizeOf9
  v9 := Tryd.zeroValue9
  t28 := Tryd.underlying29
  a28 := Tryd.isAgg29
  z28 := Tryd.sizeOf29
  v28 := Tryd.zeroValue29
  t46 := Tryd.underlying67
  a46 := Tryd.isAgg67
  z46 := Tryd.sizeOf67
  v46 := Tryd.zeroValue67
  t51 := Tryd.underlying90
  a51 := Tryd.isAgg90
  z51 := Tryd.sizeOf90
  v51 := Tryd.zeroValue90
  t53 := Tryd.underlying92
  a53 := Tryd.isAgg92
  z53 := Tryd.sizeOf92
  v53 := Tryd.zeroValue92
  t131 := Tryd.underlying61
  a131 := Tryd.isAgg61
  z131 := Tryd.sizeOf61
  v131 := Tryd.zeroValue61
  t182 := Tryd.underlying83
  a182 := Tryd.isAgg83
  z182 := Tryd.sizeOf83
  v182 := Tryd.zeroValue83
  t183 := Tryd.underlying84
  a183 := Tryd.isAgg84
  z183 := Tryd.sizeOf84
  v183 := Tryd.zeroValue84
  t218 := Tryd.underlying105
  a218 := Tryd.isAgg105
  z218 := Tryd.sizeOf105
  v218 := Tryd.zeroValue105
  t222 := Tryd.underlying109
  a222 := Tryd.isAgg109
  z222 := Tryd.sizeOf109
  v222 := Tryd.zeroValue109
  t228 := Tryd.underlying124
  a228 := Tryd.isAgg124
  z228 := Tryd.sizeOf124
  v228 := Tryd.zeroValue124
  t229 := Tryd.underlying125
  a229 := Tryd.isAgg125
  z229 := Tryd.sizeOf125
  v229 := Tryd.zeroValue125 }
def Tryd.laysCompactI_ren : Go.Shelf.Ren := ⟨fun | 20 => 24 | n => n, fun | 22 => 29 | 3 => 3 | 4 => 4 | 0 => 0 | n => n, fun | n => n⟩
theorem Tryd.laysCompactI : Go.Proofs.Lays2.n20 Tryd.prog Tryd.laysCompactI_ren := {
  mixed := by kernel_rfl
  f20 := Tryd.func24.trans (congrArg some (by kernel_rfl))
  t0 := Tryd.underlying0
  a0 := Tryd.isAgg0
  z0 := Tryd.sizeOf0
  v0 := Tryd.zeroValue0
  t3 := Tryd.underlying3
  a3 := Tryd.isAgg3
  z3 := Tryd.sizeOf3
  v3 := Tryd.zeroValue3
  t4 := Tryd.underlying4
  a4 := Tryd.isAgg4
  z4 := Tryd.sizeOf4
  v4 := Tryd.zeroValue4
  t22 := Tryd.underlying29
  a22 := Tryd.isAgg29
  z22 := Tryd.sizeOf29
  v22 := Tryd.zeroValue29
  i3 := by kernel_rfl }
end Go.Proofs

/-
  Numbers sorted, and each of them once: rising, with the same members. Over lists. No program.
-/
namespace Go.Proofs.YtfnmcdjfdhdlmaaDoor
open Go.Lib

theorem upI_snoc {l : List Int} {x : Int} (h : upI l) (hx : ∀ y ∈ l, y < x) : upI (l ++ [x]) := by
  induction l with
  | nil => exact ⟨fun y hy => (by cases hy), trivial⟩
  | cons a t ih =>
    refine ⟨fun y hy => ?_, ih h.2 fun y hy => hx y (List.mem_cons_of_mem _ hy)⟩
    rcases List.mem_append.1 hy with hy | hy
    · exact h.1 y hy
    · rw [List.mem_singleton.1 hy]; exact hx a (List.mem_cons_self ..)
theorem compactI_upto {d : Array Int} (hs : ∀ i j, i ≤ j → j < d.size → d[i]! ≤ d[j]!) (m : Nat) (hm : m ≤ d.size) :
    upI (compactUpTo d m) ∧ (∀ x ∈ compactUpTo d m, ∃ j, j < m ∧ x = d[j]!) ∧ ∀ j, j < m → d[j]! ∈ compactUpTo d m := by
  induction m with
  | zero => exact ⟨trivial, fun x hx => by simp [compactUpTo] at hx, fun j hj => by omega⟩
  | succ m ih =>
    obtain ⟨h1, h2, h3⟩ := ih (by omega)
    rw [compactUpTo_succ]
    by_cases hk : keeps d m = true
    · rw [if_pos hk]
      refine ⟨?_, fun x hx => ?_, fun j hj => ?_⟩
      · refine upI_snoc h1 fun x hx => ?_
        obtain ⟨j, hj, rfl⟩ := h2 x hx
        unfold keeps at hk
        have hne : d[m]! ≠ d[m - 1]! := by
          rcases of_decide_eq_true hk with h | h
          · omega
          · exact h
        have e1 := hs j (m - 1) (by omega) (by omega)
        have e2 := hs (m - 1) m (by omega) (by omega)
        omega
      · rcases List.mem_append.1 hx with hx | hx
        · obtain ⟨j, hj, e⟩ := h2 x hx
          exact ⟨j, by omega, e⟩
        · exact ⟨m, by omega, List.mem_singleton.1 hx⟩
      · by_cases e : j = m
        · subst e; simp
        · exact List.mem_append.2 (.inl (h3 j (by omega)))
    · rw [if_neg hk, List.append_nil]
      refine ⟨h1, fun x hx => ?_, fun j hj => ?_⟩
      · obtain ⟨j, hj, e⟩ := h2 x hx
        exact ⟨j, by omega, e⟩
      · by_cases e : j = m
        · subst e
          unfold keeps at hk
          have hk2 : ¬ (j = 0 ∨ d[j]! ≠ d[j - 1]!) := fun h => hk (decide_eq_true h)
          have hj0 : j ≠ 0 := fun h => hk2 (.inl h)
          have heq : d[j]! = d[j - 1]! := Classical.byContradiction fun h => hk2 (.inr h)
          rw [heq]
          exact h3 (j - 1) (by omega)
        · exact h3 j (by omega)
/-- Sorted and each once. -/
theorem sortedI (l : List Int) : upI (Lib.compact (l.mergeSort fun x y => decide (x ≤ y))) ∧ ∀ z, z ∈ Lib.compact (l.mergeSort fun x y => decide (x ≤ y)) ↔ z ∈ l := by
  have hp : (l.mergeSort fun x y => decide (x ≤ y)).Pairwise fun x y => x ≤ y :=
    (List.pairwise_mergeSort (le := fun x y : Int => decide (x ≤ y)) (fun a b c h1 h2 => decide_eq_true (Int.le_trans (of_decide_eq_true h1) (of_decide_eq_true h2))) (fun a b => by
      rcases Int.le_total a b with h | h
      · rw [decide_eq_true h]; rfl
      · rw [decide_eq_true h]; simp) l).imp fun h => of_decide_eq_true h
  have hmem : ∀ x, x ∈ (l.mergeSort fun x y => decide (x ≤ y)) ↔ x ∈ l := fun x => List.mem_mergeSort
  generalize (l.mergeSort fun x y => decide (x ≤ y)) = s at hp hmem
  have hs : ∀ i j, i ≤ j → j < s.toArray.size → s.toArray[i]! ≤ s.toArray[j]! := by
    intro i j hij hj
    have hj' : j < s.length := by simpa using hj
    have hi' : i < s.length := by omega
    have gi : s.toArray[i]! = s[i] := by simp [hi']
    have gj : s.toArray[j]! = s[j] := by simp [hj']
    rw [gi, gj]
    by_cases e : i = j
    · subst e
      exact Int.le_refl _
    · exact List.pairwise_iff_getElem.1 hp i j hi' hj' (by omega)
  obtain ⟨h1, h2, h3⟩ := compactI_upto hs s.length (by simp)
  refine ⟨h1, fun z => ⟨fun hz => ?_, fun hz => ?_⟩⟩
  · obtain ⟨j, hj, e⟩ := h2 z hz
    rw [← hmem, e]
    have gj : s.toArray[j]! = s[j] := by simp [hj]
    rw [gj]
    exact List.getElem_mem hj
  · obtain ⟨j, hj, e⟩ := List.mem_iff_getElem.1 ((hmem z).2 hz)
    have gj : s.toArray[j]! = s[j] := by simp [hj]
    rw [← e, ← gj]
    exact h3 j hj
/-- The columns that nodes ask for, as they come. -/
def colL (l : List Nd) : List Int := (l.filter fun n => colN n).map Nd.col
theorem cols_sorted (l : List Nd) : Lib.compact ((colL l).mergeSort fun x y => decide (x ≤ y)) = colsS l := by
  obtain ⟨h1, h2⟩ := sortedI (colL l)
  obtain ⟨h3, h4⟩ := colsS_spec l
  refine upI_unique _ _ h1 h3 fun z => ?_
  rw [h2, h4]
  unfold colL
  simp only [List.mem_map, List.mem_filter]
  constructor
  · rintro ⟨n, ⟨h5, h6⟩, h7⟩; exact ⟨n, h5, h6, h7⟩
  · rintro ⟨n, h5, h6, h7⟩; exact ⟨n, ⟨h5, h6⟩, h7⟩

end Go.Proofs.YtfnmcdjfdhdlmaaDoor

/-
  slices.Sort and slices.Compact at []int over rows of the call's own.
-/
namespace Go.Proofs.YtfnmcdjfdhdlmaaDoor
open Go.RowKit Go.BigFrame Go.Shelf

theorem sortI_any (base : Nat) (v : Value) (l : List Int) (w : World) (ho : w.ownsRow base 3 1 v l.length (l.map (Value.int .i64))) (hb : base ≤ w.heap.size) (hl : l.length ≤ 100000) :
    Calls Tryd.prog 23 #[v] w fun e w' => e = .returned (.tuple #[]) ∧ w'.ownsRow base 3 1 v (l.mergeSort fun x y => decide (x ≤ y)).length ((l.mergeSort fun x y => decide (x ≤ y)).map (Value.int .i64)) ∧ Below base w w' := by
  have hlen : (l.mergeSort fun x y => decide (x ≤ y)).length = l.length := List.length_mergeSort l
  rcases ho.2 with ⟨rfl, h0⟩ | ⟨g, cap, cur, rfl, hbase, hblk, h1, h2, h3, h4⟩
  · have hl0 : l = [] := List.length_eq_zero_iff.1 h0
    subst hl0
    refine (Any.slices_Sort_int_none Tryd.laysSortI none 0 w).mono ?_
    rintro e w' ⟨rfl, rfl⟩
    exact ⟨rfl, by rw [List.mergeSort_nil]; exact owns_nil _ _ _ _, Below.refl _ _⟩
  · refine (Any.slices_Sort_int Tryd.laysSortI g 0 cap l w (holds_of_blockI hblk (by rw [Nat.mul_one] at h4; exact h4)) (Array.getElem?_eq_some_iff.1 hblk).1 (by omega)).mono ?_
    rintro e w' ⟨rfl, n, os, rfl⟩
    refine ⟨rfl, ?_, (Below.refl base w).grown (grownBy_sortedI _) hb (fun j hj => by cases hj; exact hbase)⟩
    have h := ownsRow_sortedI (n := n) (os := os) hlen hbase hblk h1 h2 h3
    rw [hlen]
    exact h
theorem compactI_len (l : List Int) : (Lib.compact l).length ≤ l.length := by
  unfold Lib.compact Lib.compactUpTo
  rw [List.length_map]
  refine Nat.le_trans (List.length_filter_le _ _) ?_
  rw [List.length_range]
  exact Nat.le_refl _
theorem compactI_any (base : Nat) (v : Value) (l : List Int) (w : World) (ho : w.ownsRow base 3 1 v l.length (l.map (Value.int .i64))) (hb : base ≤ w.heap.size) (hl : l.length ≤ 100000) :
    Calls Tryd.prog 24 #[v] w fun e w' => ∃ v', e = .returned v' ∧ w'.ownsRow base 3 1 v' (Lib.compact l).length ((Lib.compact l).map (Value.int .i64)) ∧ Below base w w' := by
  have hcl := compactI_len l
  rcases ho.2 with ⟨rfl, h0⟩ | ⟨g, cap, cur, rfl, hbase, hblk, h1, h2, h3, h4⟩
  · have hl0 : l = [] := List.length_eq_zero_iff.1 h0
    subst hl0
    refine (Any.slices_Compact_int_empty Tryd.laysCompactI none 0 w).mono ?_
    rintro e w' ⟨rfl, rfl⟩
    exact ⟨_, rfl, owns_nil _ _ _ _, Below.refl _ _⟩
  · refine (Any.slices_Compact_int Tryd.laysCompactI g 0 cap l w (holds_of_blockI hblk (by rw [Nat.mul_one] at h4; exact h4)) (by omega) h1).mono ?_
    rintro e w' ⟨rfl, q, rfl⟩
    have hlen : (Lib.compact l ++ List.replicate (l.length - (Lib.compact l).length) 0).length = l.length := by
      rw [List.length_append, List.length_replicate]
      omega
    have h := ownsRow_sortedI (n := q) (os := #[]) hlen hbase hblk h1 h2 h3
    have hg := grownBy_sortedI (w := w) (g := g) (n := q) (os := #[]) (Lib.compact l ++ List.replicate (l.length - (Lib.compact l).length) 0).toArray
    rw [Go.Sort.grow_empty] at h hg
    refine ⟨_, rfl, ?_, (Below.refl base w).grown hg hb (fun j hj => by cases hj; exact hbase)⟩
    have h5 := owns_take h (Lib.compact l).length hcl
    rw [List.map_append, List.take_left' (List.length_map _)] at h5
    exact h5

end Go.Proofs.YtfnmcdjfdhdlmaaDoor
