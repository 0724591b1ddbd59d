/-
  The first ones of a slice; how many these are; bytes as a text. Over any program.
-/
import Derived.Test.YtlbilmmjcfiokaaOnly
import Derived.Test.YtlbilmmjcfiokaaSlices
import Derived.Test.YtlbilmmjcfiokaaOpen
namespace Go.Proofs.Ytlbilmmjcfiokaa
open Go.ChangeAt Go.RowKit

/-- The first ones of a slice. -/
theorem rdV_first {w : World} {ao : Option Addr} {N cap : Nat} {xs : List Value} (h : RdV w (.slice ao N cap) xs) (K : Nat) (hK : K ≤ N) : RdV w (.slice ao K cap) (xs.take K) := by
  rcases h with ⟨h1, h2⟩ | ⟨x, cap', h1, h2, h3, h4⟩
  · simp only [Value.slice.injEq] at h1
    obtain ⟨rfl, rfl, rfl⟩ := h1
    have hk : K = 0 := by omega
    subst hk
    subst h2
    exact .inl ⟨rfl, rfl⟩
  · simp only [Value.slice.injEq] at h1
    obtain ⟨rfl, rfl, rfl⟩ := h1
    exact RdV.takes h2 h3 h4 K K (by omega)
/-- How many of the first k there are: as a walk may show it. -/
theorem min_firstN (N k : Nat) : ∃ K : Nat, min (N : Int) (k : Int) = (K : Int) ∧ (if (k : Int) < (N : Int) then (k : Int) else (N : Int)) = (K : Int) ∧ K ≤ N ∧ K ≤ k ∧ K = min N k :=
  ⟨min N k, by omega, by split <;> omega, by omega, by omega, rfl⟩
theorem take_minN {α : Type} (l : List α) (k : Nat) : l.take (min l.length k) = l.take k := by
  rcases Nat.le_total l.length k with h | h
  · rw [Nat.min_eq_left h, List.take_of_length_le (Nat.le_refl _), List.take_of_length_le h]
  · rw [Nat.min_eq_right h]
/-- string(b), as a fact of the walk. -/
theorem str_of {w : World} {v : Value} {l : List UInt8} (h : Rd w v l) : (convert 33 9 v).run Try.prog w = .ok (.string ⟨l.toArray⟩) w :=
  h.string 33 9 5 Try.underlying33 Try.underlying5 Try.underlying9
/-- A row of ints that is read: where it lies. -/
theorem RdV.plain {w : World} {ao : Option Addr} {N cap : Nat} {xs : List Int} (h : RdV w (.slice ao N cap) (xs.map (Value.int .i64))) : N = xs.length ∧ N ≤ cap ∧ cap ≤ maxLen ∧ ∀ j, (hj : j < xs.length) → ∃ g off, ao = some ⟨g, off, none⟩ ∧ w.cell? ⟨g, off + j, none⟩ = some (.int .i64 xs[j]) := by
  obtain ⟨a', c', h0, h1, h2, h3⟩ := RdV.cellsAt h
  simp only [Value.slice.injEq, List.length_map] at h0 h1
  obtain ⟨rfl, rfl, rfl⟩ := h0
  refine ⟨rfl, h1, h2, fun j hj => ?_⟩
  obtain ⟨⟨g, off, sp⟩, rfl, hc⟩ := h3 j (.int .i64 xs[j]) (by rw [List.getElem?_map, List.getElem?_eq_getElem hj]; rfl)
  have hsp : sp = none := by
    obtain ⟨a0, ha0, hc0⟩ := h3 0 (.int .i64 xs[0]) (by rw [List.getElem?_map, List.getElem?_eq_getElem (by omega)]; rfl)
    obtain rfl := Option.some.inj ha0
    have h := World.cell?_spot hc0
    simpa [Addr.add] using h
  subst hsp
  rw [add_at] at hc
  exact ⟨g, off, rfl, hc⟩
/-- A row that is read: where it lies. -/
theorem RdV.plainV {w : World} {ao : Option Addr} {N cap : Nat} {xs : List Value} (h : RdV w (.slice ao N cap) xs) : N = xs.length ∧ N ≤ cap ∧ cap ≤ maxLen ∧ ∀ j u, xs[j]? = some u → ∃ g off, ao = some ⟨g, off, none⟩ ∧ w.cell? ⟨g, off + j, none⟩ = some u := by
  obtain ⟨a', c', h0, h1, h2, h3⟩ := RdV.cellsAt h
  simp only [Value.slice.injEq] at h0 h1
  obtain ⟨rfl, rfl, rfl⟩ := h0
  refine ⟨rfl, h1, h2, fun j u hj => ?_⟩
  obtain ⟨⟨g, off, sp⟩, rfl, hc⟩ := h3 j u hj
  have hsp : sp = none := by
    have hlt : 0 < xs.length := by
      have := (List.getElem?_eq_some_iff.1 hj).1
      omega
    obtain ⟨a0, ha0, hc0⟩ := h3 0 xs[0] (List.getElem?_eq_getElem hlt)
    obtain rfl := Option.some.inj ha0
    have h := World.cell?_spot hc0
    simpa [Addr.add] using h
  subst hsp
  rw [add_at] at hc
  exact ⟨g, off, rfl, hc⟩
/-- The rest of a row of bytes, as a fact of the walk. -/
theorem slice_rest {w : World} {ao : Option Addr} {N cap : Nat} {l : List UInt8} (h : Rd w (.slice ao N cap) l) (k : Nat) (hk : k ≤ N) :
    ∃ a c, Rd w (.slice a (N - k) c) (l.drop k) ∧ ∀ W, (Instr.slice 33 (.slice ao N cap) (some (.int .i64 (k : Int))) none none).run Try.prog W = .ok (.slice a (N - k) c) W := by
  obtain ⟨e, h2, h3, -⟩ := RdV.plainV h
  rw [List.length_map] at e
  subst e
  have hlo : (k : Int) ≤ (l.length : Int) := by omega
  rcases h with ⟨h1, h4⟩ | ⟨x, cap', h1, h4, h5, h6⟩
  · simp only [Value.slice.injEq] at h1
    obtain ⟨rfl, h7, rfl⟩ := h1
    have hl0 : l = [] := List.length_eq_zero_iff.1 h7
    subst hl0
    obtain rfl : k = 0 := by simpa using hk
    refine ⟨none, 0, Rd.nil w, fun W => ?_⟩
    simp [Instr.slice, Instr.sliceBounds, Instr.sliceBound, run_underlying Try.underlying33, go_sem]
  · simp only [Value.slice.injEq] at h1
    obtain ⟨rfl, -, rfl⟩ := h1
    by_cases hc : cap = k
    · refine ⟨some x, cap - k, ?_, fun W => ?_⟩
      · have hd : l.drop k = [] := List.drop_eq_nil_of_le (by omega)
        rw [hd, show l.length - k = 0 by omega]
        exact .inr ⟨x, _, rfl, Nat.zero_le _, by omega, fun i u hu => by simp at hu⟩
      · subst hc
        simp [Instr.slice, Instr.sliceBounds, Instr.sliceBound, run_underlying Try.underlying33, go_sem, hk]
    · refine ⟨some (x.add k), cap - k, ?_, fun W => ?_⟩
      · refine .inr ⟨x.add k, cap - k, by rw [List.length_map, List.length_drop], by rw [List.length_map, List.length_drop]; omega, by omega, fun i u hu => ?_⟩
        have e2 : (x.add k).add i = x.add (k + i) := by unfold Addr.add; simp; split <;> split <;> simp_all <;> omega
        rw [e2]
        exact h6 (k + i) u (by rw [List.map_drop, List.getElem?_drop] at hu; exact hu)
      · simp [Instr.slice, Instr.sliceBounds, Instr.sliceBound, run_underlying Try.underlying33, go_sem, hk, hc]
/-- The rest of a row of one-cell values, as a fact of the walk. -/
theorem slice_restV {P : Program} {t e : TypeId} (ht : P.underlying t = some (.slice e)) {i0 : TypeInfo} (hi : P.info? e = some i0) (hz : i0.size = 1) {w : World} {ao : Option Addr} {N cap : Nat} {l : List Value} (h : RdV w (.slice ao N cap) l) (k : Nat) (hk : k ≤ N) :
    ∃ a c, RdV w (.slice a (N - k) c) (l.drop k) ∧ ∀ W, (Instr.slice t (.slice ao N cap) (some (.int .i64 (k : Int))) none none).run P W = .ok (.slice a (N - k) c) W := by
  obtain ⟨e, h2, h3, -⟩ := RdV.plainV h
  subst e
  have hlo : (k : Int) ≤ (l.length : Int) := by omega
  rcases h with ⟨h1, h4⟩ | ⟨x, cap', h1, h4, h5, h6⟩
  · simp only [Value.slice.injEq] at h1
    obtain ⟨rfl, h7, rfl⟩ := h1
    have hl0 : l = [] := List.length_eq_zero_iff.1 h7
    subst hl0
    obtain rfl : k = 0 := by simpa using hk
    refine ⟨none, 0, RdV.nil w, fun W => ?_⟩
    simp [Instr.slice, Instr.sliceBounds, Instr.sliceBound, run_underlying ht, sizeOf, typeInfo, hi, go_sem]
  · simp only [Value.slice.injEq] at h1
    obtain ⟨rfl, -, rfl⟩ := h1
    by_cases hc : cap = k
    · refine ⟨some x, cap - k, ?_, fun W => ?_⟩
      · have hd : l.drop k = [] := List.drop_eq_nil_of_le (by omega)
        rw [hd, show l.length - k = 0 by omega]
        exact .inr ⟨x, _, rfl, Nat.zero_le _, by omega, fun i u hu => by simp at hu⟩
      · subst hc
        simp [Instr.slice, Instr.sliceBounds, Instr.sliceBound, run_underlying ht, sizeOf, typeInfo, hi, go_sem, hk]
    · refine ⟨some (x.add k), cap - k, ?_, fun W => ?_⟩
      · refine .inr ⟨x.add k, cap - k, by rw [List.length_drop], by rw [List.length_drop]; omega, by omega, fun i u hu => ?_⟩
        have e2 : (x.add k).add i = x.add (k + i) := by unfold Addr.add; simp; split <;> split <;> simp_all <;> omega
        rw [e2]
        exact h6 (k + i) u (by rw [List.getElem?_drop] at hu; exact hu)
      · simp [Instr.slice, Instr.sliceBounds, Instr.sliceBound, run_underlying ht, sizeOf, typeInfo, hi, hz, go_sem, hk, hc]
theorem int_one (l : List Int) : ∀ u ∈ l.map (Value.int .i64), u.oneCell' = true := by
  intro u hu
  obtain ⟨c, _, rfl⟩ := List.mem_map.1 hu
  rfl

theorem str_later {w : World} {v : Value} {l : List UInt8} (h : Rd w v l) : ∀ z : Later Ext w.drew, (convert 33 9 v).run Try.prog z.val = .ok (.string ⟨l.toArray⟩) z.val := fun z => str_of (h.mono (Ext.trans (Ext.drew w) z.ext))

end Go.Proofs.Ytlbilmmjcfiokaa
