/-
  What Put and Take leave; rows of values as arguments.
-/
import Derived.Test.YtlbilmmjcfiokaaSlices
import Derived.Test.YtlbilmmjcfiokaaValBytes
namespace Go.Proofs.Ytlbilmmjcfiokaa
open Go.RowKit

/-- A slice of bytes in memory of one's own. -/
def OwnL (base : Nat) (w : World) (v : Value) (l : List UInt8) : Prop :=
  (v = .slice none 0 0 ∧ l = []) ∨ ∃ g off cap, v = .slice (some ⟨g, off, none⟩) l.length cap ∧ base ≤ g ∧ l.length ≤ cap ∧ cap ≤ maxLen ∧ (∀ i u, (l.map bv)[i]? = some u → w.cell? ⟨g, off + i, none⟩ = some u) ∧ ∀ i, w.frozen? ⟨g, i, none⟩ = false
theorem OwnL.rd {base : Nat} {w : World} {v : Value} {l : List UInt8} (h : OwnL base w v l) : Rd w v l := by
  rcases h with ⟨rfl, rfl⟩ | ⟨g, off, cap, rfl, _, h2, h3, h4, _⟩
  · exact Rd.nil w
  · exact .inr ⟨_, cap, by rw [List.length_map], by rw [List.length_map]; exact h2, h3, fun i u hu => by rw [add_at]; exact h4 i u hu⟩
theorem OwnL.of_owns {base : Nat} {w : World} {v : Value} {l : List UInt8} (h : w.ownsRow base 5 1 v l.length (l.map bv)) : OwnL base w v l := by
  rcases h.2 with ⟨h1, h2⟩ | ⟨g, cap, cur, rfl, h2, h3, h4, h5, _⟩
  · exact .inl ⟨h1, List.length_eq_zero_iff.1 h2⟩
  · exact .inr ⟨g, 0, cap, rfl, h2, h4, h5, fun i u hu => by
      have := h.cells (g := g) rfl i u hu
      rw [add_at] at this
      exact this, h.frozenAt⟩

/-- What a call leaves that takes a value of bytes. -/
def Took (w : World) (l : List UInt8) (e : Ending) (w' : World) : Prop :=
  ((∃ v m r, takeV l = some (v, m) ∧ e = .returned (.tuple #[v.val, r, .int .i64 0]) ∧ OwnL w.heap.size w' r m) ∨
   (takeV l = none ∧ e = .returned (.tuple #[.agg #[.int .u8 0, .int .i64 0, .string ⟨#[]⟩], .slice none 0 0, .int .i64 6]))) ∧ Ext w w'

/-- .. of the document's own: what is left is only read. -/
def RefTook (w : World) (l : List UInt8) (e : Ending) (w' : World) : Prop :=
  ((∃ v m r, takeV l = some (v, m) ∧ e = .returned (.tuple #[v.val, r, .int .i64 0]) ∧ Rd w' r m) ∨
   (takeV l = none ∧ e = .returned (.tuple #[.agg #[.int .u8 0, .int .i64 0, .string ⟨#[]⟩], .slice none 0 0, .int .i64 6]))) ∧ Ext w w'

/-- A row of bytes of one's own, whatever they are, in a block from base on, below hi. -/
def OwnA (base hi : Nat) (w : World) (v : Value) (n : Nat) : Prop :=
  ∃ a cap, v = .slice a n cap ∧ n ≤ cap ∧ cap ≤ maxLen ∧ hi ≤ w.heap.size ∧ (0 < n → ∃ g off, a = some ⟨g, off, none⟩ ∧ base ≤ g ∧ g < hi ∧ (∀ i, i < n → ∃ z : Int, w.cell? ⟨g, off + i, none⟩ = some (.int .u8 z)) ∧ ∀ i, w.frozen? ⟨g, i, none⟩ = false)
theorem OwnA.of_own {base : Nat} {w : World} {v : Value} {l : List UInt8} (h : OwnL base w v l) : OwnA base w.heap.size w v l.length := by
  rcases h with ⟨rfl, rfl⟩ | ⟨g, off, cap, rfl, h1, h2, h3, h4, h5⟩
  · exact ⟨none, 0, rfl, Nat.le_refl _, by simp [maxLen], Nat.le_refl _, fun h => by simp at h⟩
  · refine ⟨_, cap, rfl, h2, h3, Nat.le_refl _, fun hn => ⟨g, off, rfl, h1, ?_, fun i hi => ?_, h5⟩⟩
    · have := h4 0 (bv (l[0]'hn)) (by rw [List.getElem?_map, List.getElem?_eq_getElem hn]; rfl)
      exact lt_of_cell this
    · exact ⟨_, h4 i (bv (l[i]'hi)) (by rw [List.getElem?_map, List.getElem?_eq_getElem hi]; rfl)⟩
theorem frozen_ext {w w' : World} {N : Nat} (hb : Below N w w') {g i : Nat} (hg : g < N) : w'.frozen? ⟨g, i, none⟩ = w.frozen? ⟨g, i, none⟩ := by
  unfold World.frozen?
  rw [hb.block g hg]
theorem OwnA.mono {base hi : Nat} {w w' : World} {v : Value} {n : Nat} (h : OwnA base hi w v n) (hb : Below hi w w') : OwnA base hi w' v n := by
  obtain ⟨a, cap, h1, h2, h3, h0, h4⟩ := h
  refine ⟨a, cap, h1, h2, h3, Nat.le_trans h0 hb.size, fun hn => ?_⟩
  obtain ⟨g, off, rfl, k1, k2, k3, k4⟩ := h4 hn
  refine ⟨g, off, rfl, k1, k2, fun i hi => ?_, fun i => by rw [frozen_ext hb k2]; exact k4 i⟩
  obtain ⟨z, hz⟩ := k3 i hi
  exact ⟨z, by rw [hb.cell (p := ⟨g, off + i, none⟩) k2]; exact hz⟩
theorem OwnA.put {base hi g off n cap j : Nat} {w : World} (h : OwnA base hi w (.slice (some ⟨g, off, none⟩) n cap) n) (hj : j < n) (z : Int) : OwnA base hi (w.setCell ⟨g, off + j, none⟩ (.int .u8 z)) (.slice (some ⟨g, off, none⟩) n cap) n ∧ base ≤ g ∧ g < hi := by
  obtain ⟨a, cap', h1, h2, h3, h0, h4⟩ := h
  obtain ⟨g', off', h5, k1, k2, k3, k4⟩ := h4 (by omega)
  simp only [Value.slice.injEq] at h1
  obtain ⟨h1a, _, h1c⟩ := h1
  rw [h5] at h1a
  simp only [Option.some.injEq, Addr.mk.injEq, and_true] at h1a
  obtain ⟨rfl, rfl⟩ := h1a
  subst h1c
  refine ⟨⟨_, cap, rfl, h2, h3, by simpa [World.setCell] using h0, fun _ => ⟨g, off, rfl, k1, k2, fun i hi => ?_, fun i => by simpa [go_sem] using k4 i⟩⟩, k1, k2⟩
  obtain ⟨z', hz'⟩ := k3 i hi
  by_cases e : i = j
  · subst e
    exact ⟨z, World.cell?_setCell_same _ _ _ hz'⟩
  · refine ⟨z', ?_⟩
    rw [World.cell?_setCell_other]
    · exact hz'
    · intro hh
      simp only [Addr.mk.injEq, and_true, true_and] at hh
      omega
/-- A place of it: that it is there, and may be set. -/
theorem OwnA.at {base hi n cap j : Nat} {w : World} {a : Option Addr} (h : OwnA base hi w (.slice a n cap) n) (hj : j < n) : ∃ g off z, a = some ⟨g, off, none⟩ ∧ w.cell? ⟨g, off + j, none⟩ = some (.int .u8 z) ∧ w.frozen? ⟨g, off + j, none⟩ = false := by
  obtain ⟨a', cap', h1, h2, h3, h0, h4⟩ := h
  obtain ⟨g', off', h5, k1, k2, k3, k4⟩ := h4 (by omega)
  simp only [Value.slice.injEq] at h1
  obtain ⟨z, hz⟩ := k3 j hj
  exact ⟨g', off', z, by rw [h1.1, h5], hz, k4 _⟩

end Go.Proofs.Ytlbilmmjcfiokaa
