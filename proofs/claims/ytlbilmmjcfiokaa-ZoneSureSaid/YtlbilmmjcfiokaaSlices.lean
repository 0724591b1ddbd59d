/-
  New rows of bytes: what a call hands back, what it owns, what stays as it was.
-/
import Derived.Test.YtlbilmmjcfiokaaRows
import Derived.Test.YtlbilmmjcfiokaaBase
import Derived.Test.YtlbilmmjcfiokaaCan
import Derived.Laws.AppendOwnNone
namespace Go.Proofs.Ytlbilmmjcfiokaa
open Go.RowKit

theorem Try.info5 : (Try.prog.info? 5).map (fun i => (i.zero, i.size, i.bytes)) = some (some (.int .u8 0), 1, 1) := by kernel_rfl

/-- What a call leaves that hands back a slice of its own. -/
def Fresh (e : TypeId) (w : World) (xs : List Value) (r : Ending) (w' : World) : Prop :=
  ∃ v, r = .returned v ∧ w'.ownsRow w.heap.size e 1 v xs.length xs ∧ Below w.heap.size w w'

theorem kept_cells {w w' : World} (hg : w.grownBy w' none) {x : Addr} {xs : List Value} (h : ∀ i u, xs[i]? = some u → w.cell? (x.add i) = some u) : ∀ i u, xs[i]? = some u → w'.cell? (x.add i) = some u :=
  fun i u hu => hg.cell (h i u hu) (by simp)

/-- append([]byte{}, b...): what stands ahead of every encoding of the reference. -/
theorem empty_owned (w : World) : (w.alloc (.cells #[] 5)).ownsRow w.heap.size 5 1 (.slice (some ⟨w.heap.size, 0, none⟩) 0 0) 0 [] := World.ownsRow_made w #[] 0 (Nat.le_refl _) (by simp [maxLen]) rfl

/-- A new block of one cell is the call's own. -/
theorem one_owned (w : World) (base : Nat) (x : Value) (hb : base ≤ w.heap.size) : (w.alloc (.cells #[x] 5)).ownsRow base 5 1 (.slice (some ⟨w.heap.size, 0, none⟩) 1 1) 1 [x] :=
  ⟨rfl, .inr ⟨w.heap.size, 1, #[x], rfl, hb, heap_alloc_new w _, Nat.le_refl _, by simp [maxLen], rfl, rfl⟩⟩

/-- What reads from elsewhere goes on so while the call's own row grows. -/
theorem kept_owned {w w4 : World} {o : Obj} {v u : Value} {l : List UInt8} (hg : (w.alloc o).grownBy w4 v.ownBlock) (hd : ∀ k, u.ownBlock = some k → v.ownBlock ≠ some k) (hr : Rd w u l) : Rd w4 u l := by
  rcases hr with h | ⟨x, cap, rfl, h2, h3, h4⟩
  · exact .inl h
  · refine .inr ⟨x, cap, rfl, h2, h3, fun i y hy => ?_⟩
    have hc := h4 i y hy
    have hc' : (w.alloc o).cell? (x.add i) = some y := by
      rw [(((Below.refl _ w).alloc (Nat.le_refl _) o).cell (lt_of_cell hc))]; exact hc
    refine hg.cell hc' (fun hh => ?_)
    rw [add_block] at hh
    exact hd x.block rfl hh.symm

/-- A row of bytes of the call's own, whatever they are. -/
def OwnB (base : Nat) (w : World) (v : Value) (n : Nat) : Prop := ∃ xs, w.ownsRow base 5 1 v n xs ∧ ∀ u ∈ xs, ∃ z : Int, u = .int .u8 z

theorem OwnB.of_bytes {base : Nat} {w : World} {v : Value} {n : Nat} {l : List UInt8} (h : w.ownsRow base 5 1 v n (l.map bv)) : OwnB base w v n :=
  ⟨_, h, fun u hu => by obtain ⟨c, _, rfl⟩ := List.mem_map.1 hu; exact ⟨_, rfl⟩⟩

theorem owns_later {base : Nat} {e : TypeId} {w w' : World} {v : Value} {n : Nat} {xs : List Value} (h : w.ownsRow base e 1 v n xs) (hb : Below w.heap.size w w') : w'.ownsRow base e 1 v n xs :=
  h.kept (row := none) ⟨hb.os, hb.tape, hb.output, hb.size, fun k hk _ => hb.block k hk⟩ (by cases v.ownBlock <;> simp)

theorem OwnB.at {base g n cap i : Nat} {w : World} (h : OwnB base w (.slice (some ⟨g, 0, none⟩) n cap) n) (hi : i < n) : ∃ z : Int, w.cell? ⟨g, i, none⟩ = some (.int .u8 z) := by
  obtain ⟨xs, ho, hx⟩ := h
  have hl : xs.length = n := by simpa using ho.1
  have hc := ho.cellAt i (by omega)
  rw [List.getElem?_eq_getElem (by omega)] at hc
  obtain ⟨z, hz⟩ := hx _ (List.getElem_mem (show i < xs.length by omega))
  exact ⟨z, by rw [hc, hz]⟩

theorem OwnB.free {base g n cap : Nat} {w : World} (h : OwnB base w (.slice (some ⟨g, 0, none⟩) n cap) n) (i : Nat) : w.frozen? ⟨g, i, none⟩ = false := h.choose_spec.1.frozenAt i

theorem OwnB.put {base g n cap : Nat} {w : World} (h : OwnB base w (.slice (some ⟨g, 0, none⟩) n cap) n) (i : Nat) (z : Int) : OwnB base (w.setCell ⟨g, i, none⟩ (.int .u8 z)) (.slice (some ⟨g, 0, none⟩) n cap) n := by
  obtain ⟨xs, ho, hx⟩ := h
  refine ⟨_, (ho.stored i _).1, fun u hu => ?_⟩
  rcases List.mem_or_eq_of_mem_set hu with h | rfl
  · exact hx u h
  · exact ⟨z, rfl⟩

theorem OwnB.other {base g i n : Nat} {w : World} {v u : Value} (h : OwnB base w v n) (hd : v.ownBlock ≠ some g) (_hg : g < w.heap.size) : OwnB base (w.setCell ⟨g, i, none⟩ u) v n := by
  obtain ⟨xs, ho, hx⟩ := h
  exact ⟨xs, ho.kept (row := some g) ⟨rfl, rfl, rfl, by simp [World.setCell], fun k _ hk => Below.heap_setCell _ _ _ _ (fun e => hk (by rw [e]))⟩ (.inr hd), hx⟩

theorem OwnB.lt {base g n cap m : Nat} {w : World} (h : OwnB base w (.slice (some ⟨g, 0, none⟩) n cap) m) : base ≤ g ∧ g < w.heap.size := h.choose_spec.1.lt g rfl

theorem OwnB.base {b b' n : Nat} {w : World} {v : Value} (h : OwnB b w v n) (hb : b' ≤ b) : OwnB b' w v n := by
  obtain ⟨xs, ho, hx⟩ := h
  refine ⟨xs, ⟨ho.1, ?_⟩, hx⟩
  rcases ho.2 with h | ⟨g, cap, cur, h1, h2, h3⟩
  · exact .inl h
  · exact .inr ⟨g, cap, cur, h1, by omega, h3⟩

theorem owns_shape {base : Nat} {e : TypeId} {w : World} {v : Value} {n : Nat} {xs : List Value} (h : w.ownsRow base e 1 v n xs) (hn : 0 < n) : ∃ g cap, v = .slice (some ⟨g, 0, none⟩) n cap ∧ base ≤ g ∧ g < w.heap.size ∧ n ≤ cap ∧ cap ≤ maxLen := by
  rcases h.2 with ⟨_, h0⟩ | ⟨g, cap, cur, rfl, hb, hg, h1, h2, _⟩
  · omega
  · exact ⟨g, cap, rfl, hb, (Array.getElem?_eq_some_iff.1 hg).1, h1, h2⟩

/-- A slice as its cells, nil or not. -/
theorem RdV.cellsAt {w : World} {v : Value} {xs : List Value} (h : RdV w v xs) :
    ∃ ao cap, v = .slice ao xs.length cap ∧ xs.length ≤ cap ∧ cap ≤ maxLen ∧ ∀ i u, xs[i]? = some u → ∃ x, ao = some x ∧ w.cell? (x.add i) = some u := by
  rcases h with ⟨rfl, rfl⟩ | ⟨x, cap, rfl, h2, h3, h4⟩
  · exact ⟨none, 0, rfl, Nat.le_refl _, by simp [maxLen], fun i u hu => by simp at hu⟩
  · exact ⟨some x, cap, rfl, h2, h3, fun i u hu => ⟨x, rfl, h4 i u hu⟩⟩

/-- An operation whose guard holds is as without it. -/
theorem wpList_struck {P : Program} {ops : Array Oper} {Q : Exit → Act → World → Prop} {rest : List Oper} {o : Oper} {a : Act} {w : World} (hw : Region.wanted o (yielded ops a.tmps) = true)
    (h : wpList P ops Q ({ o with guard := none } :: rest) a w) : wpList P ops Q (o :: rest) a w := by
  unfold wpList at h ⊢
  rw [if_pos hw]
  rw [if_pos (by simp [Region.wanted])] at h
  exact h

theorem OwnB.start {base L cap k : Nat} {w : World} {a : Option Addr} (h : OwnB base w (.slice a L cap) L) (hk : k < L) : ∃ g, a = some ⟨g, 0, none⟩ := by
  obtain ⟨xs, ho, _⟩ := h
  obtain ⟨g, c, e, _⟩ := owns_shape ho (by omega)
  simp only [Value.slice.injEq] at e
  exact ⟨g, e.1⟩

theorem OwnB.later {base n : Nat} {w w' : World} {v : Value} (h : OwnB base w v n) (hb : Below w.heap.size w w') : OwnB base w' v n := by
  obtain ⟨xs, ho, hx⟩ := h
  exact ⟨xs, owns_later ho hb, hx⟩

end Go.Proofs.Ytlbilmmjcfiokaa
