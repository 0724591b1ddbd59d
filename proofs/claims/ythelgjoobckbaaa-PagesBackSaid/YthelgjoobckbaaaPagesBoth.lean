/-
  What changes no block but some; bytes in memory of one's own.
-/
import Derived.Test.YthelgjoobckbaaaPagesGet
import Derived.Test.YthelgjoobckbaaaOpenActs
namespace Go.Proofs.Ythelgjoobckbaaa
open Go.RowKit

/-- Only blocks of the set have changed, of what was there. -/
structure OnlyS (X : Nat → Prop) (w w' : World) : Prop where
  os : w'.os = w.os
  tape : w'.tape = w.tape
  output : w'.output = w.output
  size : w.heap.size ≤ w'.heap.size
  block : ∀ b, b < w.heap.size → ¬ X b → w'.heap[b]? = w.heap[b]?

theorem OnlyS.refl (X : Nat → Prop) (w : World) : OnlyS X w w := ⟨rfl, rfl, rfl, Nat.le_refl _, fun _ _ _ => rfl⟩
theorem OnlyS.of_ext {X : Nat → Prop} {w w' : World} (h : Ext w w') : OnlyS X w w' := ⟨h.os, h.tape, h.output, h.size, fun b hb _ => h.block b hb⟩
theorem OnlyS.of_onlyP {X : Nat → Prop} {g : Nat} {w w' : World} (h : OnlyP g w w') (hg : X g) : OnlyS X w w' :=
  ⟨h.os, h.tape, h.output, h.size, fun b hb hx => h.block b hb (fun e => hx (by have : b = g := (by simpa using e); rw [this]; exact hg))⟩
theorem OnlyS.mono {X Y : Nat → Prop} {w w' : World} (h : OnlyS X w w') (hxy : ∀ b, b < w.heap.size → X b → Y b) : OnlyS Y w w' := ⟨h.os, h.tape, h.output, h.size, fun b hb hy => h.block b hb (fun hx => hy (hxy b hb hx))⟩
/-- One step behind the other; the second one's set may have new blocks. -/
theorem OnlyS.trans {X Y : Nat → Prop} {a b c : World} (h : OnlyS X a b) (k : OnlyS Y b c) (hy : ∀ i, i < a.heap.size → Y i → X i) : OnlyS X a c :=
  ⟨k.os.trans h.os, k.tape.trans h.tape, k.output.trans h.output, Nat.le_trans h.size k.size, fun i hi hx => (k.block i (Nat.lt_of_lt_of_le hi h.size) (fun hyi => hx (hy i hi hyi))).trans (h.block i hi hx)⟩
theorem OnlyS.below {X : Nat → Prop} {N : Nat} {w w' : World} (h : OnlyS X w w') (hN : N ≤ w.heap.size) (hX : ∀ b, X b → N ≤ b) : Below N w w' :=
  ⟨h.os, h.tape, h.output, h.size, fun b hb => h.block b (by omega) (fun hx => by have := hX b hx; omega)⟩
theorem OnlyS.cell {X : Nat → Prop} {w w' : World} (h : OnlyS X w w') {a : Addr} {u : Value} (hc : w.cell? a = some u) (hx : ¬ X a.block) : w'.cell? a = some u := by
  have hlt := lt_of_cell hc
  rw [← hc]
  exact World.cell?_of_block (h.block _ hlt hx)
theorem RdV.onlyS {X : Nat → Prop} {w w' : World} {v : Value} {xs : List Value} (hr : RdV w v xs) (h : OnlyS X w w') (hx : xs ≠ [] → ∀ k, v.ownBlock = some k → ¬ X k) : RdV w' v xs := by
  rcases hr with h1 | ⟨x, cap, rfl, h2, h3, h4⟩
  · exact .inl h1
  · exact .inr ⟨x, cap, rfl, h2, h3, fun i u hu => h.cell (h4 i u hu) (by rw [add_block]; exact hx (by rintro rfl; simp at hu) x.block rfl)⟩
theorem Rd.onlyS {X : Nat → Prop} {w w' : World} {v : Value} {l : List UInt8} (hr : Rd w v l) (h : OnlyS X w w') (hx : l ≠ [] → ∀ k, v.ownBlock = some k → ¬ X k) : Rd w' v l := RdV.onlyS hr h (fun hne => hx (by rintro rfl; exact hne rfl))
theorem RSto.onlyS {X : Nat → Prop} {w w' : World} {q g : Nat} {s : St} (h : RSto w q g s) (ho : OnlyS X w w') (hq : ¬ X q) (hg : ¬ X g) : RSto w' q g s := by
  refine ⟨ho.cell h.top hq, fun i o hi j u hj => ho.cell (h.at' i o hi j u hj) hg, fun j => ?_, h.ne, Nat.lt_of_lt_of_le h.lt ho.size, h.few⟩
  have := h.free j
  unfold World.frozen? at this ⊢
  rw [ho.block g h.lt hg]
  exact this

/-- A slice of bytes in memory of one's own. -/
def OwnP (base : Nat) (w : World) (v : Value) (l : List UInt8) : Prop :=
  (v = .slice none 0 0 ∧ l = []) ∨ ∃ g off cap, v = .slice (some ⟨g, off, none⟩) l.length cap ∧ base ≤ g ∧ l.length ≤ cap ∧ cap ≤ maxLen ∧ (∀ i u, (l.map bv)[i]? = some u → w.cell? ⟨g, off + i, none⟩ = some u) ∧ ∀ i, i < l.length → w.frozen? ⟨g, off + i, none⟩ = false
theorem OwnP.rd {base : Nat} {w : World} {v : Value} {l : List UInt8} (h : OwnP base w v l) : Rd w v l := by
  rcases h with ⟨rfl, rfl⟩ | ⟨g, off, cap, rfl, _, h2, h3, h4, _⟩
  · exact Rd.nil w
  · exact .inr ⟨_, cap, by rw [List.length_map], by rw [List.length_map]; exact h2, h3, fun i u hu => by rw [add_at]; exact h4 i u hu⟩
theorem OwnP.of_owns {base : Nat} {w : World} {v : Value} {l : List UInt8} (h : w.ownsRow base 5 1 v l.length (l.map bv)) : OwnP base w v l := by
  rcases h.2 with ⟨h1, h2⟩ | ⟨g, cap, cur, rfl, h2, h3, h4, h5, _⟩
  · exact .inl ⟨h1, List.length_eq_zero_iff.1 h2⟩
  · exact .inr ⟨g, 0, cap, rfl, h2, h4, h5, fun i u hu => by
      have := h.cells (g := g) rfl i u hu
      rw [add_at] at this
      exact this, fun i _ => h.frozenAt _⟩
theorem OwnP.onlyS {X : Nat → Prop} {base : Nat} {w w' : World} {v : Value} {l : List UInt8} (h : OwnP base w v l) (ho : OnlyS X w w') (hx : ∀ k, v.ownBlock = some k → ¬ X k) : OwnP base w' v l := by
  rcases h with h | ⟨g, off, cap, rfl, h1, h2, h3, h4, h5⟩
  · exact .inl h
  · refine .inr ⟨g, off, cap, rfl, h1, h2, h3, fun i u hu => ho.cell (h4 i u hu) (hx g rfl), fun i hi => ?_⟩
    have hlt := lt_of_cell (h4 i (bv (l[i]'hi)) (by rw [List.getElem?_map, List.getElem?_eq_getElem hi]; rfl))
    have := h5 i hi
    unfold World.frozen? at this ⊢
    rw [ho.block g hlt (hx g rfl)]
    exact this

/-- A row of bytes of one's own, whatever they are. -/
def OwnQ (base : Nat) (w : World) (v : Value) (n : Nat) : Prop :=
  ∃ a cap, v = .slice a n cap ∧ n ≤ cap ∧ cap ≤ maxLen ∧ (0 < n → ∃ g off, a = some ⟨g, off, none⟩ ∧ base ≤ g ∧ (∀ i, i < n → ∃ z : Int, w.cell? ⟨g, off + i, none⟩ = some (.int .u8 z)) ∧ ∀ i, i < n → w.frozen? ⟨g, off + i, none⟩ = false)
theorem OwnQ.of_own {base : Nat} {w : World} {v : Value} {l : List UInt8} (h : OwnP base w v l) : OwnQ base w v l.length := by
  rcases h with ⟨rfl, rfl⟩ | ⟨g, off, cap, rfl, h1, h2, h3, h4, h5⟩
  · exact ⟨none, 0, rfl, Nat.le_refl _, by simp [maxLen], fun h => by simp at h⟩
  · exact ⟨_, cap, rfl, h2, h3, fun _ => ⟨g, off, rfl, h1, fun i hi => ⟨_, h4 i (bv (l[i]'hi)) (by rw [List.getElem?_map, List.getElem?_eq_getElem hi]; rfl)⟩, h5⟩⟩
theorem OwnQ.at {base n cap j : Nat} {w : World} {a : Option Addr} (h : OwnQ base w (.slice a n cap) n) (hj : j < n) : ∃ g off z, a = some ⟨g, off, none⟩ ∧ base ≤ g ∧ w.cell? ⟨g, off + j, none⟩ = some (.int .u8 z) ∧ w.frozen? ⟨g, off + j, none⟩ = false := by
  obtain ⟨a', cap', h1, h2, h3, h4⟩ := h
  obtain ⟨g', off', h5, k1, k3, k4⟩ := h4 (by omega)
  simp only [Value.slice.injEq] at h1
  obtain ⟨z, hz⟩ := k3 j hj
  exact ⟨g', off', z, by rw [h1.1, h5], k1, hz, k4 j hj⟩
theorem OwnQ.put {base g off n cap j : Nat} {w : World} (h : OwnQ base w (.slice (some ⟨g, off, none⟩) n cap) n) (hj : j < n) (z : Int) : OwnQ base (w.setCell ⟨g, off + j, none⟩ (.int .u8 z)) (.slice (some ⟨g, off, none⟩) n cap) n := by
  obtain ⟨a, cap', h1, h2, h3, h4⟩ := h
  obtain ⟨g', off', h5, k1, k3, k4⟩ := h4 (by omega)
  simp only [Value.slice.injEq] at h1
  obtain ⟨h1a, -, h1c⟩ := h1
  rw [h5] at h1a
  simp only [Option.some.injEq, Addr.mk.injEq, and_true] at h1a
  obtain ⟨rfl, rfl⟩ := h1a
  subst h1c
  refine ⟨_, cap, rfl, h2, h3, fun _ => ⟨g, off, rfl, k1, fun i hi => ?_, fun i hi => by simpa [go_sem] using k4 i hi⟩⟩
  obtain ⟨z', hz'⟩ := k3 i hi
  by_cases e : i = j
  · subst e
    exact ⟨z, World.cell?_setCell_same _ _ _ hz'⟩
  · exact ⟨z', by rw [cell_set_other (.inr (by omega))]; exact hz'⟩
/-- It stays while others change. -/
theorem OwnQ.onlyS {X : Nat → Prop} {base n : Nat} {w w' : World} {v : Value} (h : OwnQ base w v n) (ho : OnlyS X w w') (hx : ∀ k, v.ownBlock = some k → ¬ X k) : OwnQ base w' v n := by
  obtain ⟨a, cap, rfl, h2, h3, h4⟩ := h
  refine ⟨a, cap, rfl, h2, h3, fun hn => ?_⟩
  obtain ⟨g, off, rfl, k1, k3, k4⟩ := h4 hn
  refine ⟨g, off, rfl, k1, fun i hi => ?_, fun i hi => ?_⟩
  · obtain ⟨z, hz⟩ := k3 i hi
    exact ⟨z, ho.cell hz (hx g rfl)⟩
  · obtain ⟨z, hz⟩ := k3 i hi
    have := k4 i hi
    unfold World.frozen? at this ⊢
    rw [ho.block g (lt_of_cell hz) (hx g rfl)]
    exact this

/-- What an act does to a store. -/
def actS (s : St) (a : Act5) : St :=
  if a.k % 7 = 0 then (allocS s a.n).2 else if a.k % 7 = 1 then (freeS s a.at').2 else if a.k % 7 = 2 then (writeS s a.at' a.b).2 else if a.k % 7 = 3 then flipS s a.at' a.n a.m else if a.k % 7 = 4 then (putS s a.b).2 else if a.k % 7 = 5 then s else dropS s a.l
theorem actS_ok {s : St} (h : okS s) (a : Act5) : okS (actS s a) := by
  unfold actS
  split
  · exact allocS_ok h _
  split
  · exact freeS_ok h _
  split
  · exact writeS_ok h _ _
  split
  · exact flipS_ok h _ _ _
  split
  · exact putS_ok h _
  split
  · exact h
  · exact dropS_ok _ _ h

end Go.Proofs.Ythelgjoobckbaaa
