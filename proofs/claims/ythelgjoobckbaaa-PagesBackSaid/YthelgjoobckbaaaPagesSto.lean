/-
  The program's store of pages: where it lies, what changes it.
-/
import Derived.Test.YthelgjoobckbaaaPagesEq
namespace Go.Proofs.Ythelgjoobckbaaa
open Go.RowKit Go.BigFrame

/-- The slots: where each page lies, and its bytes. -/
abbrev Slots := List (Option (Nat × List UInt8))
def ptrV : Option (Nat × List UInt8) → Value
  | none => .pointer none
  | some x => .pointer (some ⟨x.1, 0, none⟩)
def bytesT (t : Slots) : St := t.map (Option.map Prod.snd)

structure PStoT (w : World) (p g : Nat) (t : Slots) : Prop where
  top : w.cell? ⟨p, 0, none⟩ = some (.slice (some ⟨g, 0, none⟩) t.length t.length)
  slot : ∀ i o, t[i]? = some o → w.cell? ⟨g, i, none⟩ = some (ptrV o)
  page : ∀ (i b : Nat) l, t[i]? = some (some (b, l)) → w.rangeAt b 0 (l.map bv)
  pfree : ∀ (i b : Nat) l, t[i]? = some (some (b, l)) → ∀ j, j < 64 → w.frozen? ⟨b, j, none⟩ = false
  free : ∀ j, w.frozen? ⟨g, j, none⟩ = false
  inj : ∀ (i j b : Nat) l l', t[i]? = some (some (b, l)) → t[j]? = some (some (b, l')) → i = j
  ne : p ≠ g
  apart : ∀ (i b : Nat) l, t[i]? = some (some (b, l)) → b ≠ p ∧ b ≠ g ∧ b < w.heap.size
  glt : g < w.heap.size
  few : t.length ≤ 4096

/-- The store's own blocks. -/
def ownT (p g : Nat) (t : Slots) (b : Nat) : Prop := b = p ∨ b = g ∨ ∃ l, some (b, l) ∈ t

/-- The program's store: its block, the set of its own blocks. -/
def PSto (O : Nat → Prop) (w : World) (p : Nat) (s : St) : Prop := ∃ g t, s = bytesT t ∧ PStoT w p g t ∧ O = ownT p g t

theorem cell_of_same {w w' : World} {b i : Nat} (h : w'.heap[b]? = w.heap[b]?) : w'.cell? ⟨b, i, none⟩ = w.cell? ⟨b, i, none⟩ := World.cell?_of_block h
theorem frozen_of_same {w w' : World} {b i : Nat} (h : w'.heap[b]? = w.heap[b]?) : w'.frozen? ⟨b, i, none⟩ = w.frozen? ⟨b, i, none⟩ := by
  unfold World.frozen?
  rw [h]
theorem mem_at {t : Slots} {b : Nat} {l : List UInt8} (h : some (b, l) ∈ t) : ∃ i : Nat, t[i]? = some (some (b, l)) := List.mem_iff_getElem?.1 h

theorem PStoT.keep {w w' : World} {p g : Nat} {t : Slots} (h : PStoT w p g t) (hk : ∀ b, ownT p g t b → w'.heap[b]? = w.heap[b]?) (hs : w.heap.size ≤ w'.heap.size) : PStoT w' p g t := by
  have hp := hk p (.inl rfl)
  have hg := hk g (.inr (.inl rfl))
  have hb : ∀ (i b : Nat) l, t[i]? = some (some (b, l)) → w'.heap[b]? = w.heap[b]? := fun i b l hi => hk b (.inr (.inr ⟨l, List.mem_of_getElem? hi⟩))
  exact ⟨by rw [cell_of_same hp]; exact h.top, fun i o hi => by rw [cell_of_same hg]; exact h.slot i o hi, fun i b l hi j u hj => by rw [cell_of_same (hb i b l hi)]; exact h.page i b l hi j u hj,
    fun i b l hi j hj => by rw [frozen_of_same (hb i b l hi)]; exact h.pfree i b l hi j hj, fun j => by rw [frozen_of_same hg]; exact h.free j, h.inj, h.ne,
    fun i b l hi => ⟨(h.apart i b l hi).1, (h.apart i b l hi).2.1, Nat.lt_of_lt_of_le (h.apart i b l hi).2.2 hs⟩, Nat.lt_of_lt_of_le h.glt hs, h.few⟩
theorem PStoT.lt {w : World} {p g : Nat} {t : Slots} (h : PStoT w p g t) (b : Nat) (hb : ownT p g t b) : b < w.heap.size := by
  rcases hb with rfl | rfl | ⟨l, hl⟩
  · exact lt_of_cell h.top
  · exact h.glt
  · obtain ⟨i, hi⟩ := mem_at hl
    exact (h.apart i b l hi).2.2
theorem PStoT.mono {w w' : World} {p g : Nat} {t : Slots} (h : PStoT w p g t) (hb : Ext w w') : PStoT w' p g t := h.keep (fun b hb' => hb.block b (h.lt b hb')) hb.size

theorem PSto.keep {O : Nat → Prop} {w w' : World} {p : Nat} {s : St} (h : PSto O w p s) (hk : ∀ b, O b → w'.heap[b]? = w.heap[b]?) (hs : w.heap.size ≤ w'.heap.size) : PSto O w' p s := by
  obtain ⟨g, t, rfl, ht, rfl⟩ := h
  exact ⟨g, t, rfl, ht.keep hk hs, rfl⟩
theorem PSto.lt {O : Nat → Prop} {w : World} {p : Nat} {s : St} (h : PSto O w p s) (b : Nat) (hb : O b) : b < w.heap.size := by
  obtain ⟨g, t, rfl, ht, rfl⟩ := h
  exact ht.lt b hb

/-- What a call on the program's store leaves; v: what it hands back. -/
def PStep (O : Nat → Prop) (w : World) (p : Nat) (s' : St) (w' : World) (v : Value) : Prop :=
  ∃ O', PSto O' w' p s' ∧ OnlyS O w w' ∧ (∀ b, O' b → O b ∨ w.heap.size ≤ b) ∧ (∀ k, v.ownBlock = some k → ¬ O' k)

/-- One slot has changed. -/
theorem PStoT.change {w w' : World} {p g : Nat} {t : Slots} (h : PStoT w p g t) (i : Nat) (o : Option (Nat × List UInt8)) (hsz : w.heap.size ≤ w'.heap.size) (htop : w'.heap[p]? = w.heap[p]?)
    (hslot : i < t.length → w'.cell? ⟨g, i, none⟩ = some (ptrV o)) (hslots : ∀ j, j ≠ i → w'.cell? ⟨g, j, none⟩ = w.cell? ⟨g, j, none⟩) (hgf : ∀ j, w'.frozen? ⟨g, j, none⟩ = false)
    (hpages : ∀ (j b : Nat) l, j ≠ i → t[j]? = some (some (b, l)) → w'.heap[b]? = w.heap[b]?)
    (hnew : ∀ (b : Nat) l, o = some (b, l) → w'.rangeAt b 0 (l.map bv) ∧ (∀ j, j < 64 → w'.frozen? ⟨b, j, none⟩ = false) ∧ b ≠ p ∧ b ≠ g ∧ b < w'.heap.size ∧ ∀ j l', j ≠ i → t[j]? ≠ some (some (b, l'))) :
    PStoT w' p g (t.set i o) := by
  have hget : ∀ (j : Nat) x, (t.set i o)[j]? = some x → (j = i ∧ x = o ∧ i < t.length) ∨ (j ≠ i ∧ t[j]? = some x) := fun j x hj => by
    by_cases e : j = i
    · subst e
      have hl := (List.getElem?_eq_some_iff.1 hj).1
      rw [List.length_set] at hl
      rw [List.getElem?_set_self hl] at hj
      exact .inl ⟨rfl, (Option.some.inj hj).symm, hl⟩
    · rw [List.getElem?_set_ne (fun hh => e hh.symm)] at hj
      exact .inr ⟨e, hj⟩
  refine ⟨?_, fun j x hj => ?_, fun j b l hj => ?_, fun j b l hj k hk => ?_, hgf, fun j k b l l' hj hk => ?_, h.ne, fun j b l hj => ?_, Nat.lt_of_lt_of_le h.glt hsz, by rw [List.length_set]; exact h.few⟩
  · rw [List.length_set, cell_of_same htop]; exact h.top
  · rcases hget j x hj with ⟨rfl, rfl, hl⟩ | ⟨hne, hj⟩
    · exact hslot hl
    · rw [hslots j hne]; exact h.slot j x hj
  · rcases hget j _ hj with ⟨rfl, he, _⟩ | ⟨hne, hj⟩
    · exact (hnew b l he.symm).1
    · intro k u hk
      rw [cell_of_same (hpages j b l hne hj)]; exact h.page j b l hj k u hk
  · rcases hget j _ hj with ⟨rfl, he, _⟩ | ⟨hne, hj⟩
    · exact (hnew b l he.symm).2.1 k hk
    · rw [frozen_of_same (hpages j b l hne hj)]; exact h.pfree j b l hj k hk
  · rcases hget j _ hj with ⟨ej, he, _⟩ | ⟨hne, hj2⟩ <;> rcases hget k _ hk with ⟨ek, he', _⟩ | ⟨hne', hk2⟩
    · exact ej.trans ek.symm
    · exact absurd hk2 ((hnew b l he.symm).2.2.2.2.2 k l' hne')
    · exact absurd hj2 ((hnew b l' he'.symm).2.2.2.2.2 j l hne)
    · exact h.inj j k b l l' hj2 hk2
  · rcases hget j _ hj with ⟨rfl, he, _⟩ | ⟨hne, hj⟩
    · have := hnew b l he.symm
      exact ⟨this.2.2.1, this.2.2.2.1, this.2.2.2.2.1⟩
    · have := h.apart j b l hj
      exact ⟨this.1, this.2.1, Nat.lt_of_lt_of_le this.2.2 hsz⟩

/-- The page of a number. -/
def pageT (t : Slots) (id : Int) : Option (Nat × List UInt8) := if 0 ≤ id then (t[id.toNat]?).join else none
theorem pageS_bytesT (t : Slots) (id : Int) : pageS (bytesT t) id = (pageT t id).map Prod.snd := by
  unfold pageS pageT bytesT
  split
  · rw [List.getElem?_map]
    cases t[id.toNat]? with
    | none => rfl
    | some o => rfl
  · rfl
theorem pageT_lt {t : Slots} {id : Int} {b : Nat} {l : List UInt8} (h : pageT t id = some (b, l)) : 0 ≤ id ∧ id < t.length ∧ t[id.toNat]? = some (some (b, l)) := by
  unfold pageT at h
  split at h
  · rename_i h0
    cases hg : t[id.toNat]? with
    | none => rw [hg] at h; cases h
    | some q =>
      rw [hg] at h
      simp only [Option.join_some] at h
      subst h
      have := (List.getElem?_eq_some_iff.1 hg).1
      exact ⟨h0, by omega, rfl⟩
  · cases h
theorem bytesT_set (t : Slots) (i : Nat) (o : Option (Nat × List UInt8)) : bytesT (t.set i o) = (bytesT t).set i (o.map Prod.snd) := by
  unfold bytesT
  rw [List.map_set]
theorem bytesT_length (t : Slots) : (bytesT t).length = t.length := by unfold bytesT; rw [List.length_map]

set_option maxRecDepth 100000 in
theorem pAllocated_any (p g : Nat) (t : Slots) (id : Int) (w : World) (h : PStoT w p g t) (hn : -9223372036854775808 ≤ id ∧ id ≤ 9223372036854775807) :
    Calls Try.prog 36 #[.pointer (some ⟨p, 0, none⟩), .int .i64 id] w fun e w' => e = .returned (ptrV (pageT t id)) ∧ w = w' := by
  obtain ⟨h0, h1⟩ := hn
  have hq := h.top
  have hfew := h.few
  by_cases hneg : id < 0
  · have hp : pageT t id = none := by unfold pageT; rw [if_neg (by omega)]
    rw [hp]
    have hd : decide (id < 0) = true := decide_eq_true (by omega)
    clear hp hneg
    go_enter Try.func36, Try.ntmps36
    go_wp2_with fail
    go_ret
    exact ⟨rfl, rfl⟩
  · obtain ⟨k, rfl⟩ := Int.eq_ofNat_of_zero_le (show 0 ≤ id by omega)
    by_cases hk : k < t.length
    · have hs : t[k]? = some t[k] := List.getElem?_eq_getElem hk
      have hp : pageT t (k : Int) = t[k] := by
        unfold pageT
        rw [if_pos (by omega), Int.toNat_natCast, hs]
        rfl
      rw [hp]
      have hc := h.slot k _ hs
      generalize ptrV t[k] = B at hc ⊢
      clear hs hp h
      generalize t.length = L at hq hfew hk
      go_enter Try.func36, Try.ntmps36
      go_wp2_with fail
      go_ret
      exact ⟨rfl, rfl⟩
    · have hp : pageT t (k : Int) = none := by
        unfold pageT
        rw [if_pos (by omega), Int.toNat_natCast, List.getElem?_eq_none (by omega)]
        rfl
      rw [hp]
      clear hp h
      generalize t.length = L at hq hfew hk
      go_enter Try.func36, Try.ntmps36
      go_wp2_with fail
      go_ret
      exact ⟨rfl, rfl⟩

end Go.Proofs.Ythelgjoobckbaaa
