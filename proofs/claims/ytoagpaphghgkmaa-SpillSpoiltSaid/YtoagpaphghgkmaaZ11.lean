/-
  Texts of this proof, merged: SpiHold, SpiPutW, SpiDrop, Tail, Blk, SpiW2, SpiW3.
-/
import Derived.ArgAppend
import Derived.Laws.OwnMore
import Derived.Lib.LazyBuf
import Derived.Lib.OwnKind
import Derived.RegionTactic
import Derived.ChangeAlike
import Derived.BigQuiet
import Derived.Test.YtoagpaphghgkmaaZ7
import Derived.Test.YtoagpaphghgkmaaZ9
import Derived.Test.YtoagpaphghgkmaaZ4
import Derived.Test.YtoagpaphghgkmaaZ8
import Derived.Test.YtoagpaphghgkmaaZ2
import Derived.Test.YtoagpaphghgkmaaZ10
import Derived.Test.YtoagpaphghgkmaaZ6
/-
  Writers: what they hold of a store's pages, and what each call makes of it. No program.
-/
namespace Go.Proofs.Ytoagpaphghgkmaa
open Go.RowKit

/-- A writer at work (on), or ended: its pages, the bytes that are on none yet, how many rows. -/
structure Wr17 where
  ids : List Nat
  buf : List UInt8
  many : Nat
  on : Bool

def offW : Wr17 := ⟨[], [], 0, false⟩
def newW : Wr17 := ⟨[], [], 0, true⟩
/-- The pages, as numbers. -/
def intsN (ids : List Nat) : List Int := ids.map fun (j : Nat) => (j : Int)

/-- A row is added: the error, the writer, the store. -/
def addW (s : St) (W : Wr17) (r : List V) : (Int × Wr17) × St :=
  if W.on = false then ((2, W), s)
  else if mayR r ≠ 0 then ((mayR r, W), s)
  else if (W.buf ++ rowB r).length / 56 + usedS s ≤ s.length then ((0, ⟨W.ids ++ idsK s ((W.buf ++ rowB r).length / 56), (W.buf ++ rowB r).drop (56 * ((W.buf ++ rowB r).length / 56)), W.many + 1, true⟩), storeK s (W.buf ++ rowB r) ((W.buf ++ rowB r).length / 56))
  else ((4, offW), dropS s (intsN W.ids))
/-- It is done: the error, the file's pages and rows, the store. -/
def doneW (s : St) (W : Wr17) : (Int × (List Nat × Nat)) × St :=
  if W.on = false then ((2, ([], 0)), s)
  else if W.buf = [] then ((0, (W.ids, W.many)), s)
  else if 1 + usedS s ≤ s.length then ((0, (W.ids ++ idsK s 1, W.many)), storeK s W.buf 1)
  else ((4, ([], 0)), dropS s (intsN W.ids))
def cancelW (s : St) (W : Wr17) : St := if W.on = false then s else dropS s (intsN W.ids)

/-! ### Whose pages are taken -/

/-- Just these pages are taken, each of them once. -/
def Part (s : St) (l : List Nat) : Prop := l.Nodup ∧ ∀ i, (∃ q, s[i]? = some (some q)) ↔ i ∈ l

theorem Part.perm {s : St} {l l' : List Nat} (h : Part s l) (hp : l.Perm l') : Part s l' := ⟨hp.nodup h.1, fun i => (h.2 i).trans hp.mem_iff⟩
theorem Part.free (n : Nat) : Part (List.replicate n none) [] := by
  refine ⟨List.nodup_nil, fun i => ⟨?_, fun h => by cases h⟩⟩
  rintro ⟨q, h⟩
  have := List.eq_of_mem_replicate (List.mem_of_getElem? h)
  cases this
theorem Part.lt {s : St} {l : List Nat} (h : Part s l) {i : Nat} (hi : i ∈ l) : i < s.length := by
  obtain ⟨q, hq⟩ := (h.2 i).2 hi
  exact (List.getElem?_eq_some_iff.1 hq).1
theorem filter_lt (l : List Nat) (n : Nat) (hd : l.Nodup) (h : ∀ i ∈ l, i < n) : ((List.range n).filter fun i => decide (i ∈ l)).length = l.length := by
  have hp : ((List.range n).filter fun i => decide (i ∈ l)).Perm l := by
    refine (List.perm_ext_iff_of_nodup (List.nodup_range.filter _) hd).2 fun i => ?_
    rw [List.mem_filter, List.mem_range]
    simp only [decide_eq_true_eq]
    exact ⟨fun h => h.2, fun hi => ⟨h i hi, hi⟩⟩
  exact hp.length_eq
theorem used_range : ∀ s : St, usedS s = ((List.range s.length).filter fun i => (s[i]?.join).isSome).length := by
  intro s
  unfold usedS
  rw [← List.countP_eq_length_filter]
  have e : s = (List.range s.length).map fun i => s[i]?.join := by
    apply List.ext_getElem?
    intro i
    rw [List.getElem?_map]
    by_cases hi : i < s.length
    · rw [List.getElem?_range hi, List.getElem?_eq_getElem hi]
      simp [List.getElem?_eq_getElem hi]
    · rw [List.getElem?_eq_none (by omega), List.getElem?_eq_none (by simp; omega)]
      rfl
  conv => lhs; rw [e]
  rw [List.countP_map]
  rfl
/-- So many are taken. -/
theorem Part.used {s : St} {l : List Nat} (h : Part s l) : usedS s = l.length := by
  rw [used_range, ← filter_lt l s.length h.1 fun i hi => h.lt hi]
  congr 1
  refine List.filter_congr fun i hi => ?_
  have hb : (s[i]?.join).isSome = true ↔ i ∈ l := by
    rw [← h.2 i]
    cases hs : s[i]? with
    | none => simp
    | some o => cases o <;> simp
  rw [Bool.eq_iff_iff, decide_eq_true_eq]
  exact hb
/-- More are taken. -/
theorem Part.take {s : St} {l : List Nat} (h : Part s l) (b : List UInt8) {k : Nat} (_hk : k + usedS s ≤ s.length) : Part (storeK s b k) (idsK s k ++ l) := by
  have hfree : ∀ i ∈ idsK s k, s[i]? = some none := fun i hi => by
    have := takeS_free k 0 s i hi
    rwa [Nat.sub_zero] at this
  refine ⟨List.nodup_append.2 ⟨takeS_nodup k 0 s, h.1, fun i hi j hj e => ?_⟩, fun i => ?_⟩
  · subst e
    obtain ⟨q, hq⟩ := (h.2 i).2 hj
    rw [hfree i hi] at hq
    cases hq
  · rw [List.mem_append]
    have hp : (patS (storeK s b k))[i]? = (patS (takeS 0 k s).2)[i]? := by rw [storeK_pat]
    have key : ∀ t : St, (∃ q, t[i]? = some (some q)) ↔ (patS t)[i]? = some true := fun t => by
      unfold patS
      rw [List.getElem?_map]
      cases t[i]? with
      | none => simp
      | some o => cases o <;> simp
    rw [key, hp, ← key]
    by_cases hi : i ∈ idsK s k
    · refine ⟨fun _ => .inl hi, fun _ => ?_⟩
      obtain ⟨-, p, hp2⟩ := takeS_has k 0 s i hi
      rw [Nat.sub_zero] at hp2
      exact ⟨p, hp2⟩
    · rw [takeS_all]
      have e := sets_other (idsK s k) s i hi
      unfold idsK at e hi ⊢
      rw [e, h.2 i]
      exact ⟨fun h => .inr h, fun h2 => h2.resolve_left hi⟩
/-- Some are let go. -/
theorem Part.drop {s : St} {a l : List Nat} (h : Part s (a ++ l)) : Part (dropS s (intsN a)) l := by
  obtain ⟨hd, hm⟩ := h
  obtain ⟨-, hl, ha⟩ := List.nodup_append.1 hd
  refine ⟨hl, fun i => ?_⟩
  by_cases hi : i ∈ a
  · have hlt : i < s.length := by
      obtain ⟨q, hq⟩ := (hm i).2 (List.mem_append.2 (.inl hi))
      exact (List.getElem?_eq_some_iff.1 hq).1
    unfold intsN
    rw [dropS_self a s i hi hlt]
    exact ⟨fun ⟨q, hq⟩ => by (cases hq), fun h2 => absurd rfl (ha i hi i h2)⟩
  · unfold intsN
    rw [dropS_other _ s i (fun j hj e => by
      obtain ⟨q, hq, rfl⟩ := List.mem_map.1 hj
      exact hi (by have : q = i := by omega
                   exact this ▸ hq)), hm i, List.mem_append]
    exact ⟨fun h => h.resolve_left hi, fun h => .inr h⟩
/-! ### What each call keeps -/

theorem addW_part {s : St} {W : Wr17} {r : List V} {l : List Nat} (h : Part s (W.ids ++ l)) (hoff : W.on = false → W.ids = []) :
    Part (addW s W r).2 ((addW s W r).1.2.ids ++ l) ∧ ((addW s W r).1.2.on = false → (addW s W r).1.2.ids = []) := by
  unfold addW
  split
  · exact ⟨h, hoff⟩
  · rename_i hon
    split
    · exact ⟨h, hoff⟩
    · split
      · rename_i hk
        refine ⟨?_, fun h => by cases h⟩
        have h2 := h.take (W.buf ++ rowB r) hk
        refine h2.perm ?_
        rw [List.append_assoc]
        rw [← List.append_assoc, ← List.append_assoc]
        exact List.Perm.append_right _ List.perm_append_comm
      · exact ⟨h.drop, fun _ => rfl⟩
theorem doneW_part {s : St} {W : Wr17} {l : List Nat} (h : Part s (W.ids ++ l)) (hoff : W.on = false → W.ids = []) : Part (doneW s W).2 ((doneW s W).1.2.1 ++ l) := by
  unfold doneW
  split
  · rename_i hon
    rw [hoff hon] at h
    exact h
  · split
    · exact h
    · split
      · rename_i hk
        have h2 := h.take W.buf hk
        refine h2.perm ?_
        rw [← List.append_assoc]
        exact List.Perm.append_right _ List.perm_append_comm
      · exact h.drop
theorem cancelW_part {s : St} {W : Wr17} {l : List Nat} (h : Part s (W.ids ++ l)) (hoff : W.on = false → W.ids = []) : Part (cancelW s W) l := by
  unfold cancelW
  split
  · rename_i hon
    rw [hoff hon] at h
    exact h
  · exact h.drop
theorem addW_ok {s : St} (h : okS s) (W : Wr17) (r : List V) : okS (addW s W r).2 := by
  unfold addW
  split
  · exact h
  · split
    · exact h
    · split
      · exact storeK_ok h _ _
      · exact dropS_ok _ _ h
theorem doneW_ok {s : St} (h : okS s) (W : Wr17) : okS (doneW s W).2 := by
  unfold doneW
  split
  · exact h
  · split
    · exact h
    · split
      · exact storeK_ok h _ _
      · exact dropS_ok _ _ h
theorem cancelW_ok {s : St} (h : okS s) (W : Wr17) : okS (cancelW s W) := by
  unfold cancelW
  split
  · exact h
  · exact dropS_ok _ _ h
theorem addW_length (s : St) (W : Wr17) (r : List V) : (addW s W r).2.length = s.length := by
  unfold addW
  split
  · rfl
  · split
    · rfl
    · split
      · exact storeK_length _ _ _
      · exact dropS_length _ _
theorem doneW_length (s : St) (W : Wr17) : (doneW s W).2.length = s.length := by
  unfold doneW
  split
  · rfl
  · split
    · rfl
    · split
      · exact storeK_length _ _ _
      · exact dropS_length _ _
theorem cancelW_length (s : St) (W : Wr17) : (cancelW s W).length = s.length := by
  unfold cancelW
  split
  · rfl
  · exact dropS_length _ _

end Go.Proofs.Ytoagpaphghgkmaa

/-
  Rows that are added one after another, and done: what Put comes to. No program.
-/
namespace Go.Proofs.Ytoagpaphghgkmaa
open Go.RowKit

/-! ### Pages that are taken in parts -/

theorem takeS_add (s : St) (K : Nat) : ∀ k, (takeS 0 (K + k) s).1 = (takeS 0 K s).1 ++ (takeS 0 k (takeS 0 K s).2).1 ∧ (takeS 0 (K + k) s).2 = (takeS 0 k (takeS 0 K s).2).2
  | 0 => by rw [Nat.add_zero, takeS_zero]; exact ⟨(List.append_nil _).symm, rfl⟩
  | k + 1 => by
    obtain ⟨h1, h2⟩ := takeS_more s (K + k) 0
    obtain ⟨h3, h4⟩ := takeS_more (takeS 0 K s).2 k 0
    obtain ⟨h5, h6⟩ := takeS_add s K k
    rw [← Nat.add_assoc]
    exact ⟨by rw [h1, h3, h5, h6, List.append_assoc], by rw [h2, h4, h6]⟩
theorem idsK_add (s : St) (b : List UInt8) (K k : Nat) : idsK s (K + k) = idsK s K ++ idsK (storeK s b K) k := by
  have h := (takeS_add s K k).1
  unfold idsK at h ⊢
  rw [h, takeS_pat (takeS 0 K s).2 (storeK s b K) k 0 (storeK_pat s b K).symm]
theorem writes_parts : ∀ (a c : List Nat) (B : List UInt8) (s : St), writesS (a ++ c) B s = writesS c (B.drop (56 * a.length)) (writesS a B s)
  | [], c, B, s => by simp [writesS]
  | id :: t, c, B, s => by
    rw [List.cons_append]
    simp only [writesS]
    rw [writes_parts t c, List.drop_drop, List.length_cons]
    congr 2
    omega
theorem storeK_add {s : St} (B : List UInt8) {K : Nat} (k : Nat) (h : K + usedS s ≤ s.length) : storeK s B (K + k) = storeK (storeK s B K) (B.drop (56 * K)) k := by
  have h1 : storeK s B (K + k) = writesS (idsK s (K + k)) B s := rfl
  have h2 : storeK (storeK s B K) (B.drop (56 * K)) k = writesS (idsK (storeK s B K) k) (B.drop (56 * K)) (storeK s B K) := rfl
  rw [h1, h2, idsK_add s B K k, writes_parts, idsK_length h]
  rfl
/-- All that were taken are let go. -/
theorem storeK_dropped {s : St} (b : List UInt8) (K : Nat) : dropS (storeK s b K) (intsN (idsK s K)) = s := storeK_back s b K

/-! ### A writer behind so many rows -/

def fullK (rows : List (List V)) : Nat := (rowsB rows).length / 56
def atW (s : St) (rows : List (List V)) : Wr17 := ⟨idsK s (fullK rows), (rowsB rows).drop (56 * fullK rows), rows.length, true⟩
theorem atW_nil (s : St) : atW s [] = newW ∧ storeK s (rowsB []) (fullK []) = s := by
  have h : fullK [] = 0 := rfl
  unfold atW
  rw [h]
  exact ⟨by rw [(storeK_zero s []).1]; rfl, (storeK_zero s _).2⟩
theorem fullK_snoc {s : St} (rows : List (List V)) (r : List V) : ((atW s rows).buf ++ rowB r).length / 56 + fullK rows = fullK (rows ++ [r]) := by
  unfold fullK atW fullK
  simp only
  rw [rowsB_snoc, List.length_append, List.length_append, List.length_drop]
  omega
/-- A row more, that has room. -/
theorem addW_room {s : St} {rows : List (List V)} {r : List V} (hm : mayR r = 0) (h : fullK (rows ++ [r]) + usedS s ≤ s.length) : addW (storeK s (rowsB rows) (fullK rows)) (atW s rows) r = ((0, atW s (rows ++ [r])), storeK s (rowsB (rows ++ [r])) (fullK (rows ++ [r]))) := by
  have hk := fullK_snoc (s := s) rows r
  have hK : fullK rows + usedS s ≤ s.length := by omega
  have hle : 56 * fullK rows ≤ (rowsB rows).length := by unfold fullK; omega
  have hu := storeK_used (b := rowsB rows) hK
  have hl := storeK_length s (rowsB rows) (fullK rows)
  have hb : (atW s rows).buf ++ rowB r = (rowsB (rows ++ [r])).drop (56 * fullK rows) := by
    rw [rowsB_snoc, List.drop_append_of_le_length hle]
    rfl
  have hpre : storeK s (rowsB rows) (fullK rows) = storeK s (rowsB (rows ++ [r])) (fullK rows) := by
    rw [rowsB_snoc]
    exact (storeK_prefix (rowB r) hK hle).symm
  unfold addW
  rw [if_neg (by simp [atW]), if_neg (by simp [hm]), if_pos (by rw [hl, hu]; omega)]
  have e1 : (atW s rows).ids ++ idsK (storeK s (rowsB rows) (fullK rows)) (((atW s rows).buf ++ rowB r).length / 56) = idsK s (fullK (rows ++ [r])) := by
    rw [← hk, Nat.add_comm, idsK_add s (rowsB rows)]
    rfl
  have e2 : ((atW s rows).buf ++ rowB r).drop (56 * (((atW s rows).buf ++ rowB r).length / 56)) = (rowsB (rows ++ [r])).drop (56 * fullK (rows ++ [r])) := by
    conv => lhs; rw [hb]
    rw [List.drop_drop, ← hb]
    congr 1
    omega
  have e3 : storeK (storeK s (rowsB rows) (fullK rows)) ((atW s rows).buf ++ rowB r) (((atW s rows).buf ++ rowB r).length / 56) = storeK s (rowsB (rows ++ [r])) (fullK (rows ++ [r])) := by
    rw [← hk, Nat.add_comm _ (fullK rows), storeK_add (rowsB (rows ++ [r])) _ hK, ← hpre, ← hb]
  rw [e1, e2, e3]
  unfold atW
  simp only [List.length_append, List.length_singleton]
/-- A row more, that has none. -/
theorem addW_none {s : St} {rows : List (List V)} {r : List V} (hm : mayR r = 0) (hK : fullK rows + usedS s ≤ s.length) (h : ¬ fullK (rows ++ [r]) + usedS s ≤ s.length) : addW (storeK s (rowsB rows) (fullK rows)) (atW s rows) r = ((4, offW), s) := by
  have hk := fullK_snoc (s := s) rows r
  have hu := storeK_used (b := rowsB rows) hK
  have hl := storeK_length s (rowsB rows) (fullK rows)
  unfold addW
  rw [if_neg (by simp [atW]), if_neg (by simp [hm]), if_neg (by rw [hl, hu]; omega)]
  have e : dropS (storeK s (rowsB rows) (fullK rows)) (intsN (atW s rows).ids) = s := storeK_dropped _ _
  rw [e]
/-- A row that may not be laid. -/
theorem addW_bad {s s' : St} {rows : List (List V)} {r : List V} (hm : mayR r ≠ 0) : addW s' (atW s rows) r = ((mayR r, atW s rows), s') := by
  unfold addW
  rw [if_neg (by simp [atW]), if_pos hm]
theorem cancelW_at {s : St} (rows : List (List V)) : cancelW (storeK s (rowsB rows) (fullK rows)) (atW s rows) = s := by
  unfold cancelW
  rw [if_neg (by simp [atW])]
  exact storeK_dropped _ _
/-- It is done. -/
theorem doneW_at {s : St} {rows : List (List V)} (hm : ∀ r ∈ rows, mayR r = 0) (hK : fullK rows + usedS s ≤ s.length) :
    (((doneW (storeK s (rowsB rows) (fullK rows)) (atW s rows)).1.2.1, (doneW (storeK s (rowsB rows) (fullK rows)) (atW s rows)).1.1), (doneW (storeK s (rowsB rows) (fullK rows)) (atW s rows)).2) = putR s rows ∧
    ((putR s rows).1.2 = 0 → (doneW (storeK s (rowsB rows) (fullK rows)) (atW s rows)).1.2.2 = rows.length) := by
  have hu := storeK_used (b := rowsB rows) hK
  have hl := storeK_length s (rowsB rows) (fullK rows)
  have hn := needS_nat (rowsB rows).length
  have hge := needS_ge (rowsB rows).length
  rw [putR_all hm]
  unfold doneW
  rw [if_neg (by simp [atW])]
  by_cases hb : (atW s rows).buf = []
  · rw [if_pos hb]
    have hlen : (rowsB rows).length ≤ 56 * fullK rows := List.drop_eq_nil_iff.1 hb
    have hf : fullK rows = (needS ((rowsB rows).length : Int)).toNat := by
      rw [hn]
      unfold fullK at hlen ⊢
      omega
    have hno : ¬ (s.length : Int) - usedS s < needS ((rowsB rows).length : Int) := by omega
    rw [if_neg hno, ← hf]
    exact ⟨rfl, fun _ => rfl⟩
  · rw [if_neg hb]
    have hlen : 56 * fullK rows < (rowsB rows).length := by
      rcases Nat.lt_or_ge (56 * fullK rows) (rowsB rows).length with h | h
      · exact h
      · exact absurd (List.drop_eq_nil_iff.2 h) hb
    have hf : (needS ((rowsB rows).length : Int)).toNat = fullK rows + 1 := by
      rw [hn]
      unfold fullK at hlen ⊢
      omega
    by_cases hr : 1 + usedS (storeK s (rowsB rows) (fullK rows)) ≤ (storeK s (rowsB rows) (fullK rows)).length
    · rw [if_pos hr]
      rw [hl, hu] at hr
      have hno : ¬ (s.length : Int) - usedS s < needS ((rowsB rows).length : Int) := by omega
      rw [if_neg hno, hf, idsK_add s (rowsB rows) (fullK rows) 1, storeK_add (rowsB rows) 1 hK]
      exact ⟨rfl, fun _ => rfl⟩
    · rw [if_neg hr]
      rw [hl, hu] at hr
      have hyes : (s.length : Int) - usedS s < needS ((rowsB rows).length : Int) := by omega
      rw [if_pos hyes]
      have e : dropS (storeK s (rowsB rows) (fullK rows)) (intsN (atW s rows).ids) = s := storeK_dropped _ _
      rw [e]
      exact ⟨rfl, fun h => by cases h⟩
/-- The first that can't be laid, and that there is no room for the next. -/
theorem putR_at_bad {s : St} {rows : List (List V)} {j : Nat} (hj : j < rows.length) (h : ∀ r ∈ rows.take j, mayR r = 0) (hbad : mayR rows[j] ≠ 0) (hK : fullK (rows.take j) + usedS s ≤ s.length) : putR s rows = (([], mayR rows[j]), s) := putR_bad hj h hbad hK
theorem putR_at_full {s : St} {rows : List (List V)} {j : Nat} (hj : j < rows.length) (h : ∀ r ∈ rows.take (j + 1), mayR r = 0) (hu : usedS s ≤ s.length) (hK : ¬ fullK (rows.take j ++ [rows[j]]) + usedS s ≤ s.length) : putR s rows = (([], 4), s) := by
  rw [← List.take_succ_eq_append_getElem hj] at hK
  unfold fullK at hK
  refine putR_full (K := s.length - usedS s) h (by omega) ?_
  omega

end Go.Proofs.Ytoagpaphghgkmaa

/-
  Pages that a writer has taken and lets go again: the store as it was, less what it had ahead. No program.
-/
namespace Go.Proofs.Ytoagpaphghgkmaa
open Go.RowKit

theorem dropS_in (ids : List Nat) (s : St) (i : Nat) (hi : i ∈ ids) : (dropS s (intsN ids))[i]? = if i < s.length then some none else none := by
  by_cases h : i < s.length
  · rw [if_pos h]
    exact dropS_self ids s i hi h
  · rw [if_neg h, List.getElem?_eq_none]
    rw [dropS_length]
    omega
theorem dropS_out (ids : List Nat) (s : St) (i : Nat) (hi : i ∉ ids) : (dropS s (intsN ids))[i]? = s[i]? :=
  dropS_other _ s i fun j hj e => by
    obtain ⟨q, hq, rfl⟩ := List.mem_map.1 hj
    exact hi (by have : q = i := by omega
                 exact this ▸ hq)
/-- What was taken since is free again, whatever else is let go. -/
theorem dropS_taken (s : St) (b : List UInt8) (k : Nat) (a : List Nat) : dropS (storeK s b k) (intsN (a ++ idsK s k)) = dropS s (intsN a) := by
  apply List.ext_getElem?
  intro i
  have hlen := storeK_length s b k
  by_cases ha : i ∈ a
  · rw [dropS_in _ _ i (List.mem_append.2 (.inl ha)), dropS_in _ _ i ha, hlen]
  · rw [dropS_out a s i ha]
    by_cases hi : i ∈ idsK s k
    · have hf := takeS_free k 0 s i hi
      rw [Nat.sub_zero] at hf
      rw [dropS_in _ _ i (List.mem_append.2 (.inr hi)), hlen, if_pos (List.getElem?_eq_some_iff.1 hf).1, hf]
    · rw [dropS_out _ _ i (fun h => (List.mem_append.1 h).elim ha hi)]
      exact writesS_other _ _ _ _ hi

end Go.Proofs.Ytoagpaphghgkmaa

/-
  A row of the call's own from some place on (b = b[56:]): it is read, cut again, and appended to. Over any program.
-/
namespace Go.Proofs.Ytoagpaphghgkmaa
open Go.RowKit

/-- What is left of a row of one's own, of elements of one cell. -/
def OwnT (base : Nat) (e : TypeId) (w : World) (v : Value) (xs : List Value) : Prop :=
  (xs = [] ∧ (v = .slice none 0 0 ∨ ∃ x, v = .slice (some x) 0 0)) ∨ ∃ g off cap pre, v = .slice (some ⟨g, off, none⟩) xs.length cap ∧ pre.length = off ∧ w.ownsRow base e 1 (.slice (some ⟨g, 0, none⟩) (off + xs.length) (off + cap)) (off + xs.length) (pre ++ xs)

theorem OwnT.nil (base : Nat) (e : TypeId) (w : World) : OwnT base e w (.slice none 0 0) [] := .inl ⟨rfl, .inl rfl⟩
theorem OwnT.of_owns {base : Nat} {e : TypeId} {w : World} {v : Value} {n : Nat} {xs : List Value} (h : w.ownsRow base e 1 v n xs) : OwnT base e w v xs := by
  have hl : xs.length = n := by simpa using h.1
  rcases h.2 with ⟨h1, h2⟩ | ⟨g, cap, cur, h1, -⟩
  · subst h1
    exact .inl ⟨List.eq_nil_of_length_eq_zero (by omega), .inl rfl⟩
  · subst h1
    refine .inr ⟨g, 0, cap, [], by rw [hl], rfl, ?_⟩
    rw [Nat.zero_add, Nat.zero_add, hl, List.nil_append]
    exact h
theorem OwnT.shape {base : Nat} {e : TypeId} {w : World} {v : Value} {xs : List Value} (h : OwnT base e w v xs) : ∃ a c, v = .slice a xs.length c ∧ xs.length ≤ c ∧ c ≤ maxLen := by
  rcases h with ⟨rfl, rfl | ⟨x, rfl⟩⟩ | ⟨g, off, cap, pre, rfl, -, h⟩
  · exact ⟨none, 0, rfl, Nat.le_refl _, by simp [maxLen]⟩
  · exact ⟨_, 0, rfl, Nat.le_refl _, by simp [maxLen]⟩
  · obtain ⟨a, c, e1, e2, e3⟩ := own_shapeP h
    simp only [Value.slice.injEq] at e1
    obtain ⟨-, -, e4⟩ := e1
    exact ⟨_, cap, rfl, by omega, by omega⟩
theorem OwnT.rd {base : Nat} {e : TypeId} {w : World} {v : Value} {xs : List Value} (h : OwnT base e w v xs) : RdV w v xs := by
  rcases h with ⟨rfl, rfl | ⟨x, rfl⟩⟩ | ⟨g, off, cap, pre, rfl, hp, h⟩
  · exact .inl ⟨rfl, rfl⟩
  · exact .inr ⟨x, 0, rfl, Nat.le_refl _, by simp [maxLen], fun i u hu => by simp at hu⟩
  · obtain ⟨a, c, e1, e2, e3⟩ := own_shapeP h
    simp only [Value.slice.injEq] at e1
    obtain ⟨-, -, e4⟩ := e1
    refine .inr ⟨_, cap, rfl, by omega, by omega, fun i u hu => ?_⟩
    have := h.cells (g := g) rfl (off + i) u (by rw [List.getElem?_append_right (by omega), hp, Nat.add_sub_cancel_left]; exact hu)
    rw [add_at, Nat.zero_add] at this
    rw [add_at]
    exact this
theorem OwnT.lt {base : Nat} {e : TypeId} {w : World} {v : Value} {xs : List Value} (h : OwnT base e w v xs) (hne : xs ≠ []) {k : Nat} (hk : v.ownBlock = some k) : base ≤ k ∧ k < w.heap.size := by
  rcases h with ⟨h, -⟩ | ⟨g, off, cap, pre, rfl, -, h⟩
  · exact absurd h hne
  · exact h.lt k hk
theorem OwnT.onlyS {X : Nat → Prop} {base : Nat} {e : TypeId} {w w' : World} {v : Value} {xs : List Value} (h : OwnT base e w v xs) (ho : OnlyS X w w') (hx : xs ≠ [] → ∀ k, v.ownBlock = some k → ¬ X k) (hx2 : ∀ k, X k → k < base ∨ v.ownBlock ≠ some k) : OwnT base e w' v xs := by
  rcases h with h | ⟨g, off, cap, pre, rfl, hp, h⟩
  · exact .inl h
  · refine .inr ⟨g, off, cap, pre, rfl, hp, h.1, ?_⟩
    rcases h.2 with ⟨h1, -⟩ | ⟨g', cap', cur, h1, h2, h3, h4⟩
    · cases h1
    · simp only [Value.slice.injEq, Option.some.injEq, Addr.mk.injEq, and_true, true_and] at h1
      obtain ⟨rfl, rfl⟩ := h1
      refine .inr ⟨g, _, cur, rfl, h2, (ho.block g (Array.getElem?_eq_some_iff.1 h3).1 (fun hX => ?_)).trans h3, h4⟩
      rcases hx2 g hX with h5 | h5
      · omega
      · exact h5 rfl
theorem OwnT.ext {base : Nat} {e : TypeId} {w w' : World} {v : Value} {xs : List Value} (h : OwnT base e w v xs) (hx : Ext w w') : OwnT base e w' v xs := h.onlyS (X := fun _ => False) (OnlyS.of_ext hx) (fun _ _ _ h => h) (fun _ h => h.elim)
/-- Another block changes. -/
theorem OwnT.beside {base : Nat} {e : TypeId} {w w' : World} {v : Value} {xs : List Value} {X : Nat → Prop} (h : OwnT base e w v xs) (ho : OnlyS X w w') (hx : ∀ k, X k → k < base ∨ v.ownBlock ≠ some k) : OwnT base e w' v xs :=
  h.onlyS ho (fun hne k hk hX => by
    rcases hx k hX with h1 | h1
    · have := (h.lt hne hk).1; omega
    · exact h1 hk) hx

/-- Behind the first k. -/
theorem OwnT.dropG {P : Program} {t e : TypeId} (ht : P.underlying t = some (.slice e)) {i0 : TypeInfo} (hi : P.info? e = some i0) (hz : i0.size = 1) {base : Nat} {w : World} {ao : Option Addr} {N cap : Nat} {xs : List Value} (h : OwnT base e w (.slice ao N cap) xs) (k : Nat) (hk : k ≤ N) :
    ∃ a c, OwnT base e w (.slice a (N - k) c) (xs.drop k) ∧ ((Value.slice a (N - k) c).ownBlock = (Value.slice ao N cap).ownBlock) ∧ ∀ W, (Instr.slice t (.slice ao N cap) (some (.int .i64 (k : Int))) none none).run P W = .ok (.slice a (N - k) c) W := by
  rcases h with ⟨rfl, h1 | ⟨x, h1⟩⟩ | ⟨g, off, cap', pre, h1, hp, h⟩
  · simp only [Value.slice.injEq] at h1
    obtain ⟨rfl, rfl, rfl⟩ := h1
    obtain rfl : k = 0 := by omega
    refine ⟨none, 0, .inl ⟨rfl, .inl rfl⟩, rfl, fun W => ?_⟩
    simp [Instr.slice, Instr.sliceBounds, Instr.sliceBound, run_underlying ht, sizeOf, typeInfo, hi, go_sem]
  · simp only [Value.slice.injEq] at h1
    obtain ⟨rfl, rfl, rfl⟩ := h1
    obtain rfl : k = 0 := by omega
    refine ⟨some x, 0, .inl ⟨rfl, .inr ⟨x, rfl⟩⟩, rfl, fun W => ?_⟩
    simp [Instr.slice, Instr.sliceBounds, Instr.sliceBound, run_underlying ht, sizeOf, typeInfo, hi, go_sem]
  · simp only [Value.slice.injEq] at h1
    obtain ⟨rfl, rfl, rfl⟩ := h1
    obtain ⟨a, c, e1, e2, e3⟩ := own_shapeP h
    simp only [Value.slice.injEq] at e1
    obtain ⟨-, -, e4⟩ := e1
    have hlo : (k : Int) ≤ (xs.length : Int) := by omega
    have hcap : xs.length ≤ cap := by omega
    by_cases hc : cap = k
    · have hd : xs.drop k = [] := List.drop_eq_nil_of_le (by omega)
      refine ⟨some ⟨g, off, none⟩, cap - k, ?_, rfl, fun W => ?_⟩
      · rw [hd, show xs.length - k = 0 by omega, show cap - k = 0 by omega]
        exact .inl ⟨rfl, .inr ⟨_, rfl⟩⟩
      · subst hc
        simp [Instr.slice, Instr.sliceBounds, Instr.sliceBound, run_underlying ht, sizeOf, typeInfo, hi, go_sem, hk]
    · refine ⟨some ⟨g, off + k, none⟩, cap - k, ?_, rfl, fun W => ?_⟩
      · refine .inr ⟨g, off + k, cap - k, pre ++ xs.take k, by rw [List.length_drop], by rw [List.length_append, List.length_take, hp]; omega, ?_⟩
        rw [List.length_drop, List.append_assoc, List.take_append_drop, show off + k + (xs.length - k) = off + xs.length by omega, show off + k + (cap - k) = off + cap by omega]
        exact h
      · simp [Instr.slice, Instr.sliceBounds, Instr.sliceBound, run_underlying ht, sizeOf, typeInfo, hi, hz, go_sem, hk, hc, add_at]
theorem OwnT.drop {P : Program} {t e : TypeId} (ht : P.underlying t = some (.slice e)) {i0 : TypeInfo} (hi : P.info? e = some i0) (hz : i0.size = 1) {base : Nat} {w : World} {ao : Option Addr} {N cap : Nat} {xs : List Value} (h : OwnT base e w (.slice ao N cap) xs) (k : Nat) (hk : k ≤ N) :
    ∃ a c, OwnT base e w (.slice a (N - k) c) (xs.drop k) ∧ (xs.drop k ≠ [] → (Value.slice a (N - k) c).ownBlock = (Value.slice ao N cap).ownBlock) ∧ ∀ W, (Instr.slice t (.slice ao N cap) (some (.int .i64 (k : Int))) none none).run P W = .ok (.slice a (N - k) c) W := by
  obtain ⟨a, c, h1, h2, h3⟩ := h.dropG ht hi hz k hk
  exact ⟨a, c, h1, fun _ => h2, h3⟩

/-- A row of another type changes, and a block below. -/
theorem OwnT.beside_row {base base' n g : Nat} {e e' : TypeId} (hne : e ≠ e') {w w' : World} {v u : Value} {xs ys : List Value} (h : OwnT base e w v xs) (h' : w.ownsRow base' e' 1 u n ys) (hg : g < base) (ho : OnlyS (fun j => j = g ∨ u.ownBlock = some j) w w') : OwnT base e w' v xs := by
  rcases h with h | ⟨g0, off, cap, pre, rfl, hp, h⟩
  · exact .inl h
  · have hap : ∀ k, (Value.slice (some ⟨g0, 0, none⟩) (off + xs.length) (off + cap)).ownBlock = some k → u.ownBlock ≠ some k := fun k h1 h2 => by
      obtain ⟨c, fz, e1⟩ := Lib.ownsRow_kind h k h1
      obtain ⟨c', fz', e2⟩ := Lib.ownsRow_kind h' k h2
      rw [e1] at e2
      injection e2 with e3
      injection e3 with e4 e5
      exact absurd e5 hne
    refine .inr ⟨g0, off, cap, pre, rfl, hp, h.1, ?_⟩
    have hg0 := (h.lt g0 rfl).1
    rcases h.2 with ⟨h1, -⟩ | ⟨g', cap', cur, h1, h2, h3, h4⟩
    · cases h1
    · simp only [Value.slice.injEq, Option.some.injEq, Addr.mk.injEq, and_true, true_and] at h1
      obtain ⟨rfl, rfl⟩ := h1
      refine .inr ⟨g0, _, cur, rfl, h2, (ho.block g0 (Array.getElem?_eq_some_iff.1 h3).1 (fun hX => ?_)).trans h3, h4⟩
      rcases hX with h5 | h5
      · omega
      · exact hap g0 rfl h5

/-- append(l, s...) to what is left. -/
theorem wpList_append_tailG {P : Program} {w : World} {ops : Array Oper} {rest : List Oper} {o : Oper} {a : Act} {Q : Exit → Act → World → Prop} (hgd : o.guard = none) (s x : Operand) (t : TypeId)
    (ho : o.op = .call { callee := .builtin .append, args := #[s, x], argTypes := #[t, t] })
    (base : Nat) (e : TypeId) (i : TypeInfo) (z : Value) (bytes : Nat) (ht : P.underlying t = some (.slice e)) (hi : P.info? e = some i) (hz : i.zero = some z)
    (hsize : i.size = 1) (hby : i.bytes = bytes) (hzs : z.cells.size = 1)
    (v : Value) (xs : List Value) (hs : a.eval s = v) (hown : OwnT base e w v xs)
    (u : Value) (news : List Value) (hx : a.eval x = u) (hu : RdV w u news) (h1 : ∀ u ∈ news, u.oneCell' = true)
    (h63 : xs.length + news.length ≤ maxLen) (hbytes : (xs.length + news.length) * bytes ≤ 140737488355328) (hbase : base ≤ w.heap.size)
    (h : ∀ v' w', OwnT base e w' v' (xs ++ news) → (∀ k, v'.ownBlock = some k → v.ownBlock = some k ∨ (w.heap.size ≤ k ∧ k < w'.heap.size)) → Below base w w' → OnlyS (fun k => v.ownBlock = some k ∧ base ≤ k) w w' → (∀ (b' n' : Nat) (e' : TypeId) (u' : Value) (ys : List Value), e ≠ e' → w.ownsRow b' e' 1 u' n' ys → w'.ownsRow b' e' 1 u' n' ys) → wpList P ops Q rest (a.put o.dst v') w') : wpList P ops Q (o :: rest) a w := by
  rcases hu with ⟨rfl, rfl⟩ | ⟨ad, cap0, rfl, h2, h3, h4⟩
  · obtain ⟨va, vc, rfl, hv1, hv2⟩ := hown.shape
    refine wpList_plain hgd fun K hK => ?_
    have hrun : (Builtin.append_ #[t, t] o.type #[.slice va xs.length vc, .slice none 0 0]).run P w = .ok (.slice va xs.length vc) w := by
      cases va <;> simp [Builtin.append_, run_underlying ht, sizeOf, typeInfo, hi, Builtin.lenOf, Builtin.firstCells, hv1, storeCells]
    unfold Oper.wp
    simp [execOp, ho, resolve, invoke, builtin, hs, hx, hrun, Result.andThen]
    exact hK _ _ (h _ w (by rw [List.append_nil]; exact hown) (fun _ hk => .inl hk) (Below.refl _ _) (OnlyS.refl _ _) (fun _ _ _ _ _ _ h => h))
  · rcases hown with ⟨rfl, hv⟩ | ⟨g, off, cap, pre, rfl, hp, hown⟩
    · by_cases hnil : news = []
      · subst hnil
        refine wpList_plain hgd fun K hK => ?_
        have hrun : (Builtin.append_ #[t, t] o.type #[v, .slice (some ad) ([] : List Value).length cap0]).run P w = .ok v w := by
          have hfc := run_firstCells_some (P := P) w i.size 0 ad 0 cap0 [] (by simp) (fun j u hj => by simp at hj)
          rcases hv with rfl | ⟨x0, rfl⟩ <;> simp [Builtin.append_, run_underlying ht, sizeOf, typeInfo, hi, Builtin.lenOf, hfc, storeCells]
        unfold Oper.wp
        simp [execOp, ho, resolve, invoke, builtin, hs, hx] at hrun ⊢
        simp [hrun, Result.andThen]
        exact hK _ _ (h _ w (.inl ⟨rfl, hv⟩) (fun _ hk => .inl hk) (Below.refl _ _) (OnlyS.refl _ _) (fun _ _ _ _ _ _ h => h))
      · have hpos : 0 < news.length := List.length_pos_iff.2 hnil
        obtain ⟨ao, hao, hnone⟩ : ∃ ao, v = .slice ao 0 0 ∧ (ao = none → (0 : Nat) = 0 ∧ (0 : Nat) = 0) := by
          rcases hv with rfl | ⟨x0, rfl⟩
          · exact ⟨none, rfl, fun _ => ⟨rfl, rfl⟩⟩
          · exact ⟨some x0, rfl, fun _ => ⟨rfl, rfl⟩⟩
        subst hao
        refine wpList_append_grows _ hgd s x t ho e i z 1 bytes ht hi hz hsize hby hzs (by decide) ao 0 0 [] hs hnone rfl (fun b hb j u hu => by simp at hu) ad news.length cap0 news hx (by rw [Nat.mul_one]) h4 h1 (by omega) (by simpa using h63) (by simpa using hbytes) fun v' w' h5 h6 => ?_
        rw [List.nil_append] at h5
        refine h v' w' (.of_owns (owns_base h5 hbase)) (fun k hk => .inr (h5.lt k hk)) ⟨h6.os, h6.tape, h6.output, by have := h6.size; omega, fun k hk => h6.block k (by omega) (by simp)⟩ ⟨h6.os, h6.tape, h6.output, h6.size, fun k hk _ => h6.block k hk (by simp)⟩ ?_
        exact fun b' n' e' u' ys _ h' => owns_extS h' ⟨h6.os, h6.tape, h6.output, h6.size, fun k hk => h6.block k hk (by simp)⟩
    · obtain ⟨a0, c0, e1, e2, e3⟩ := own_shapeP hown
      simp only [Value.slice.injEq] at e1
      obtain ⟨-, -, e4⟩ := e1
      have hown2 := hown.2
      rcases hown2 with ⟨e5, -⟩ | ⟨g', cap', cur, e5, hb, hg, hnc, hcm, hcs, htake⟩
      · cases e5
      simp only [Value.slice.injEq, Option.some.injEq, Addr.mk.injEq, and_true, true_and] at e5
      obtain ⟨rfl, rfl⟩ := e5
      refine wpList_append_arg w hgd s x t ho e i z 1 bytes ht hi hz hsize hby hzs (by decide) g off xs.length cap xs hs (by rw [Nat.mul_one]) (fun j u hj => ?_) ad news.length cap0 news hx (by rw [Nat.mul_one]) h4 h1 (fun hroom j hj => ⟨?_, hown.frozenAt _⟩) h63 hbytes (fun hroom => ?_) (fun hgrow v' w' h5 h6 => ?_)
      · have := hown.cells (g := g) rfl (off + j) u (by rw [List.getElem?_append_right (by omega), hp, Nat.add_sub_cancel_left]; exact hj)
        rw [add_at, Nat.zero_add] at this
        exact this
      · rw [cell_of_row w g _ cur e (0, 0) hg, Array.getElem?_eq_getElem (by rw [hcs]; omega)]
        rfl
      · obtain ⟨w', hr1, hr2, hr3⟩ := run_append_fits (P := P) w base t o.type e i 1 ht hi hsize g (off + xs.length) (off + cap) (pre ++ xs) hown ad news.length cap0 news (by rw [Nat.mul_one]) h4 h1 (by omega)
        have hr4 := run_append_room_cells (P := P) w t o.type e i ht hi g 0 (off + xs.length) (off + cap) ad news.length cap0 news (by rw [hsize, Nat.mul_one]) h4 h1 (by omega) (fun j hj => by
          rw [hsize, Nat.mul_one, Nat.zero_add, cell_of_row w g _ cur e (0, 0) hg, Array.getElem?_eq_getElem (by rw [hcs]; omega)]
          rfl) (fun j hj => hown.frozenAt _)
        rw [hr1, hsize, Nat.mul_one, Nat.zero_add] at hr4
        have hw : w' = w.setCells g (off + xs.length) news := by
          injection hr4
        rw [Nat.mul_one, ← hw]
        have hgl := (hown.lt g rfl).2
        refine h _ w' (.inr ⟨g, off, cap, pre, by rw [List.length_append], hp, ?_⟩) (fun _ hk => .inl hk) ⟨hr3.os, hr3.tape, hr3.output, by have := hr3.size; omega, fun k hk => hr3.block k (by omega) (fun e => ?_)⟩ ⟨hr3.os, hr3.tape, hr3.output, hr3.size, fun k hk hX => hr3.block k hk (fun e => hX ?_)⟩ (fun b' n' e' u' ys hne h' => ?_)
        · rw [List.length_append, ← List.append_assoc, ← Nat.add_assoc]
          exact hr2
        · have := Option.some.inj e
          omega
        · have := Option.some.inj e
          subst this
          exact ⟨rfl, hb⟩
        · refine owns_beside h' (v := .slice (some ⟨g, 0, none⟩) 0 0) ⟨hr3.os, hr3.tape, hr3.output, hr3.size, fun k hk hX => hr3.block k hk (fun e => hX ?_)⟩ (fun k hk1 hk2 => ?_)
          · have := Option.some.inj e
            subst this
            rfl
          · obtain ⟨c3, fz3, e6⟩ := Lib.ownsRow_kind h' k hk1
            have hkg : g = k := Option.some.inj hk2
            subst hkg
            obtain ⟨c4, fz4, e7⟩ := Lib.ownsRow_kind hown g rfl
            rw [e6] at e7
            injection e7 with e8
            injection e8 with e9 e10
            exact absurd e10.symm hne
      · refine h v' w' (.of_owns (owns_base h5 hbase)) (fun k hk => .inr (h5.lt k hk)) ⟨h6.os, h6.tape, h6.output, by have := h6.size; omega, fun k hk => h6.block k (by omega) (by simp)⟩ ⟨h6.os, h6.tape, h6.output, h6.size, fun k hk _ => h6.block k hk (by simp)⟩ ?_
        exact fun b' n' e' u' ys _ h' => owns_extS h' ⟨h6.os, h6.tape, h6.output, h6.size, fun k hk => h6.block k hk (by simp)⟩
theorem wpList_append_tail {P : Program} {w : World} {ops : Array Oper} {rest : List Oper} {o : Oper} {a : Act} {Q : Exit → Act → World → Prop} (hgd : o.guard = none) (s x : Operand) (t : TypeId)
    (ho : o.op = .call { callee := .builtin .append, args := #[s, x], argTypes := #[t, t] })
    (base : Nat) (e : TypeId) (i : TypeInfo) (z : Value) (bytes : Nat) (ht : P.underlying t = some (.slice e)) (hi : P.info? e = some i) (hz : i.zero = some z)
    (hsize : i.size = 1) (hby : i.bytes = bytes) (hzs : z.cells.size = 1)
    (v : Value) (xs : List Value) (hs : a.eval s = v) (hown : OwnT base e w v xs)
    (u : Value) (news : List Value) (hx : a.eval x = u) (hu : RdV w u news) (h1 : ∀ u ∈ news, u.oneCell' = true)
    (h63 : xs.length + news.length ≤ maxLen) (hbytes : (xs.length + news.length) * bytes ≤ 140737488355328) (hbase : base ≤ w.heap.size)
    (h : ∀ v' w', OwnT base e w' v' (xs ++ news) → Below base w w' → OnlyS (fun k => v.ownBlock = some k ∧ base ≤ k) w w' → (∀ (b' n' : Nat) (e' : TypeId) (u' : Value) (ys : List Value), e ≠ e' → w.ownsRow b' e' 1 u' n' ys → w'.ownsRow b' e' 1 u' n' ys) → wpList P ops Q rest (a.put o.dst v') w') : wpList P ops Q (o :: rest) a w :=
  wpList_append_tailG hgd s x t ho base e i z bytes ht hi hz hsize hby hzs v xs hs hown u news hx hu h1 h63 hbytes hbase fun v' w' a _ b c d => h v' w' a b c d

end Go.Proofs.Ytoagpaphghgkmaa

/-
  A block with these cells: what a call has laid. Over any program.
-/
namespace Go.Proofs.Ytoagpaphghgkmaa
open Go.RowKit Go.BigFrame

/-- A block with these cells. -/
def Blk (W : World) (b : Nat) (xs : List Value) (t : TypeId) : Prop := W.heap[b]? = some (.cells xs.toArray t (0, 0))
theorem Blk.cell {W : World} {b : Nat} {xs : List Value} {t : TypeId} (h : Blk W b xs t) (j : Nat) (u : Value) (hj : xs[j]? = some u) : W.cell? ⟨b, j, none⟩ = some u := by
  unfold World.cell?
  rw [show W.heap[b]? = _ from h]
  simpa using hj
theorem Blk.free {W : World} {b : Nat} {xs : List Value} {t : TypeId} (h : Blk W b xs t) (j : Nat) : W.frozen? ⟨b, j, none⟩ = false := by
  unfold World.frozen?
  rw [show W.heap[b]? = _ from h]
  simp
theorem Blk.lt {W : World} {b : Nat} {xs : List Value} {t : TypeId} (h : Blk W b xs t) : b < W.heap.size := (Array.getElem?_eq_some_iff.1 h).1
theorem Blk.ext {W W' : World} {b : Nat} {xs : List Value} {t : TypeId} (h : Blk W b xs t) (hx : Ext W W') : Blk W' b xs t := (hx.block b h.lt).trans h
theorem Blk.new (W : World) (xs : List Value) (t : TypeId) : Blk (W.alloc (.cells xs.toArray t)) W.heap.size xs t := heap_alloc_new _ _
theorem Blk.set {W : World} {b : Nat} {xs : List Value} {t : TypeId} (h : Blk W b xs t) (j : Nat) (u : Value) : Blk (W.setCell ⟨b, j, none⟩ u) b (xs.set j u) t := by
  unfold Blk at *
  simp [World.setCell, Array.getElem?_modify, h]
theorem Blk.beside {W : World} {b b' : Nat} {xs : List Value} {t : TypeId} (h : Blk W b xs t) (hne : b ≠ b') (j : Nat) (u : Value) : Blk (W.setCell ⟨b', j, none⟩ u) b xs t := by
  unfold Blk at *
  rw [Below.heap_setCell _ _ _ _ hne]
  exact h

end Go.Proofs.Ytoagpaphghgkmaa

/-
  A writer of the program of layer 17: where it lies; whether it has ended; Cancel.
-/
namespace Go.Proofs.Ytoagpaphghgkmaa
open Go.RowKit Go.BigFrame

theorem intsN_ivs (ids : List Nat) : (intsN ids).map (Value.int .i64) = ivs ids := by
  unfold intsN
  rw [List.map_map]
  rfl

/-- A writer's block, its row of pages, what is left of its bytes; it has at most L pages. -/
structure WrT (L : Nat) (w : World) (f p : Nat) (W : Wr17) (vi vr : Value) : Prop where
  blk : Blk w f [.pointer (if W.on = true then some ⟨p, 0, none⟩ else none), vi, vr, .int .i64 W.many] 110
  ids : w.ownsRow (f + 1) 3 1 vi W.ids.length (ivs W.ids)
  rest : OwnT (f + 1) 5 w vr (W.buf.map bv)
  rin : ∀ k, vr.ownBlock = some k → f < k ∧ k < w.heap.size
  few : W.ids.length ≤ L ∧ ∀ i ∈ W.ids, i ≤ 4096
  off : W.on = false → W = offW ∧ vi = .slice none 0 0 ∧ vr = .slice none 0 0
/-- Its own blocks. -/
def ownW (f : Nat) (vi vr : Value) (b : Nat) : Prop := b = f ∨ vi.ownBlock = some b ∨ vr.ownBlock = some b

theorem Blk.onlyS {X : Nat → Prop} {w w' : World} {b : Nat} {xs : List Value} {t : TypeId} (h : Blk w b xs t) (ho : OnlyS X w w') (hx : ¬ X b) : Blk w' b xs t := (ho.block b h.lt hx).trans h
theorem OnlyS.set0 (g i : Nat) (w : World) (u : Value) : OnlyS (fun b => b = g) w (w.setCell ⟨g, i, none⟩ u) := OnlyS.of_onlyP (OnlyP.set g i w u) rfl
theorem OnlyS.step {X : Nat → Prop} {a b c : World} (h : OnlyS X a b) (k : OnlyS X b c) : OnlyS X a c := OnlyS.trans h k fun _ _ h => h
theorem WrT.keep {L : Nat} {X : Nat → Prop} {w w' : World} {f p : Nat} {W : Wr17} {vi vr : Value} (h : WrT L w f p W vi vr) (ho : OnlyS X w w') (hx : ∀ b, X b → ¬ ownW f vi vr b) : WrT L w' f p W vi vr :=
  ⟨h.blk.onlyS ho (fun hX => hx f hX (.inl rfl)), own_onlyS h.ids ho (fun k hk hX => hx k hX (.inr (.inl hk))), h.rest.beside ho (fun k hX => .inr fun e => hx k hX (.inr (.inr e))), fun k hk => ⟨(h.rin k hk).1, Nat.lt_of_lt_of_le (h.rin k hk).2 ho.size⟩, h.few, h.off⟩
theorem WrT.lt {L : Nat} {w : World} {f p : Nat} {W : Wr17} {vi vr : Value} (h : WrT L w f p W vi vr) {b : Nat} (hb : ownW f vi vr b) : b < w.heap.size := by
  rcases hb with rfl | hb | hb
  · exact h.blk.lt
  · exact (h.ids.lt b hb).2
  · exact (h.rin b hb).2
theorem WrT.ended (w : World) (f p : Nat) (h : Blk w f [.pointer none, .slice none 0 0, .slice none 0 0, .int .i64 0] 110) : WrT 0 w f p offW (.slice none 0 0) (.slice none 0 0) :=
  ⟨h, owns_nil _ _ _ _, OwnT.nil _ _ _, fun _ hk => (by cases hk), ⟨Nat.le_refl _, fun i hi => by simp [offW] at hi⟩, fun _ => ⟨rfl, rfl, rfl⟩⟩

set_option maxRecDepth 100000 in
theorem pEndedNil17_any (w : World) : Calls Try.prog 56 #[.pointer none] w fun e w' => e = .returned (.bool true) ∧ w = w' := by
  go_enter Try.func56, Try.ntmps56
  go_wp2_with fail
  go_ret
  exact ⟨rfl, rfl⟩
set_option maxRecDepth 100000 in
theorem pEnded17_any (f : Nat) (o : Option Addr) (w : World) (h : w.cell? ⟨f, 0, none⟩ = some (.pointer o)) : Calls Try.prog 56 #[.pointer (some ⟨f, 0, none⟩)] w fun e w' => e = .returned (.bool (decide (o = none))) ∧ w = w' := by
  cases o with
  | none =>
    go_enter Try.func56, Try.ntmps56
    go_wp2_with fail
    go_ret
    exact ⟨rfl, rfl⟩
  | some a =>
    go_enter Try.func56, Try.ntmps56
    go_wp2_with fail
    go_ret
    exact ⟨rfl, rfl⟩

set_option maxRecDepth 100000 in
set_option maxHeartbeats 1000000 in
theorem pCancelT_any (L : Nat) (O : Nat → Prop) (f p : Nat) (s : St) (W : Wr17) (vi vr : Value) (w : World) (h : PSto O w p s) (hok : okS s) (hT : WrT L w f p W vi vr) (hL : L ≤ 1000000000000) (hox : ∀ b, O b → ¬ ownW f vi vr b) :
    Calls Try.prog 35 #[.pointer (some ⟨f, 0, none⟩)] w fun e w' => ∃ O', e = .returned (.tuple #[]) ∧ PSto O' w' p (cancelW s W) ∧ Blk w' f [.pointer none, .slice none 0 0, .slice none 0 0, .int .i64 0] 110 ∧
      OnlyS (fun b => O b ∨ b = f) w w' ∧ (∀ b, O' b → O b ∨ w.heap.size ≤ b) ∧ ¬ O' f := by
  have HF := Lib.hid hT.blk.lt
  have HEN := Lib.hid (pEnded17_any f _ w (hT.blk.cell 0 _ rfl))
  cases hon : W.on with
  | false =>
    obtain ⟨hoff, rfl, rfl⟩ := hT.off hon
    subst hoff
    have HB := Lib.hid hT.blk
    have HP := Lib.hid h
    have HO := Lib.hid (fun h2 => hox f h2 (.inl rfl))
    simp only [hon, if_false, Bool.false_eq_true] at HEN HB
    clear hT h hok hox hon
    go_enter Try.func35, Try.ntmps35
    go_wp2_with fail
    refine HEN.out.mono ?_
    rintro e w' ⟨rfl, rfl⟩
    go_wp2_with fail
    refine bodyPost_ret (v := .tuple #[]) (results_none rfl _ _ _) rfl ?_
    exact ⟨O, rfl, HP.out, HB.out, OnlyS.refl _ _, fun b hb => .inl hb, HO.out⟩
  | true =>
    simp only [hon, if_true] at HEN
    have HCW := Lib.hid (show cancelW s W = dropS s (intsN W.ids) by unfold cancelW; rw [if_neg (by simp [hon])])
    have hrd : RdV w.drew vi ((intsN W.ids).map (Value.int .i64)) := by rw [intsN_ivs]; exact (RdV.of_owns hT.ids).mono (Ext.drew w)
    have HDROP := Lib.hid (pDrop_any (w := w.drew) vi (intsN W.ids) (h.keep (fun b hb => rfl) (Nat.le_refl _)) hok hrd (fun _ k hk hO => hox k hO (.inr (.inl hk))) (by
      have := hT.few.1
      unfold intsN
      rw [List.length_map]
      omega) (fun i hi => by
      obtain ⟨q, hq, rfl⟩ := List.mem_map.1 hi
      have := hT.few.2 q hq
      omega))
    have HB := Lib.hid hT.blk
    have HO := Lib.hid (show ¬ O f from fun h2 => hox f h2 (.inl rfl))
    have HBZ := Lib.hid (fun z : Later (OnlyS O) w.drew => (HB.out.ext (Ext.drew w)).onlyS z.ext HO.out)
    have a0 : ∀ z : Later (OnlyS O) w.drew, z.val.cell? ⟨f, 0, none⟩ = some (.pointer (some ⟨p, 0, none⟩)) := fun z => by
      have := (HBZ.out z).cell 0 _ rfl
      rwa [hon] at this
    have a1 : ∀ z : Later (OnlyS O) w.drew, z.val.cell? ⟨f, 1, none⟩ = some vi := fun z => (HBZ.out z).cell 1 _ rfl
    clear hT h hok hox hrd
    go_enter Try.func35, Try.ntmps35
    go_wp2_with fail
    refine HEN.out.mono ?_
    rintro e w' ⟨rfl, rfl⟩
    go_wp2_with fail
    refine wp_region_segs (OnlyS O) (OnlyS.keeps O) [([0, 1, 2, 3, 4, 5, 6, 7], some 8)] (by kernel_rfl) (by kernel_rfl) (fun c a a' w e h => (by exact ⟨e ▸ h.1, h.2⟩)) ?_
    simp only [pickSegs, pickOps, List.map_cons, List.map_nil, Option.map_some, Option.getD_some, List.getElem?_toArray, List.getElem?_cons_zero, List.getElem?_cons_succ]
    refine wpSegs_some fun K hK => ?_
    repeat go_big_quiet_step (fail)
    refine wpQuiet_nil ?_
    clear a0 a1
    go_wp2_with fail
    refine HDROP.out.mono ?_
    rintro e w2 ⟨rfl, O2, k1, k2, k3, -⟩
    have HP2 := Lib.hid k1
    have HO2 := Lib.hid k2
    have HN2 := Lib.hid k3
    clear k1 k2 k3
    go_wp2_with fail
    refine ⟨HO2.out, hK _ _ (wpSegs_nil ?_)⟩
    clear hK K
    have HB2 := Lib.hid ((HB.out.ext (Ext.drew w)).onlyS HO2.out HO.out)
    have c0 := HB2.out.cell 0 _ rfl
    have c1 := HB2.out.cell 1 _ rfl
    have c2 := HB2.out.cell 2 _ rfl
    have c3 := HB2.out.cell 3 _ rfl
    have fz := HB2.out.free
    go_wp2_with fail
    go_end0
    have hs := (OnlyS.set0 f 0 w2 (.pointer none)).step (OnlyS.set0 f 1 _ (.slice none 0 0)) |>.step (OnlyS.set0 f 2 _ (.slice none 0 0)) |>.step (OnlyS.set0 f 3 _ (.int .i64 0))
    have hO2f : ¬ O2 f := fun h2 => by
      rcases HN2.out f h2 with h3 | h3
      · exact HO.out h3
      · have := HF.out
        exact absurd h3 (Nat.not_le.2 this)
    refine ⟨O2, rfl, ?_, ?_, ?_, HN2.out, hO2f⟩
    · rw [HCW.out]
      exact HP2.out.onlyS hs (fun b hb e => hO2f (e ▸ hb))
    · exact (((HB2.out.set 0 _).set 1 _).set 2 _).set 3 _
    · exact OnlyS.trans (OnlyS.of_ext (Ext.drew w)) (OnlyS.trans (HO2.out.mono fun b _ hb => .inl hb) (hs.mono fun b _ hb => .inr hb) fun _ _ h => h) fun _ _ h => h

end Go.Proofs.Ytoagpaphghgkmaa

/-
  A writer of the program of layer 17: a page is laid.
-/
namespace Go.Proofs.Ytoagpaphghgkmaa
open Go.RowKit Go.BigFrame

/-- What a call on a store and on something else beside it leaves. -/
structure Duo (O X : Nat → Prop) (w : World) (O' X' : Nat → Prop) (w' : World) : Prop where
  only : OnlyS (fun b => O b ∨ X b) w w'
  os : ∀ b, O' b → O b ∨ w.heap.size ≤ b
  xs : ∀ b, X' b → X b ∨ w.heap.size ≤ b
  apart : ∀ b, O' b → ¬ X' b
theorem Duo.trans {O X O1 X1 O2 X2 : Nat → Prop} {w w1 w2 : World} (h : Duo O X w O1 X1 w1) (k : Duo O1 X1 w1 O2 X2 w2) : Duo O X w O2 X2 w2 := by
  refine ⟨OnlyS.trans h.only k.only fun i hi hb => ?_, fun b hb => ?_, fun b hb => ?_, k.apart⟩
  · rcases hb with hb | hb
    · rcases h.os i hb with h1 | h1
      · exact .inl h1
      · omega
    · rcases h.xs i hb with h1 | h1
      · exact .inr h1
      · omega
  · rcases k.os b hb with h1 | h1
    · exact h.os b h1
    · exact .inr (Nat.le_trans h.only.size h1)
  · rcases k.xs b hb with h1 | h1
    · exact h.xs b h1
    · exact .inr (Nat.le_trans h.only.size h1)
theorem Duo.refl {O X : Nat → Prop} (w : World) (h : ∀ b, O b → ¬ X b) : Duo O X w O X w := ⟨OnlyS.refl _ _, fun _ hb => .inl hb, fun _ hb => .inl hb, h⟩
theorem Duo.ext {O X : Nat → Prop} {w w' : World} (hx : Ext w w') (h : ∀ b, O b → ¬ X b) : Duo O X w O X w' := ⟨OnlyS.of_ext hx, fun _ hb => .inl hb, fun _ hb => .inl hb, h⟩

set_option maxRecDepth 100000 in
set_option maxHeartbeats 1000000 in
/-- There is no page: the writer ends. -/
theorem pLayNone17_any (L : Nat) (O : Nat → Prop) (f p n : Nat) (s : St) (W : Wr17) (vi vr : Value) (w : World) (h : PSto O w p s) (hok : okS s) (hT : WrT L w f p W vi vr) (hon : W.on = true) (hL : L ≤ 1000000000000) (hox : ∀ b, O b → ¬ ownW f vi vr b) (hfull : ¬ 1 + usedS s ≤ s.length) :
    Calls Try.prog 60 #[.pointer (some ⟨f, 0, none⟩), .int .i64 n] w fun e w' => ∃ O', e = .returned (.int .i64 4) ∧ PSto O' w' p (dropS s (intsN W.ids)) ∧ Blk w' f [.pointer none, .slice none 0 0, .slice none 0 0, .int .i64 0] 110 ∧
      OnlyS (fun b => O b ∨ b = f) w w' ∧ (∀ b, O' b → O b ∨ w.heap.size ≤ b) ∧ ¬ O' f := by
  have hus : usedS s ≤ s.length := List.countP_le_length
  have hal : allocS s 1 = (([], 4), s) := by
    have := storeK_full (s := s) (b := []) (k := 0) (by omega)
    rwa [(storeK_zero s []).2] at this
  have HAL := Lib.hid (pAlloc_any (w := w) 1 h hok (by omega))
  rw [hal] at HAL
  have c0 := hT.blk.cell 0 _ rfl
  rw [if_pos hon] at c0
  have HC := Lib.hid (fun (O1 : Nat → Prop) (w1 : World) (h1 : PSto O1 w1 p s) (hT1 : WrT L w1 f p W vi vr) (hx1 : ∀ b, O1 b → ¬ ownW f vi vr b) => pCancelT_any L O1 f p s W vi vr w1 h1 hok hT1 hL hx1)
  have HCW := Lib.hid (show cancelW s W = dropS s (intsN W.ids) by unfold cancelW; rw [if_neg (by simp [hon])])
  rw [HCW.out] at HC
  have HT := Lib.hid hT
  have HOX := Lib.hid hox
  clear h hok hT hox hal hus hfull
  go_enter Try.func60, Try.ntmps60
  go_wp2_with fail
  refine HAL.out.mono ?_
  rintro e w1 ⟨v, rfl, -, O1, k1, k2, k3, -⟩
  have HO1 := Lib.hid k2
  have HN1 := Lib.hid k3
  have HT1 := Lib.hid (HT.out.keep k2 HOX.out)
  have hx1 : ∀ b, O1 b → ¬ ownW f vi vr b := fun b hb hw => by
    rcases k3 b hb with h1 | h1
    · exact HOX.out b h1 hw
    · have := HT.out.lt hw
      omega
  have HCC := Lib.hid (HC.out O1 w1 k1 HT1.out hx1)
  clear k1 k2 k3 hx1 c0
  go_wp2_with fail
  refine HCC.out.mono ?_
  rintro e w2 ⟨O2, rfl, h1, h2, h3, h4, h5⟩
  have H1 := Lib.hid h1
  have H2 := Lib.hid h2
  have H3 := Lib.hid h3
  have H4 := Lib.hid h4
  have H5 := Lib.hid h5
  clear h1 h2 h3 h4 h5
  go_wp2_with fail
  go_ret
  refine ⟨O2, rfl, H1.out, H2.out, OnlyS.trans (HO1.out.mono fun b _ hb => .inl hb) H3.out fun i hi hb => ?_, fun b hb => ?_, H5.out⟩
  · rcases hb with hb | hb
    · rcases HN1.out i hb with h1 | h1
      · exact .inl h1
      · omega
    · exact .inr hb
  · rcases H4.out b hb with h1 | h1
    · exact HN1.out b h1
    · exact .inr (Nat.le_trans HO1.out.size h1)

set_option maxRecDepth 100000 in
set_option maxHeartbeats 2000000 in
/-- There is one. -/
theorem pLayRoom17_any (L : Nat) (O : Nat → Prop) (f p n : Nat) (s : St) (W : Wr17) (vi vr : Value) (w : World) (h : PSto O w p s) (hok : okS s) (hT : WrT L w f p W vi vr) (hon : W.on = true) (hL : L ≤ 1000000000000) (hox : ∀ b, O b → ¬ ownW f vi vr b) (hroom : 1 + usedS s ≤ s.length)
    (hn : n ≤ W.buf.length) (hn2 : W.buf.take n = W.buf.take 56) (hbl : W.buf.length ≤ 10000000) :
    Calls Try.prog 60 #[.pointer (some ⟨f, 0, none⟩), .int .i64 n] w fun e w' => ∃ O' vi' vr', e = .returned (.int .i64 0) ∧ PSto O' w' p (storeK s W.buf 1) ∧ WrT (L + 1) w' f p ⟨W.ids ++ idsK s 1, W.buf.drop n, W.many, true⟩ vi' vr' ∧ Duo O (ownW f vi vr) w O' (ownW f vi' vr') w' := by
  obtain ⟨x, hids, hxl, hal, hwr⟩ := storeK_step (s := s) (b := W.buf) (k := 0) (by omega)
  rw [(storeK_zero s W.buf).2] at hal hwr
  rw [(storeK_zero s []).1, List.nil_append] at hids
  rw [Nat.mul_zero, List.drop_zero] at hwr
  have HAL := Lib.hid (pAlloc_any (w := w) 1 h hok (by omega))
  rw [hal] at HAL
  have hx4 : x ≤ 4096 := by have := hok.1; omega
  have HK := Lib.hid (show okS (s.set x (some (layP x []))) from hok.set x _ (fun q hq => by cases hq; exact layP_length x [] (by simp)))
  have c0 := hT.blk.cell 0 _ rfl
  rw [if_pos hon] at c0
  obtain ⟨ra, rc, rfl, hr1, hr2⟩ := hT.rest.shape
  rw [List.length_map] at hr1 hT hox ⊢
  obtain ⟨i1, hi1, hy0, hy1, hy2⟩ := info_parts Try.info_int8
  obtain ⟨i5, hi5, hz0, hz1, hz2⟩ := info_parts Try.info5
  unfold maxLen at hr2
  obtain ⟨ra', rc', hdo, hdb, hdr⟩ := hT.rest.dropG Try.underlying43 hi5 hz1 n hn
  have HT := Lib.hid hT
  have HOX := Lib.hid hox
  have HN := Lib.hid hn2
  have HWR := Lib.hid hwr
  have HIDS := Lib.hid hids
  clear h hok hT hox hal hwr hn2 hids
  go_enter Try.func60, Try.ntmps60
  go_wp2_with fail
  refine HAL.out.mono ?_
  rintro e w1 ⟨v, rfl, ho1, O1, k1, k2, k3, k4⟩
  obtain ⟨g, gc, rfl, hg1, hg2, hg3, hg4⟩ := owns_shape ho1 (by simp)
  have HG := Lib.hid ho1
  have HP1 := Lib.hid k1
  have HO1 := Lib.hid k2
  have HN1 := Lib.hid k3
  have HGO := Lib.hid (k4 g rfl)
  have HT1 := Lib.hid (HT.out.keep k2 HOX.out)
  have HX1 := Lib.hid (show ∀ b, O1 b → ¬ ownW f vi (.slice ra W.buf.length rc) b from fun b hb hw => by
    rcases k3 b hb with h1 | h1
    · exact HOX.out b h1 hw
    · have := HT.out.lt hw
      omega)
  have hgw : ¬ ownW f vi (.slice ra W.buf.length rc) g := fun hw => by have := HT.out.lt hw; omega
  have HB1 := Lib.hid HT1.out.blk
  have hnc : n ≤ rc := by omega
  have HZ := Lib.hid (fun z : Later (OnlyS O1) w1.drew => (HB1.out.ext (Ext.drew w1)).onlyS z.ext (fun hh => HX1.out f hh (.inl rfl)))
  have a0 : ∀ z : Later (OnlyS O1) w1.drew, z.val.cell? ⟨f, 0, none⟩ = some (.pointer (some ⟨p, 0, none⟩)) := fun z => by
    have := (HZ.out z).cell 0 _ rfl
    rwa [if_pos hon] at this
  have a2 : ∀ z : Later (OnlyS O1) w1.drew, z.val.cell? ⟨f, 2, none⟩ = some (.slice ra W.buf.length rc) := fun z => (HZ.out z).cell 2 _ rfl
  have HGC := Lib.hid (fun z : Later (OnlyS O1) w1.drew => (own_onlyS (owns_extS HG.out (Ext.drew w1)) z.ext (fun k hk hO => by cases hk; exact HGO.out hO)))
  have a5 : ∀ z : Later (OnlyS O1) w1.drew, z.val.cell? ⟨g, 0, none⟩ = some (.int .i64 x) := fun z => by
    have := (HGC.out z).cells (g := g) rfl 0 (iv x) rfl
    exact this
  have HWT := Lib.hid (pWrite_any (w := w1.drew) (x : Int) (.slice ra n rc) (W.buf.take n) (HP1.out.keep (fun b hb => rfl) (Nat.le_refl _)) HK.out (by omega) (by
    have h3 := rdV_first (HT1.out.rest.ext (Ext.drew w1)).rd n hn
    rw [← List.map_take] at h3
    exact h3) (fun _ k hk hO => HX1.out k hO (.inr (.inr (by cases ra <;> exact hk)))) (by rw [HN.out, List.length_take]; omega))
  rw [HN.out, HWR.out] at HWT
  clear k1 k2 k3 k4 ho1 c0
  go_wp2_with fail
  refine wp_region_segs (OnlyS O1) (OnlyS.keeps O1) [([0, 1, 2, 3, 4, 5, 6, 7, 8, 9, 10, 11, 12], some 13)] (by kernel_rfl) (by kernel_rfl) (fun c a a' w e h => (by exact ⟨e ▸ h.1, h.2⟩)) ?_
  simp only [pickSegs, pickOps, List.map_cons, List.map_nil, Option.map_some, Option.getD_some, List.getElem?_toArray, List.getElem?_cons_zero, List.getElem?_cons_succ]
  refine wpSegs_some fun K hK => ?_
  repeat go_big_quiet_step (fail)
  refine wpQuiet_nil ?_
  clear a0 a2 a5
  go_wp2_with fail
  refine HWT.out.mono ?_
  rintro e w2 ⟨rfl, O2, k1, k2, k3, -⟩
  have HP2 := Lib.hid k1
  have HO2 := Lib.hid k2
  have HN2 := Lib.hid k3
  clear k1 k2 k3
  go_wp2_with fail
  refine ⟨HO2.out, hK _ _ (wpSegs_nil ?_)⟩
  clear hK K
  have HT2 := Lib.hid ((HT1.out.keep (OnlyS.of_ext (X := fun _ => False) (Ext.drew w1)) (fun _ h => h.elim)).keep HO2.out HX1.out)
  have b1 := HT2.out.blk.cell 1 _ rfl
  have HG2 := Lib.hid (own_onlyS (owns_extS HG.out (Ext.drew w1)) HO2.out (fun k hk hO => by cases hk; exact HGO.out hO))
  have HSF := Lib.hid (show f + 1 ≤ w2.heap.size from HT2.out.blk.lt)
  have HLI := Lib.hid HT2.out.few.1
  have HON2 := Lib.hid hon
  clear hon
  go_wp2_with (at_builtin; go_must (refine wpList_append_apart _ rfl (.tmp 38) (.tmp 39) 32 rfl (f + 1) 3 i1 (.int .i64 0) 1 8 Try.underlying32 hi1 hy0 hy1 hy2 rfl (by decide) _ _ _ rfl HT2.out.ids ⟨g, 0, none⟩ 1 gc [iv x] rfl rfl (HG2.out.cells (g := g) rfl) (by simp [iv, Value.oneCell']) (by have := HLI.out; unfold maxLen; omega) (by have := HLI.out; omega) HSF.out ?_); intro v5 w5 h5a h5b h5c; obtain ⟨va, vc, rfl, -, -⟩ := own_shapeP h5a; have HO5 := Lib.hid h5a; have HG5 := Lib.hid h5b; have HE5 := Lib.hid h5c; have HB5 := Lib.hid (HT2.out.blk.onlyS (OnlyS.of_grown h5b) (fun e => by have := (HT2.out.ids.lt f e).1; omega)); have d1 := HB5.out.cell 1 _ rfl; have d2 := HB5.out.cell 2 _ rfl; have fz := HB5.out.free; clear h5a h5b h5c b1)
  go_ret
  have HW := HT.out
  have hs : OnlyS (fun b => b = f) w5 ((w5.setCell ⟨f, 1, none⟩ (.slice va (W.ids.length + 1) vc)).setCell ⟨f, 2, none⟩ (.slice ra' (W.buf.length - n) rc')) := (OnlyS.set0 f 1 _ _).step (OnlyS.set0 f 2 _ _)
  have ho25 := OnlyS.of_grown HG5.out
  have ho26 : OnlyS (fun b => b = f ∨ vi.ownBlock = some b) w2 ((w5.setCell ⟨f, 1, none⟩ (.slice va (W.ids.length + 1) vc)).setCell ⟨f, 2, none⟩ (.slice ra' (W.buf.length - n) rc')) := (ho25.mono fun _ _ h => .inr h).step (hs.mono fun _ _ h => .inl h)
  have hO2 : ∀ b, O2 b → O b ∨ w.heap.size ≤ b := fun b hb => by
    rcases HN2.out b hb with h1 | h1
    · exact HN1.out b h1
    · exact .inr (Nat.le_trans HO1.out.size h1)
  have hX2 : ∀ b, O2 b → ¬ ownW f vi (.slice ra W.buf.length rc) b := fun b hb hw => by
    rcases hO2 b hb with h1 | h1
    · exact HOX.out b h1 hw
    · have := HW.lt hw
      omega
  have ho02 : OnlyS O w w2 := OnlyS.trans HO1.out (OnlyS.trans (OnlyS.of_ext (Ext.drew w1)) HO2.out fun _ _ h => h) fun i hi hb => by
    rcases HN1.out i hb with h1 | h1
    · exact h1
    · omega
  have hsz2 := ho02.size
  have hvr : ∀ k, (Value.slice ra' (W.buf.length - n) rc').ownBlock = some k → (Value.slice ra W.buf.length rc).ownBlock = some k := fun k hk => hdb ▸ hk
  refine ⟨O2, .slice va (W.ids.length + 1) vc, .slice ra' (W.buf.length - n) rc', rfl, HP2.out.onlyS ho26 (fun b hb hx => ?_), ⟨?_, ?_, ?_, ?_, ?_, fun h => by cases h⟩, ?_⟩
  · rcases hx with rfl | hx
    · exact hX2 b hb (.inl rfl)
    · exact hX2 b hb (.inr (.inl hx))
  · have h1 := (HB5.out.set 1 (.slice va (W.ids.length + 1) vc)).set 2 (.slice ra' (W.buf.length - n) rc')
    rw [if_pos HON2.out] at h1
    exact h1
  · have h1 := own_onlyS HO5.out hs (fun k hk e => by have := (HO5.out.lt k hk).1; omega)
    rw [show idsK s 1 = [x] from HIDS.out, List.length_append]
    unfold ivs at h1 ⊢
    rw [List.map_append]
    exact h1
  · have h1 := hdo.beside ho02 (fun k hk => .inr fun e => HOX.out k hk (.inr (.inr (hvr k e))))
    have h2 := h1.beside_row (by decide) HT2.out.ids (Nat.lt_succ_self f) ho26
    rw [List.map_drop]
    exact h2
  · intro k hk
    have h1 := HW.rin k (hvr k hk)
    exact ⟨h1.1, Nat.lt_of_lt_of_le h1.2 (Nat.le_trans hsz2 ho26.size)⟩
  · rw [show idsK s 1 = [x] from HIDS.out]
    refine ⟨by rw [List.length_append]; have := HW.few.1; simp; omega, fun i hi => ?_⟩
    rcases List.mem_append.1 hi with h1 | h1
    · exact HW.few.2 i h1
    · rw [List.mem_singleton] at h1
      omega
  · refine ⟨OnlyS.trans (ho02.mono fun _ _ h => .inl h) (ho26.mono fun b _ hb => ?_) fun _ _ h => h, hO2, fun b hb => ?_, fun b hb hw => ?_⟩
    · rcases hb with hb | hb
      · exact .inr (.inl hb)
      · exact .inr (.inr (.inl hb))
    · rcases hb with hb | hb | hb
      · exact .inl (.inl hb)
      · rcases HE5.out with h1 | ⟨k, h1, h2⟩
        · exact .inl (.inr (.inl (h1 ▸ hb)))
        · rw [h1] at hb
          cases hb
          exact .inr (Nat.le_trans hsz2 h2)
      · exact .inl (.inr (.inr (hvr b hb)))
    · rcases hw with hw | hw | hw
      · exact hX2 b hb (.inl hw)
      · rcases HE5.out with h1 | ⟨k, h1, h2⟩
        · exact hX2 b hb (.inr (.inl (h1 ▸ hw)))
        · rw [h1] at hw
          cases hw
          have := HP2.out.lt b hb
          omega
      · exact hX2 b hb (.inr (.inr (hvr b hw)))

end Go.Proofs.Ytoagpaphghgkmaa
