/-
  Texts of this proof, merged: SpiLaw, OpenSpills, MapSet.
-/
import Derived.Maps.OwnOps
import Derived.Maps.Views
import Derived.Test.YtoagpaphghgkmaaZ21
import Derived.Test.YtoagpaphghgkmaaZ9
import Derived.Test.YtoagpaphghgkmaaZ11
import Derived.Test.YtoagpaphghgkmaaZ5
import Derived.Test.YtoagpaphghgkmaaZ19
import Derived.Test.YtoagpaphghgkmaaZ3
/-
  What holds of the law's own memory beside a store, its writers and its files.
-/
namespace Go.Proofs.Ytoagpaphghgkmaa
open Go.RowKit Go.BigFrame

def pt (f : Nat) : Value := .pointer (some ⟨f, 0, none⟩)
theorem pt_oneCell (f : Nat) : ∀ x ∈ [pt f], x.oneCell' = true := fun x hx => by
  rw [List.mem_singleton] at hx
  rw [hx]
  rfl
def cellsW (fs : Nat → Nat) : List Value := [pt (fs 0), pt (fs 1), pt (fs 2)]
theorem cellsW_at (fs : Nat → Nat) {k : Nat} (hk : k < 3) : (cellsW fs)[k]? = some (pt (fs k)) := by
  obtain rfl | rfl | rfl : k = 0 ∨ k = 1 ∨ k = 2 := by omega
  · rfl
  · rfl
  · rfl
theorem cellsW_set (fs : Nat → Nat) {k : Nat} (hk : k < 3) (f : Nat) : (cellsW fs).set k (pt f) = cellsW (fun j => if j = k then f else fs j) := by
  obtain rfl | rfl | rfl : k = 0 ∨ k = 1 ∨ k = 2 := by omega
  · rfl
  · rfl
  · rfl
theorem blk_only {Y : Nat → Prop} {W W' : World} {b : Nat} {xs : List Value} {t : TypeId} (h : Blk W b xs t) (ho : OnlyS Y W W') (hx : ¬ Y b) : Blk W' b xs t := (ho.block b h.lt hx).trans h
theorem only_at (g j : Nat) (w : World) (u : Value) : OnlyS (fun k => k = g) w (w.setCell ⟨g, j, none⟩ u) := OnlyS.of_onlyP (OnlyP.set g j w u) rfl

/-- The law's array of writers at gw, its slice of files (these pointers), beside the store and all. -/
structure LawI (w0 : World) (B C : Nat) (w : World) (p gw : Nat) (fv : Value) (fp : List Nat) (Z : Nat → Nat → Prop) (s : St) (fs : Nat → Nat) (Ws : Nat → Wr17) (fl : List (Nat × List Nat × Nat)) : Prop where
  hold : HoldI B C w p Z s fs Ws fl
  arr : Blk w gw (cellsW fs) 67
  files : w.ownsRow B 36 1 fv fp.length (fp.map pt)
  gw4 : Z 4 gw
  fv4 : ∀ k, fv.ownBlock = some k → Z 4 k
  below : Below w0.heap.size w0 w
  base : w0.heap.size ≤ B
  len : s.length = 40

section
variable {w0 : World} {B C : Nat} {w w' : World} {p gw : Nat} {fv : Value} {fp : List Nat} {Z : Nat → Nat → Prop} {s s' : St} {fs : Nat → Nat} {Ws : Nat → Wr17} {fl : List (Nat × List Nat × Nat)} {k : Nat} {W' : Wr17} {O' X' F' : Nat → Prop}

theorem LawI.ext (h : LawI w0 B C w p gw fv fp Z s fs Ws fl) (hx : Ext w w') : LawI w0 B C w' p gw fv fp Z s fs Ws fl :=
  ⟨h.hold.ext hx, h.arr.ext hx, owns_extS h.files hx, h.gw4, h.fv4, h.below.trans (Below.mono hx h.below.size), h.base, h.len⟩
theorem LawI.more {C' : Nat} (h : LawI w0 B C w p gw fv fp Z s fs Ws fl) (hc : C ≤ C') : LawI w0 B C' w p gw fv fp Z s fs Ws fl :=
  ⟨h.hold.more hc, h.arr, h.files, h.gw4, h.fv4, h.below, h.base, h.len⟩
theorem LawI.cell (h : LawI w0 B C w p gw fv fp Z s fs Ws fl) (hk : k < 3) : w.cell? ⟨gw, k, none⟩ = some (pt (fs k)) := h.arr.cell k _ (cellsW_at fs hk)
theorem LawI.gwlt (h : LawI w0 B C w p gw fv fp Z s fs Ws fl) : gw < w.heap.size := h.arr.lt
/-- What others than the law's own have changed. -/
theorem LawI.moved (h : LawI w0 B C w p gw fv fp Z s fs Ws fl) {m : Nat} (hm : m ≠ 4) (ho : OnlyS (fun b => Z 0 b ∨ Z m b) w w') : Blk w' gw (cellsW fs) 67 ∧ w'.ownsRow B 36 1 fv fp.length (fp.map pt) ∧ Below w0.heap.size w0 w' := by
  have key : ∀ b, Z 4 b → ¬ (Z 0 b ∨ Z m b) := fun b hb h2 => h2.elim (h.hold.fam.dis 4 0 (by omega) b hb) (h.hold.fam.dis 4 m (Ne.symm hm) b hb)
  refine ⟨blk_only h.arr ho (key gw h.gw4), own_onlyS h.files ho (fun k hk => key k (h.fv4 k hk)), h.below.trans (ho.below h.below.size fun b hb => ?_)⟩
  have hbase := h.base
  rcases hb with hb | hb
  · have := (h.hold.fam.lt 0 b hb).1; omega
  · have := (h.hold.fam.lt m b hb).1; omega

theorem LawI.wrote (h : LawI w0 B C w p gw fv fp Z s fs Ws fl) (hk : k < 3) (hp : PSto O' w' p s') (hx : Wri X' w' (fs k) p W') (ho : OnlyS (fun b => Z 0 b ∨ Z (k + 1) b) w w') (hno : ∀ b, O' b → Z 0 b ∨ w.heap.size ≤ b) (hnx : ∀ b, X' b → Z (k + 1) b ∨ w.heap.size ≤ b) (hd : ∀ b, O' b → ¬ X' b)
    (hok : okS s') (hpt : Part s' (W'.ids ++ restW Ws fl k)) (hoff : W'.on = false → W'.ids = []) (hmn : W'.many ≤ C) (hlen : s'.length = s.length) : LawI w0 B C w' p gw fv fp (setZ (setZ Z 0 O') (k + 1) X') s' fs (setW Ws k W') fl := by
  obtain ⟨h1, h2, h3⟩ := h.moved (by omega) ho
  have e4 : setZ (setZ Z 0 O') (k + 1) X' 4 = Z 4 := by rw [setZ_other _ _ (by omega), setZ_other _ _ (by omega)]
  exact ⟨h.hold.wrote hk hp hx ho hno hnx hd hok hpt hoff hmn, h1, h2, by rw [e4]; exact h.gw4, by rw [e4]; exact h.fv4, h3, h.base, by rw [hlen]; exact h.len⟩
theorem LawI.filed (h : LawI w0 B C w p gw fv fp Z s fs Ws fl) (hk : k < 3) {g many : Nat} {ids : List Nat} (hp : PSto O' w' p s') (hx : Wri X' w' (fs k) p offW) (hf : Fil F' w' g p ids many) (ho : OnlyS (fun b => Z 0 b ∨ Z (k + 1) b) w w') (hno : ∀ b, O' b → Z 0 b ∨ w.heap.size ≤ b) (hnx : ∀ b, X' b → Z (k + 1) b ∨ w.heap.size ≤ b) (hnf : ∀ b, F' b → Z (k + 1) b ∨ w.heap.size ≤ b)
    (hd : ∀ b, O' b → ¬ X' b) (hdf : ∀ b, F' b → ¬ X' b ∧ ¬ O' b) (hok : okS s') (hpt : Part s' (ids ++ restW Ws fl k)) (hlen : s'.length = s.length) : LawI w0 B C w' p gw fv fp (setZ (setZ (setZ Z 0 O') (k + 1) X') (5 + fl.length) F') s' fs (setW Ws k offW) (fl ++ [(g, ids, many)]) := by
  obtain ⟨h1, h2, h3⟩ := h.moved (by omega) ho
  have e4 : setZ (setZ (setZ Z 0 O') (k + 1) X') (5 + fl.length) F' 4 = Z 4 := by rw [setZ_other _ _ (by omega), setZ_other _ _ (by omega), setZ_other _ _ (by omega)]
  exact ⟨h.hold.filed hk hp hx hf ho hno hnx hnf hd hdf hok hpt, h1, h2, by rw [e4]; exact h.gw4, by rw [e4]; exact h.fv4, h3, h.base, by rw [hlen]; exact h.len⟩
theorem LawI.dropped (h : LawI w0 B C w p gw fv fp Z s fs Ws fl) {n : Nat} (hn : n < fl.length) (hp : PSto O' w' p (dropS s (intsN fl[n].2.1))) (hf : Fil F' w' fl[n].1 p [] 0) (ho : OnlyS (fun b => Z 0 b ∨ Z (5 + n) b) w w') (hno : ∀ b, O' b → Z 0 b ∨ w.heap.size ≤ b) (hnf : ∀ b, F' b → Z (5 + n) b ∨ w.heap.size ≤ b)
    (hd : ∀ b, O' b → ¬ F' b) : LawI w0 B C w' p gw fv fp (setZ (setZ Z 0 O') (5 + n) F') (dropS s (intsN fl[n].2.1)) fs Ws (fl.set n (fl[n].1, [], 0)) := by
  obtain ⟨h1, h2, h3⟩ := h.moved (by omega) ho
  have e4 : setZ (setZ Z 0 O') (5 + n) F' 4 = Z 4 := by rw [setZ_other _ _ (by omega), setZ_other _ _ (by omega)]
  exact ⟨h.hold.dropped hn hp hf ho hno hnf hd, h1, h2, by rw [e4]; exact h.gw4, by rw [e4]; exact h.fv4, h3, h.base, by rw [dropS_length]; exact h.len⟩
/-- A new writer is put into the array. -/
theorem LawI.anew (h : LawI w0 B C w p gw fv fp Z s fs Ws fl) (hk : k < 3) (hids : (Ws k).ids = []) {f : Nat} (hx : Wri X' w' f p newW) (hn : ∀ b, X' b → w.heap.size ≤ b) (hw : Ext w w') :
    ∃ Z', LawI w0 B C (w'.setCell ⟨gw, k, none⟩ (pt f)) p gw fv fp Z' s (fun j => if j = k then f else fs j) (setW Ws k newW) fl := by
  have h1 := h.hold.anew hk hids hx hn hw
  have e4 : setZ Z (k + 1) X' 4 = Z 4 := setZ_other _ _ (by omega)
  have ho := only_at gw k w' (pt f)
  have hfl := owns_extS h.files hw
  have harr := h.arr.ext hw
  have hne : ∀ b, fv.ownBlock = some b → b ≠ gw := fun b hb e => by
    obtain ⟨c, fz, e1⟩ := Lib.ownsRow_kind hfl b hb
    rw [e, show w'.heap[gw]? = _ from harr] at e1
    injection e1 with e3
    injection e3 with e4 e5
    exact absurd e5 (by decide)
  refine ⟨_, ⟨h1.own (X := Z 4) (ho.mono fun b _ e => by rw [e4, e]; exact h.gw4) (fun b hb => ⟨.inl (by rw [e4]; exact hb), Nat.lt_of_lt_of_le (h.hold.fam.lt 4 b hb).2 (Nat.le_trans hw.size ho.size)⟩), ?_, own_onlyS hfl ho (fun b hb e => hne b hb e), by rw [setZ_same]; exact h.gw4, by rw [setZ_same]; exact h.fv4, (h.below.trans (Below.mono hw h.below.size)).trans (ho.below (Nat.le_trans h.below.size hw.size) fun b hb => ?_), h.base, h.len⟩⟩
  · rw [← cellsW_set fs hk f]
    exact harr.set k (pt f)
  · rw [hb]
    exact Nat.le_trans h.base (h.hold.fam.lt 4 gw h.gw4).1
/-- A file is appended to the slice. -/
theorem LawI.append (h : LawI w0 B C w p gw fv fp Z s fs Ws fl) {v5 : Value} {w5 : World} {g : Nat} (h5 : w5.ownsRow B 36 1 v5 (fp.length + 1) (fp.map pt ++ [pt g])) (ho : OnlyS (fun k => fv.ownBlock = some k) w w5) (hg : Grew w fv v5) :
    LawI w0 B C w5 p gw v5 (fp ++ [g]) (setZ Z 4 fun b => Z 4 b ∨ v5.ownBlock = some b) s fs Ws fl := by
  have hne : fv.ownBlock ≠ some gw := fun hb => by
    obtain ⟨c, fz, e1⟩ := Lib.ownsRow_kind h.files gw hb
    rw [show w.heap[gw]? = _ from h.arr] at e1
    injection e1 with e3
    injection e3 with e4 e5
    exact absurd e5 (by decide)
  refine ⟨h.hold.own (ho.mono fun b _ hb => h.fv4 b hb) (fun b hb => ?_), blk_only h.arr ho hne, by rw [List.length_append, List.map_append]; exact h5, by rw [setZ_same]; exact .inl h.gw4, by rw [setZ_same]; exact fun k hk => .inr hk, h.below.trans (ho.below h.below.size fun b hb => Nat.le_trans h.base (h.hold.fam.lt 4 b (h.fv4 b hb)).1), h.base, h.len⟩
  rcases hb with hb | hb
  · exact ⟨.inl hb, Nat.lt_of_lt_of_le (h.hold.fam.lt 4 b hb).2 ho.size⟩
  · refine ⟨?_, (h5.lt b hb).2⟩
    rcases hg with e | ⟨k', e, hle⟩
    · exact .inl (h.fv4 b (e ▸ hb))
    · rw [e] at hb
      cases hb
      exact .inr hle
theorem LawI.off4 (h : LawI w0 B C w p gw fv fp Z s fs Ws fl) {m : Nat} (hm : m ≠ 4) : ∀ b, Z 4 b → ¬ (Z 0 b ∨ Z m b) := fun b hb h2 => h2.elim (h.hold.fam.dis 4 0 (by omega) b hb) (h.hold.fam.dis 4 m (Ne.symm hm) b hb)
theorem LawI.apart (h : LawI w0 B C w p gw fv fp Z s fs Ws fl) {m : Nat} (hm : m ≠ 0) : ∀ b, Z 0 b → ¬ Z m b := h.hold.fam.dis 0 m (Ne.symm hm)
theorem LawI.mine (h : LawI w0 B C w p gw fv fp Z s fs Ws fl) (hk : k < 3) : Part s ((Ws k).ids ++ restW Ws fl k) := h.hold.part.perm (held_perm Ws fl hk)
theorem LawI.bel (h : LawI w0 B C w p gw fv fp Z s fs Ws fl) {m : Nat} (ho : OnlyS (fun b => Z 0 b ∨ Z m b) w w') : Below w0.heap.size w0 w' := h.below.trans (ho.below h.below.size fun b hb => by
  have hbase := h.base
  rcases hb with hb | hb
  · have := (h.hold.fam.lt 0 b hb).1; omega
  · have := (h.hold.fam.lt m b hb).1; omega)
theorem setZ2_not {g m : Nat} (hz : ∀ i, ¬ Z i g) (hO : ¬ O' g) (hX : ¬ X' g) : ∀ i, ¬ setZ (setZ Z 0 O') m X' i g := fun i hi => by
  simp only [setZ_at] at hi
  rcases hi with h | ⟨-, h | h⟩
  · exact hX h.2
  · exact hO h.2
  · exact hz i h.2
theorem setZ3_not {g m n : Nat} (hz : ∀ i, ¬ Z i g) (hO : ¬ O' g) (hX : ¬ X' g) (hF : ¬ F' g) : ∀ i, ¬ setZ (setZ (setZ Z 0 O') m X') n F' i g := fun i hi => by
  rw [setZ_at] at hi
  rcases hi with h | h
  · exact hF h.2
  · exact setZ2_not hz hO hX i h.2
/-- A writer that has ended, once more. -/
theorem add_off (s : St) (r : List V) : addW s offW r = ((2, offW), s) := rfl
theorem done_off (s : St) : doneW s offW = ((2, ([], 0)), s) := rfl
theorem setW_same (Ws : Nat → Wr17) (k : Nat) (W : Wr17) : setW Ws k W k = W := if_pos rfl
theorem rest_setW (Ws : Nat → Wr17) (fl : List (Nat × List Nat × Nat)) (hk : k < 3) (W : Wr17) : restW (setW Ws k W) fl k = restW Ws fl k := by
  unfold restW
  obtain rfl | rfl | rfl : k = 0 ∨ k = 1 ∨ k = 2 := by omega
  · rfl
  · rfl
  · rfl
theorem setW_setW (Ws : Nat → Wr17) (k : Nat) (W V : Wr17) : setW (setW Ws k W) k V = setW Ws k V := by
  funext j
  unfold setW
  split <;> rfl
/-- What is neither the law's nor the store's has changed. -/
theorem LawI.elsewhere (h : LawI w0 B C w p gw fv fp Z s fs Ws fl) {Y : Nat → Prop} (ho : OnlyS Y w w') (hy : ∀ b, Y b → B ≤ b ∧ ∀ i, ¬ Z i b) : LawI w0 B C w' p gw fv fp Z s fs Ws fl :=
  ⟨h.hold.later ho (fun b hb => (hy b hb).2), blk_only h.arr ho (fun hb => (hy gw hb).2 4 h.gw4), own_onlyS h.files ho (fun k hk hb => (hy k hb).2 4 (h.fv4 k hk)), h.gw4, h.fv4, h.below.trans (ho.below h.below.size fun b hb => Nat.le_trans h.base (hy b hb).1), h.base, h.len⟩
theorem LawI.used (h : LawI w0 B C w p gw fv fp Z s fs Ws fl) : usedS s = (heldW Ws fl).length := h.hold.part.used
theorem held_length (Ws : Nat → Wr17) (fl : List (Nat × List Nat × Nat)) : (filesW fl).length ≤ (heldW Ws fl).length := by
  unfold heldW
  simp only [List.length_append]
  omega
theorem held_bare {Ws : Nat → Wr17} (fl : List (Nat × List Nat × Nat)) (h : ∀ k, k < 3 → (Ws k).ids = []) : heldW Ws fl = filesW fl := by
  unfold heldW
  rw [h 0 (by omega), h 1 (by omega), h 2 (by omega)]
  rfl
theorem done_bad (s : St) (W : Wr17) (h : (doneW s W).1.1 ≠ 0) : (doneW s W).1.2.1 = [] := by
  unfold doneW at h ⊢
  split
  · rfl
  · rename_i h1
    rw [if_neg h1] at h
    split
    · rename_i h2
      rw [if_pos h2] at h
      exact absurd rfl h
    · rename_i h2
      rw [if_neg h2] at h
      split
      · rename_i h3
        rw [if_pos h3] at h
        exact absurd rfl h
      · rfl
theorem fst_set (fl : List (Nat × List Nat × Nat)) {n : Nat} (hn : n < fl.length) (ids : List Nat) (m : Nat) : (fl.set n (fl[n].1, ids, m)).map (fun e => e.1) = fl.map fun e => e.1 := by
  rw [List.map_set]
  have h : (fl.map fun e => e.1)[n]'(by rw [List.length_map]; exact hn) = fl[n].1 := List.getElem_map ..
  rw [← h]
  exact List.set_getElem_self ..
theorem files_take (fl : List (Nat × List Nat × Nat)) {n : Nat} (hn : n < fl.length) : filesW (fl.take (n + 1)) = filesW (fl.take n) ++ fl[n].2.1 := by
  unfold filesW
  rw [List.take_succ_eq_append_getElem hn, List.flatMap_append]
  simp
theorem files_split (fl : List (Nat × List Nat × Nat)) (n : Nat) : filesW fl = filesW (fl.take n) ++ filesW (fl.drop n) := by
  unfold filesW
  rw [← List.flatMap_append, List.take_append_drop]
theorem held_nodup {s : St} {Ws : Nat → Wr17} {fl : List (Nat × List Nat × Nat)} (h : Part s (heldW Ws fl)) : (filesW fl).Nodup ∧ ∀ i ∈ filesW fl, i < s.length := by
  have h1 := h.1
  unfold heldW at h1
  refine ⟨(List.nodup_append.1 (List.nodup_append.1 (List.nodup_append.1 h1).2.1).2.1).2.1, fun i hi => h.lt ?_⟩
  unfold heldW
  simp only [List.mem_append]
  exact .inr (.inr (.inr hi))
/-- A page of a file is in none of the files ahead, nor ahead in it. -/
theorem files_fresh {fl : List (Nat × List Nat × Nat)} (h : (filesW fl).Nodup) {n j : Nat} (hn : n < fl.length) (hj : j < fl[n].2.1.length) : fl[n].2.1[j] ∉ filesW (fl.take n) ++ fl[n].2.1.take j := by
  rw [files_split fl (n + 1), files_take fl hn, List.append_assoc] at h
  obtain ⟨h1, h2, h3⟩ := List.nodup_append.1 h
  obtain ⟨h4, -, -⟩ := List.nodup_append.1 h2
  intro hm
  rcases List.mem_append.1 hm with hm | hm
  · exact h3 _ hm _ (List.mem_append.2 (.inl (List.getElem_mem hj))) rfl
  · obtain ⟨i, hi, e⟩ := List.mem_take_iff_getElem.1 hm
    have hi2 : i < fl[n].2.1.length := by omega
    have hij : i < j := by omega
    exact (List.pairwise_iff_getElem.1 h4) i j hi2 hj hij e
theorem files_none {fl : List (Nat × List Nat × Nat)} (h : ∀ i, (hi : i < fl.length) → fl[i].2.1 = []) : filesW fl = [] := by
  unfold filesW
  rw [List.flatMap_eq_nil_iff]
  intro e he
  obtain ⟨i, hi, rfl⟩ := List.mem_iff_getElem.1 he
  exact h i hi
end

end Go.Proofs.Ytoagpaphghgkmaa

/-
  What an argument that came in as a row of acts of layer 17 (two numbers and a row of values) is to a walk.
-/
namespace Go.Proofs.Ytoagpaphghgkmaa
open Go.ChangeShapes Go.WideShapes Go.ChangeAt Go.RowKit Go.Joins Go.Deep

/-- An act. -/
structure Act17 where
  k : Int
  which : Int
  row : List V

/-- What may come in. -/
structure Act17.fits (a : Act17) : Prop where
  k : 0 ≤ a.k ∧ a.k ≤ 255
  which : 0 ≤ a.which ∧ a.which ≤ 255
  row : ∀ x ∈ a.row, x.fits ∧ x.s.length ≤ maxLen

/-- A slice reads as these acts. -/
def RdSpills (w : World) (u : Value) (acts : List Act17) : Prop :=
  ∃ ao cap, u = .slice ao acts.length cap ∧ acts.length ≤ cap ∧ cap ≤ maxLen ∧ ∀ j, (hj : j < acts.length) → ∃ g off v, ao = some ⟨g, off, none⟩ ∧ RdVals w v acts[j].row ∧ w.cell? ⟨g, off + j * 3, none⟩ = some (.int .u8 acts[j].k) ∧ w.cell? ⟨g, off + j * 3 + 1, none⟩ = some (.int .u8 acts[j].which) ∧ w.cell? ⟨g, off + j * 3 + 2, none⟩ = some v

section
variable {H : Type} {enc : TypeId × Value → H} {P : Program} {w : World} {base : Nat} {held : Bool}

theorem spill_of {e tr te : TypeId} {f0 f1 f2 g0 g1 g2 : Field} {cs : List Value} {fuel : Nat} {x : DataW H × List MemPlace} (hs : P.underlying e = some (.struct #[f0, f1, f2]))
    (h0 : P.underlying f0.type = some (.int .u8)) (h1 : P.underlying f1.type = some (.int .u8)) (h2 : P.underlying f2.type = some (.slice tr)) (ht : P.underlying tr = some (.struct #[g0, g1, g2])) (k0 : P.underlying g0.type = some (.int .u8)) (k1 : P.underlying g1.type = some (.int .i64)) (k2 : P.underlying g2.type = some .string)
    (honeV : oneCellFields P #[g0, g1, g2] = true) (hCV : P.cellsOf tr = 3)
    (hone : oneCellFields P #[f0, f1, f2] = true) (hC : P.cellsOf e = 3) (_he : te = e) (h : DataW.trod enc P w base (fun _ => true) held fuel e cs = some x) :
    ∃ a : Act17, ∃ v, cs = [.int .u8 a.k, .int .u8 a.which, v] ∧ RdVals w v a.row ∧ a.fits := by
  obtain ⟨xs, n, _, rfl, hl, hlen, hf⟩ := DataW.trod_struct hs h
  rw [hC] at hl
  obtain ⟨o0, q0⟩ := hone_of hone 0 f0 rfl
  obtain ⟨o1, q1⟩ := hone_of hone 1 f1 rfl
  obtain ⟨o2, q2⟩ := hone_of hone 2 f2 rfl
  have j0 := hf 0 f0 rfl
  have j1 := hf 1 f1 rfl
  have j2 := hf 2 f2 rfl
  rw [o0, q0] at j0
  rw [o1, q1] at j1
  rw [o2, q2] at j2
  match cs, hl with
  | [c0, c1, c2], _ =>
    simp only [List.drop_zero, List.drop_succ_cons, List.take_succ_cons, List.take_zero] at j0 j1 j2
    match xs, hlen with
    | [y0, y1, y2], _ =>
      simp only [List.getElem?_cons_zero, List.getElem?_cons_succ] at j0 j1 j2
      obtain ⟨z0, e0, _, w0⟩ := DataW.trod_int h0 j0
      obtain ⟨z1, e1, _, w1⟩ := DataW.trod_int h1 j1
      obtain ⟨a3, l3, p3, e3⟩ := slice_form h2 j2
      simp only [List.cons.injEq, and_true] at e0 e1 e3
      subst e0 e1 e3
      obtain ⟨vs, rv, fv⟩ := read_vals (enc := enc) (w := w) (base := base) (held := held) (v := .slice a3 l3 p3) (d := y2.1) (ps := y2.2) h2 ht k0 k1 k2 honeV hCV rfl ⟨n, j2⟩
      exact ⟨⟨z0, z1, vs⟩, _, rfl, rv, ⟨bounds_u8 w0, bounds_u8 w1, fv⟩⟩

theorem read_spills {t e tr : TypeId} {f0 f1 f2 g0 g1 g2 : Field} {v : Value} {d : DataW H} {ps : List MemPlace} (ht : P.underlying t = some (.slice e)) (hs : P.underlying e = some (.struct #[f0, f1, f2]))
    (h0 : P.underlying f0.type = some (.int .u8)) (h1 : P.underlying f1.type = some (.int .u8)) (h2 : P.underlying f2.type = some (.slice tr)) (htr : P.underlying tr = some (.struct #[g0, g1, g2])) (k0 : P.underlying g0.type = some (.int .u8)) (k1 : P.underlying g1.type = some (.int .i64)) (k2 : P.underlying g2.type = some .string)
    (honeV : oneCellFields P #[g0, g1, g2] = true) (hCV : P.cellsOf tr = 3)
    (hone : oneCellFields P #[f0, f1, f2] = true) (hC : P.cellsOf e = 3) (hv : v.cells.toList = [v]) (h : DataW.Trod enc P w base (fun _ => true) held t v d ps) :
    ∃ acts : List Act17, RdSpills w v acts ∧ ∀ a ∈ acts, a.fits := by
  obtain ⟨fuel, hf⟩ := h
  rw [hv] at hf
  rcases open_slice ht hf with ⟨hcs, _⟩ | ⟨a, len, cap, m, n, D, Pl, hcs, _, hl, hm, hmm, _, hi⟩
  · obtain rfl : v = .slice none 0 0 := by simpa using hcs
    exact ⟨[], ⟨none, 0, rfl, Nat.le_refl _, by simp [maxLen], fun j hj => by simp at hj⟩, by simp⟩
  · obtain rfl : v = .slice (some a) len cap := by simpa using hcs
    have hmc : m = cap := by simpa using hmm
    have key : ∀ i, i < len → ∃ x : Act17, x.fits ∧ ∃ u, RdVals w u x.row ∧ w.cell? (a.add (i * 3)) = some (.int .u8 x.k) ∧ w.cell? ((a.add (i * 3)).add 1) = some (.int .u8 x.which) ∧ w.cell? ((a.add (i * 3)).add 2) = some u := fun i hi' => by
      obtain ⟨cs, hc, ht'⟩ := hi i (by omega)
      rw [hC] at hc
      obtain ⟨_, hcl, hat⟩ := World.cells?_some hc
      obtain ⟨x, u, rfl, hx, hfit⟩ := spill_of hs h0 h1 h2 htr k0 k1 k2 honeV hCV hone hC rfl ht'
      have a0 := hat 0 (by decide)
      have a1 := hat 1 (by decide)
      have a2 := hat 2 (by decide)
      rw [add_zero] at a0
      exact ⟨x, hfit, u, hx, a0, a1, a2⟩
    have hall : ∃ acts : List Act17, acts.length = len ∧ ∀ i, (hi : i < acts.length) → acts[i].fits ∧ ∃ u, RdVals w u acts[i].row ∧ w.cell? (a.add (i * 3)) = some (.int .u8 acts[i].k) ∧ w.cell? ((a.add (i * 3)).add 1) = some (.int .u8 acts[i].which) ∧ w.cell? ((a.add (i * 3)).add 2) = some u := by
      refine ⟨(List.range len).map fun i => if h : i < len then (key i h).choose else ⟨0, 0, []⟩, by simp, fun i hi' => ?_⟩
      have hil : i < len := by simpa using hi'
      rw [List.getElem_map, List.getElem_range, dif_pos hil]
      exact (key i hil).choose_spec
    obtain ⟨acts, hlen, has⟩ := hall
    refine ⟨acts, ⟨some a, cap, by rw [hlen], by omega, hm, fun j hj => ?_⟩, fun x hx => ?_⟩
    · obtain ⟨b, off, spot⟩ := a
      obtain ⟨_, u0, _, h00, _⟩ := has 0 (by omega)
      have hsp : spot = none := by
        have h := World.cell?_spot h00
        cases spot with
        | none => rfl
        | some x =>
          exfalso
          simp [Addr.add] at h
      subst hsp
      obtain ⟨_, u, hr, h3, h4, h5⟩ := has j hj
      rw [add_at] at h3 h4 h5
      rw [add_at] at h4 h5
      exact ⟨b, off, u, rfl, hr, h3, h4, h5⟩
    · obtain ⟨i, hi', rfl⟩ := List.mem_iff_getElem.1 hx
      exact (has i hi').1

end
end Go.Proofs.Ytoagpaphghgkmaa

/-
  A map from numbers to bools that the call makes: the set of the numbers that it says true of.
-/
namespace Go.Proofs.Ytoagpaphghgkmaa
open Go.RowKit Go.BigFrame Go.Maps

theorem plainElem_bool_inv {H : Type} {P : Program} {e : TypeId} (he : P.underlying e = some .bool) {v : Value} {z : DataW H × List MemPlace} (h : plainElem P e v = some z) : ∃ x, v = .bool x ∧ z.1 = .lit (.bool x) := by
  unfold plainElem at h
  rw [he] at h
  split at h
  · cases h; exact ⟨_, rfl, rfl⟩
  · rename_i h1; cases h1
  · rename_i h1; cases h1
  · cases h

theorem ikeyed : Keyed Try.prog 3 := int_keyed Try.underlying3
theorem wf_int {k : Int} (h : -9223372036854775808 ≤ k ∧ k ≤ 9223372036854775807) : (Lit.int .i64 k).wf = true := WalkArith.wf_i64 h
theorem zero_bool (w : World) : (zeroValue 4).run Try.prog w = .ok (.bool false) w := by kernel_rfl

/-- Block b is a map that says true of just these numbers. -/
def MSet (w : World) (b : Nat) (I : List Int) : Prop :=
  ∃ (n : Nat) (D : DataW Unit), w.ownsMap Try.prog 3 (plainElem Try.prog 4) b n D ∧ n ≤ I.length ∧ IsMap D ∧ ∀ k, -9223372036854775808 ≤ k ∧ k ≤ 9223372036854775807 → D.atKey (.int .i64 k) (.lit (.bool false)) = .lit (.bool (decide (k ∈ I)))

theorem MSet.made (w : World) : MSet (w.alloc (.map #[] 0)) w.heap.size [] :=
  ⟨0, .map [], World.ownsMap_made _ _ _ _, Nat.le_refl _, isMap_empty, fun _ _ => rfl⟩
theorem MSet.lt {w : World} {b : Nat} {I : List Int} (h : MSet w b I) : b < w.heap.size := by
  obtain ⟨n, D, h1, _⟩ := h
  exact h1.lt
theorem MSet.same {w w' : World} {b : Nat} {I : List Int} (h : MSet w b I) (hb : w'.heap[b]? = w.heap[b]?) : MSet w' b I := by
  obtain ⟨n, D, ⟨es, clock, h1, h2⟩, h3⟩ := h
  exact ⟨n, D, ⟨es, clock, hb.trans h1, h2⟩, h3⟩
theorem MSet.onlyS {X : Nat → Prop} {w w' : World} {b : Nat} {I : List Int} (h : MSet w b I) (ho : OnlyS X w w') (hx : ¬ X b) : MSet w' b I :=
  h.same (ho.block b h.lt hx)
theorem MSet.look {w : World} {b : Nat} {I : List Int} (h : MSet w b I) (k : Int) (hk : -9223372036854775808 ≤ k ∧ k ≤ 9223372036854775807) :
    (Instr.lookup 74 (.map (some b)) (.int .i64 k) false).run Try.prog w = .ok (.bool (decide (k ∈ I))) w := by
  obtain ⟨n, D, h1, _, _, h4⟩ := h
  obtain ⟨v, ps, hrun, hv⟩ := h1.lookup ikeyed Try.underlying74 (zero_bool w) (plainElem_bool Try.underlying4 false) (keyOf_int_mk Try.underlying3 (wf_int hk))
  obtain ⟨x, rfl, hx⟩ := plainElem_bool_inv Try.underlying4 hv
  rw [hrun]
  simp only at hx
  rw [h4 k hk] at hx
  cases hx
  rfl
/-- How many it names: no more than were added. -/
theorem MSet.len {w : World} {b : Nat} {I : List Int} (h : MSet w b I) (ty : TypeId) : ∃ n : Nat, n ≤ I.length ∧ (Builtin.len_ #[74] ty #[.map (some b)]).run Try.prog w = .ok (.int .i64 (n : Nat)) w := by
  obtain ⟨n, D, h1, h2, -⟩ := h
  exact ⟨_, Nat.le_trans h1.size_le h2, h1.len Try.underlying74 ty⟩
theorem MSet.add {w : World} {b : Nat} {I : List Int} (h : MSet w b I) (k : Int) (hk : -9223372036854775808 ≤ k ∧ k ≤ 9223372036854775807) (hl : I.length < maxLen) :
    ∃ w', (Instr.mapUpdate 74 (.map (some b)) (.int .i64 k) (.bool true)).run Try.prog w = .ok () w' ∧ MSet w' b (I ++ [k]) ∧ OnlyS (fun x => x = b) w w' := by
  obtain ⟨n, D, h1, h2, h3, h4⟩ := h
  have hkey := keyOf_int_mk (P := Try.prog) Try.underlying3 (wf_int hk)
  obtain ⟨w', hrun, h5, h6⟩ := h1.update ikeyed Try.underlying74 (Nat.lt_of_le_of_lt h2 hl) hkey (plainElem_bool Try.underlying4 true)
  refine ⟨w', hrun, ⟨n + 1, _, h5, by simp; omega, h3.put _ _, fun j hj => ?_⟩, ⟨h6.os, h6.tape, h6.output, h6.size, fun i hi hx => h6.block i hi (fun e => hx (by cases e; rfl))⟩⟩
  by_cases hjk : j = k
  · subst hjk
    rw [atKey_put_same h3 (ikeyed.key hkey)]
    simp
  · rw [atKey_put_other (by intro e; cases e; exact hjk rfl), h4 j hj]
    simp [hjk]

end Go.Proofs.Ytoagpaphghgkmaa
