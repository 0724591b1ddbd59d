/-
  Texts of this proof, merged: IntSort, SortI, AskP6, MayP6, MayP7, AskMayW, OpenVal, OpenVals, OpenRows, OpenZone.
-/
import Derived.Lib.SlicesCompact
import Derived.Sort.OwnSortedInts
import Derived.Laws.EntriesVeiled
import Derived.Lib.SmallJoins
import Derived.Deep.Slices
import Derived.Deep.Fields
import Derived.Test.YtfnmcdjfdhdlmaaGreatDoorZ2
import Derived.Test.YtfnmcdjfdhdlmaaGreatDoorZ17
import Derived.Test.YtfnmcdjfdhdlmaaGreatDoorZ3
import Derived.Test.YtfnmcdjfdhdlmaaGreatDoorZ4
import Derived.Test.YtfnmcdjfdhdlmaaGreatDoorZ16
import Derived.Test.YtfnmcdjfdhdlmaaGreatDoorZ15
import Derived.Test.YtfnmcdjfdhdlmaaGreatDoorZ8
import Derived.Test.YtfnmcdjfdhdlmaaGreatDoorZ1
/-
  Numbers sorted, and each of them once: rising, with the same members. Over lists. No program.
-/
namespace Go.Proofs.YtfnmcdjfdhdlmaaGreatDoor
open Go.Lib

theorem upI_snoc {l : List Int} {x : Int} (h : upI l) (hx : ∀ y ∈ l, y < x) : upI (l ++ [x]) := by
  induction l with
  | nil => exact ⟨fun y hy => (by cases hy), trivial⟩
  | cons a t ih =>
    refine ⟨fun y hy => ?_, ih h.2 fun y hy => hx y (List.mem_cons_of_mem _ hy)⟩
    rcases List.mem_append.1 hy with hy | hy
    · exact h.1 y hy
    · rw [List.mem_singleton.1 hy]; exact hx a (List.mem_cons_self ..)
theorem compactI_upto {d : Array Int} (hs : ∀ i j, i ≤ j → j < d.size → d[i]! ≤ d[j]!) (m : Nat) (hm : m ≤ d.size) :
    upI (compactUpTo d m) ∧ (∀ x ∈ compactUpTo d m, ∃ j, j < m ∧ x = d[j]!) ∧ ∀ j, j < m → d[j]! ∈ compactUpTo d m := by
  induction m with
  | zero => exact ⟨trivial, fun x hx => by simp [compactUpTo] at hx, fun j hj => by omega⟩
  | succ m ih =>
    obtain ⟨h1, h2, h3⟩ := ih (by omega)
    rw [compactUpTo_succ]
    by_cases hk : keeps d m = true
    · rw [if_pos hk]
      refine ⟨?_, fun x hx => ?_, fun j hj => ?_⟩
      · refine upI_snoc h1 fun x hx => ?_
        obtain ⟨j, hj, rfl⟩ := h2 x hx
        unfold keeps at hk
        have hne : d[m]! ≠ d[m - 1]! := by
          rcases of_decide_eq_true hk with h | h
          · omega
          · exact h
        have e1 := hs j (m - 1) (by omega) (by omega)
        have e2 := hs (m - 1) m (by omega) (by omega)
        omega
      · rcases List.mem_append.1 hx with hx | hx
        · obtain ⟨j, hj, e⟩ := h2 x hx
          exact ⟨j, by omega, e⟩
        · exact ⟨m, by omega, List.mem_singleton.1 hx⟩
      · by_cases e : j = m
        · subst e; simp
        · exact List.mem_append.2 (.inl (h3 j (by omega)))
    · rw [if_neg hk, List.append_nil]
      refine ⟨h1, fun x hx => ?_, fun j hj => ?_⟩
      · obtain ⟨j, hj, e⟩ := h2 x hx
        exact ⟨j, by omega, e⟩
      · by_cases e : j = m
        · subst e
          unfold keeps at hk
          have hk2 : ¬ (j = 0 ∨ d[j]! ≠ d[j - 1]!) := fun h => hk (decide_eq_true h)
          have hj0 : j ≠ 0 := fun h => hk2 (.inl h)
          have heq : d[j]! = d[j - 1]! := Classical.byContradiction fun h => hk2 (.inr h)
          rw [heq]
          exact h3 (j - 1) (by omega)
        · exact h3 j (by omega)
/-- Sorted and each once. -/
theorem sortedI (l : List Int) : upI (Lib.compact (l.mergeSort fun x y => decide (x ≤ y))) ∧ ∀ z, z ∈ Lib.compact (l.mergeSort fun x y => decide (x ≤ y)) ↔ z ∈ l := by
  have hp : (l.mergeSort fun x y => decide (x ≤ y)).Pairwise fun x y => x ≤ y :=
    (List.pairwise_mergeSort (le := fun x y : Int => decide (x ≤ y)) (fun a b c h1 h2 => decide_eq_true (Int.le_trans (of_decide_eq_true h1) (of_decide_eq_true h2))) (fun a b => by
      rcases Int.le_total a b with h | h
      · rw [decide_eq_true h]; rfl
      · rw [decide_eq_true h]; simp) l).imp fun h => of_decide_eq_true h
  have hmem : ∀ x, x ∈ (l.mergeSort fun x y => decide (x ≤ y)) ↔ x ∈ l := fun x => List.mem_mergeSort
  generalize (l.mergeSort fun x y => decide (x ≤ y)) = s at hp hmem
  have hs : ∀ i j, i ≤ j → j < s.toArray.size → s.toArray[i]! ≤ s.toArray[j]! := by
    intro i j hij hj
    have hj' : j < s.length := by simpa using hj
    have hi' : i < s.length := by omega
    have gi : s.toArray[i]! = s[i] := by simp [hi']
    have gj : s.toArray[j]! = s[j] := by simp [hj']
    rw [gi, gj]
    by_cases e : i = j
    · subst e
      exact Int.le_refl _
    · exact List.pairwise_iff_getElem.1 hp i j hi' hj' (by omega)
  obtain ⟨h1, h2, h3⟩ := compactI_upto hs s.length (by simp)
  refine ⟨h1, fun z => ⟨fun hz => ?_, fun hz => ?_⟩⟩
  · obtain ⟨j, hj, e⟩ := h2 z hz
    rw [← hmem, e]
    have gj : s.toArray[j]! = s[j] := by simp [hj]
    rw [gj]
    exact List.getElem_mem hj
  · obtain ⟨j, hj, e⟩ := List.mem_iff_getElem.1 ((hmem z).2 hz)
    have gj : s.toArray[j]! = s[j] := by simp [hj]
    rw [← e, ← gj]
    exact h3 j hj
/-- The columns that nodes ask for, as they come. -/
def colL (l : List Nd) : List Int := (l.filter fun n => colN n).map Nd.col
theorem cols_sorted (l : List Nd) : Lib.compact ((colL l).mergeSort fun x y => decide (x ≤ y)) = colsS l := by
  obtain ⟨h1, h2⟩ := sortedI (colL l)
  obtain ⟨h3, h4⟩ := colsS_spec l
  refine upI_unique _ _ h1 h3 fun z => ?_
  rw [h2, h4]
  unfold colL
  simp only [List.mem_map, List.mem_filter]
  constructor
  · rintro ⟨n, ⟨h5, h6⟩, h7⟩; exact ⟨n, h5, h6, h7⟩
  · rintro ⟨n, h5, h6, h7⟩; exact ⟨n, ⟨h5, h6⟩, h7⟩

end Go.Proofs.YtfnmcdjfdhdlmaaGreatDoor

/-
  slices.Sort and slices.Compact at []int over rows of the call's own.
-/
namespace Go.Proofs.YtfnmcdjfdhdlmaaGreatDoor
open Go.RowKit Go.BigFrame Go.Shelf

theorem sortI_any (base : Nat) (v : Value) (l : List Int) (w : World) (ho : w.ownsRow base 3 1 v l.length (l.map (Value.int .i64))) (hb : base ≤ w.heap.size) (hl : l.length ≤ 100000) :
    Calls Tryz.prog 47 #[v] w fun e w' => e = .returned (.tuple #[]) ∧ w'.ownsRow base 3 1 v (l.mergeSort fun x y => decide (x ≤ y)).length ((l.mergeSort fun x y => decide (x ≤ y)).map (Value.int .i64)) ∧ Below base w w' := by
  have hlen : (l.mergeSort fun x y => decide (x ≤ y)).length = l.length := List.length_mergeSort l
  rcases ho.2 with ⟨rfl, h0⟩ | ⟨g, cap, cur, rfl, hbase, hblk, h1, h2, h3, h4⟩
  · have hl0 : l = [] := List.length_eq_zero_iff.1 h0
    subst hl0
    refine (Any.slices_Sort_int_none Tryz.laysSortI none 0 w).mono ?_
    rintro e w' ⟨rfl, rfl⟩
    exact ⟨rfl, by rw [List.mergeSort_nil]; exact owns_nil _ _ _ _, Below.refl _ _⟩
  · refine (Any.slices_Sort_int Tryz.laysSortI g 0 cap l w (holds_of_blockI hblk (by rw [Nat.mul_one] at h4; exact h4)) (Array.getElem?_eq_some_iff.1 hblk).1 (by omega)).mono ?_
    rintro e w' ⟨rfl, n, os, rfl⟩
    refine ⟨rfl, ?_, (Below.refl base w).grown (grownBy_sortedI _) hb (fun j hj => by cases hj; exact hbase)⟩
    have h := ownsRow_sortedI (n := n) (os := os) hlen hbase hblk h1 h2 h3
    rw [hlen]
    exact h
theorem compactI_len (l : List Int) : (Lib.compact l).length ≤ l.length := by
  unfold Lib.compact Lib.compactUpTo
  rw [List.length_map]
  refine Nat.le_trans (List.length_filter_le _ _) ?_
  rw [List.length_range]
  exact Nat.le_refl _
theorem compactI_any (base : Nat) (v : Value) (l : List Int) (w : World) (ho : w.ownsRow base 3 1 v l.length (l.map (Value.int .i64))) (hb : base ≤ w.heap.size) (hl : l.length ≤ 100000) :
    Calls Tryz.prog 48 #[v] w fun e w' => ∃ v', e = .returned v' ∧ w'.ownsRow base 3 1 v' (Lib.compact l).length ((Lib.compact l).map (Value.int .i64)) ∧ Below base w w' := by
  have hcl := compactI_len l
  rcases ho.2 with ⟨rfl, h0⟩ | ⟨g, cap, cur, rfl, hbase, hblk, h1, h2, h3, h4⟩
  · have hl0 : l = [] := List.length_eq_zero_iff.1 h0
    subst hl0
    refine (Any.slices_Compact_int_empty Tryz.laysCompactI none 0 w).mono ?_
    rintro e w' ⟨rfl, rfl⟩
    exact ⟨_, rfl, owns_nil _ _ _ _, Below.refl _ _⟩
  · refine (Any.slices_Compact_int Tryz.laysCompactI g 0 cap l w (holds_of_blockI hblk (by rw [Nat.mul_one] at h4; exact h4)) (by omega) h1).mono ?_
    rintro e w' ⟨rfl, q, rfl⟩
    have hlen : (Lib.compact l ++ List.replicate (l.length - (Lib.compact l).length) 0).length = l.length := by
      rw [List.length_append, List.length_replicate]
      omega
    have h := ownsRow_sortedI (n := q) (os := #[]) hlen hbase hblk h1 h2 h3
    have hg := grownBy_sortedI (w := w) (g := g) (n := q) (os := #[]) (Lib.compact l ++ List.replicate (l.length - (Lib.compact l).length) 0).toArray
    rw [Go.Sort.grow_empty] at h hg
    refine ⟨_, rfl, ?_, (Below.refl base w).grown hg hb (fun j hj => by cases hj; exact hbase)⟩
    have h5 := owns_take h (Lib.compact l).length hcl
    rw [List.map_append, List.take_left' (List.length_map _)] at h5
    exact h5

end Go.Proofs.YtfnmcdjfdhdlmaaGreatDoor

/-
  The program's contracts of conditions: Cols.
-/
namespace Go.Proofs.YtfnmcdjfdhdlmaaGreatDoor
open Go.RowKit Go.BigFrame

set_option maxRecDepth 100000 in
set_option maxHeartbeats 4000000 in
theorem pCols14_any (u : Value) (l : List Nd) (w : World) (hu : RdNds w u l) (hl : l.length ≤ 100000) :
    Calls Tryz.prog 21 #[u] w fun e w' => ∃ v, e = .returned v ∧ w'.ownsRow w.heap.size 3 1 v (colsS l).length ((colsS l).map (Value.int .i64)) ∧ Ext w w' := by
  obtain ⟨i0, hi, hz0, hz1, hz2⟩ := info_parts Tryz.info_int8
  obtain ⟨ao, cap, rfl, -, -⟩ := hu.shape
  obtain ⟨-, h1, h2, hc⟩ := hu.plain
  have HC := Lib.hid hc
  have HSO := Lib.hid (cols_sorted l)
  unfold maxLen at h2
  obtain ⟨N, hN⟩ : ∃ N, l.length = N := ⟨_, rfl⟩
  have HN := Lib.hid hN
  rw [hN] at h1 hl ⊢
  clear hu hc hN
  go_enter Tryz.func21, Tryz.ntmps21
  go_wp2_with fail
  go_loopw [3, 8] (fun s i wr => ∃ (j : Nat) (sv : Value), j ≤ N ∧ i = .int .i64 j ∧ sv = s ∧ wr.ownsRow w.heap.size 3 1 sv (colL (l.take j)).length ((colL (l.take j)).map (Value.int .i64)) ∧ (colL (l.take j)).length ≤ j ∧ Ext w wr) (fun _ i _ => N - (intOf i).toNat)
  case atStart => exact ⟨0, .slice none 0 0, Nat.zero_le _, rfl, rfl, owns_nil _ _ _ _, Nat.le_refl _, Ext.keeps.refl _⟩
  case round =>
    obtain ⟨j, sv, hj, rfl, rfl, ho, hln, hx⟩ := hrel
    have HO := Lib.hid ho
    have HX := Lib.hid hx
    clear ho hx
    obtain ⟨sa, sc, rfl, hs1, hs2⟩ := own_shapeP HO.out
    by_cases hlt : j < N
    · have hjl : j < l.length := by have := HN.out; omega
      obtain ⟨g, off, rfl, c0, c1, c2, c3, c4, c5⟩ := HC.out j hjl
      have x0 := (HX.out.cell (lt_of_cell c0)).trans c0
      have x1 := (HX.out.cell (lt_of_cell c1)).trans c1
      have x2 := (HX.out.cell (lt_of_cell c2)).trans c2
      have x3 := (HX.out.cell (lt_of_cell c3)).trans c3
      have x4 := (HX.out.cell (lt_of_cell c4)).trans c4
      have x5 := (HX.out.cell (lt_of_cell c5)).trans c5
      have HS := Lib.hid (show colL (l.take (j + 1)) = colL (l.take j) ++ (if colN l[j] = true then [l[j].col] else []) by
        unfold colL
        rw [List.take_succ_eq_append_getElem hjl, List.filter_append, List.map_append]
        congr 1
        by_cases h : colN l[j] = true
        · rw [if_pos h, List.filter_cons_of_pos h]; rfl
        · rw [if_neg h, List.filter_cons_of_neg h]; rfl)
      have HCN := Lib.hid (pOfColumn_any l[j])
      generalize l[j] = nd at x0 x1 x2 x3 x4 x5 HS HCN
      generalize colL (l.take j) = cs at HO HS hln ⊢
      obtain ⟨L, hL⟩ : ∃ L, cs.length = L := ⟨_, rfl⟩
      have HL := Lib.hid hL
      rw [hL] at HO hln ⊢
      generalize colN nd = b at HS HCN
      obtain ⟨o, c, kd, ⟨vk, vn, vs⟩⟩ := nd
      unfold Nd.val at HCN
      simp only at x0 x1 x2 x3 x4 x5 HCN HS
      have HB := Lib.hid (Blk.new wr [.int .u8 o, .int .i64 c, .int .i64 kd, .int .u8 vk, .int .i64 vn, .string ⟨vs.toArray⟩] 38)
      clear c0 c1 c2 c3 c4 c5 hjl hL
      go_wp2_with fail
      refine (HCN.out _).mono ?_
      rintro e w1 ⟨rfl, hx⟩
      have HX0 := Lib.hid (Ext.trans (ext_new _ _) hx)
      have HX1 := Lib.hid (Ext.trans HX.out HX0.out)
      have HO1 := Lib.hid (owns_ext HO.out HX0.out)
      have e1 : w1.cell? ⟨wr.heap.size, 1, none⟩ = some (.int .i64 c) := (HB.out.ext hx).cell 1 _ rfl
      clear hx
      cases b with
      | false =>
        go_wp2_with fail
        go_roundw
        case rel => exact ⟨j + 1, _, by omega, by go_num, rfl, by rw [HS.out, if_neg (by decide), List.append_nil, HL.out]; exact HO1.out, by rw [HS.out, if_neg (by decide), List.append_nil, HL.out]; omega, HX1.out⟩
        case measure => simp [intOf]; omega
      | true =>
        have HST := Lib.hid (show colL (l.take (j + 1)) = cs ++ [c] by have h := HS.out; simpa using h)
        have hsz := HX1.out.size
        go_wp2_with (at_builtin; go_loud (refine wpList_append_one rfl (.tmp 14) (.tmp 17) 52 rfl w.heap.size 3 i0 (.int .i64 0) 1 8 Tryz.underlying52 hi hz0 hz1 hz2 rfl (by decide) (by decide) _ L _ [.int .i64 c] rfl HO1.out rfl rfl (fun u hu => by rw [List.mem_singleton.1 hu]; rfl) (by omega) hsz ?_); intro v4 w4 hown4 hbel4 hos4 hgr4)
        obtain ⟨va, vc, rfl, hv1, hv2⟩ := own_shapeP hown4
        have HOW := Lib.hid hown4
        have HBL := Lib.hid hbel4
        clear hown4 hbel4 hos4 hgr4
        go_wp2_with fail
        go_roundw
        case rel => exact ⟨j + 1, _, by omega, by go_num, rfl, by rw [HST.out, List.map_append, List.length_append, HL.out]; exact HOW.out, by rw [HST.out, List.length_append, HL.out]; simp; omega, Below.trans HX1.out HBL.out⟩
        case measure => simp [intOf]; omega
    · have e : j = N := by omega
      subst e
      rw [List.take_of_length_le (by have := HN.out; omega)] at HO
      rw [List.take_of_length_le (by have := HN.out; omega)] at hln ⊢
      have HLN := Lib.hid hln
      have HSI := Lib.hid (fun W (h : W.ownsRow w.heap.size 3 1 (.slice sa (colL l).length sc) (colL l).length ((colL l).map (Value.int .i64))) (hb : w.heap.size ≤ W.heap.size) => sortI_any w.heap.size (.slice sa (colL l).length sc) (colL l) W h hb (by have := HLN.out; omega))
      have hml : ((colL l).mergeSort fun x y => decide (x ≤ y)).length = (colL l).length := List.length_mergeSort _
      generalize ((colL l).mergeSort fun x y => decide (x ≤ y)) = s at HSI HSO hml
      have HSL := Lib.hid (show s.length ≤ 100000 by omega)
      clear hln hml
      go_wp2_with fail
      refine (HSI.out _ HO.out HX.out.size).mono ?_
      rintro e w2 ⟨rfl, ho2, hb2⟩
      have HO2 := Lib.hid ho2
      have HX2 := Lib.hid (Below.trans HX.out hb2)
      clear ho2 hb2
      go_wp2_with fail
      refine (compactI_any w.heap.size _ s w2 HO2.out HX2.out.size HSL.out).mono ?_
      rintro e w3 ⟨v3, rfl, ho3, hb3⟩
      rw [HSO.out] at ho3
      have HO3 := Lib.hid ho3
      have HX3 := Lib.hid (Below.trans HX2.out hb3)
      clear ho3 hb3
      go_wp2_with fail
      go_ret
      exact ⟨v3, rfl, HO3.out, HX3.out⟩

end Go.Proofs.YtfnmcdjfdhdlmaaGreatDoor

/-
  The program's contracts of conditions: the judge of what may come, and what may come of conditions.
-/
namespace Go.Proofs.YtfnmcdjfdhdlmaaGreatDoor
open Go.ChangeAt Go.RowKit Go.BigFrame

/-- Six rows of cells that were made one behind the other, and the last of them stored. -/
theorem six_made (w : World) (a b c d e f : Value) (t1 t2 t3 t4 t5 : TypeId) : (((((((w.alloc (.cells #[a] t1)).alloc (.cells #[b] t2)).alloc (.cells #[c] t3)).alloc (.cells #[d] t4)).alloc (.cells #[.bool false, .bool false, .bool false] 32)).alloc (.cells #[e] t5)).cell? ⟨w.heap.size + 1 + 1 + 1 + 1 + 1, 0, none⟩ = some e) ∧
    (((((((w.alloc (.cells #[a] t1)).alloc (.cells #[b] t2)).alloc (.cells #[c] t3)).alloc (.cells #[d] t4)).alloc (.cells #[.bool false, .bool false, .bool false] 32)).alloc (.cells #[e] t5)).frozen? ⟨w.heap.size + 1 + 1 + 1 + 1 + 1, 0, none⟩ = false) ∧
    ∃ W, W = ((((((w.alloc (.cells #[a] t1)).alloc (.cells #[b] t2)).alloc (.cells #[c] t3)).alloc (.cells #[d] t4)).alloc (.cells #[.bool false, .bool false, .bool false] 32)).alloc (.cells #[e] t5)).setCell ⟨w.heap.size + 1 + 1 + 1 + 1 + 1, 0, none⟩ f ∧ Ext w W ∧
      W.cell? ⟨w.heap.size, 0, none⟩ = some a ∧ W.cell? ⟨w.heap.size + 1, 0, none⟩ = some b ∧ W.cell? ⟨w.heap.size + 1 + 1, 0, none⟩ = some c ∧ W.cell? ⟨w.heap.size + 1 + 1 + 1, 0, none⟩ = some d ∧ W.cell? ⟨w.heap.size + 1 + 1 + 1 + 1 + 1, 0, none⟩ = some f ∧ Blk W (w.heap.size + 1 + 1 + 1 + 1) [.bool false, .bool false, .bool false] 32 := by
  have s1 : (w.alloc (.cells #[a] t1)).heap.size = w.heap.size + 1 := by simp only [World.alloc, Array.size_push]
  generalize hW1 : w.alloc (.cells #[a] t1) = W1 at s1 ⊢
  have s2 : (W1.alloc (.cells #[b] t2)).heap.size = w.heap.size + 1 + 1 := by rw [← s1]; simp only [World.alloc, Array.size_push]
  generalize hW2 : W1.alloc (.cells #[b] t2) = W2 at s2 ⊢
  have s3 : (W2.alloc (.cells #[c] t3)).heap.size = w.heap.size + 1 + 1 + 1 := by rw [← s2]; simp only [World.alloc, Array.size_push]
  generalize hW3 : W2.alloc (.cells #[c] t3) = W3 at s3 ⊢
  have s4 : (W3.alloc (.cells #[d] t4)).heap.size = w.heap.size + 1 + 1 + 1 + 1 := by rw [← s3]; simp only [World.alloc, Array.size_push]
  generalize hW4 : W3.alloc (.cells #[d] t4) = W4 at s4 ⊢
  have s5 : (W4.alloc (.cells #[.bool false, .bool false, .bool false] 32)).heap.size = w.heap.size + 1 + 1 + 1 + 1 + 1 := by rw [← s4]; simp only [World.alloc, Array.size_push]
  generalize hW5 : W4.alloc (.cells #[.bool false, .bool false, .bool false] 32) = W5 at s5 ⊢
  have b1 : Blk W1 w.heap.size [a] t1 := by rw [← hW1]; exact Blk.new w [a] t1
  have b2 : Blk W2 (w.heap.size + 1) [b] t2 := by rw [← hW2, ← s1]; exact Blk.new W1 [b] t2
  have b3 : Blk W3 (w.heap.size + 1 + 1) [c] t3 := by rw [← hW3, ← s2]; exact Blk.new W2 [c] t3
  have b4 : Blk W4 (w.heap.size + 1 + 1 + 1) [d] t4 := by rw [← hW4, ← s3]; exact Blk.new W3 [d] t4
  have b5 : Blk W5 (w.heap.size + 1 + 1 + 1 + 1) [.bool false, .bool false, .bool false] 32 := by rw [← hW5, ← s4]; exact Blk.new W4 [.bool false, .bool false, .bool false] 32
  have b6 : Blk (W5.alloc (.cells #[e] t5)) (w.heap.size + 1 + 1 + 1 + 1 + 1) [e] t5 := by rw [← s5]; exact Blk.new W5 [e] t5
  have x1 : Ext w W1 := by rw [← hW1]; exact ext_new _ _
  have x2 : Ext W1 W2 := by rw [← hW2]; exact ext_new _ _
  have x3 : Ext W2 W3 := by rw [← hW3]; exact ext_new _ _
  have x4 : Ext W3 W4 := by rw [← hW4]; exact ext_new _ _
  have x5 : Ext W4 W5 := by rw [← hW5]; exact ext_new _ _
  have x6 : Ext W5 (W5.alloc (.cells #[e] t5)) := ext_new _ _
  refine ⟨b6.cell 0 _ rfl, b6.free 0, _, rfl, Below.setCell (Ext.trans (Ext.trans (Ext.trans (Ext.trans (Ext.trans x1 x2) x3) x4) x5) x6) (by show w.heap.size ≤ w.heap.size + 1 + 1 + 1 + 1 + 1; omega) _, ?_, ?_, ?_, ?_, (b6.set 0 f).cell 0 _ rfl, ?_⟩
  · exact (Blk.beside (((((b1.ext x2).ext x3).ext x4).ext x5).ext x6) (by omega) 0 f).cell 0 _ rfl
  · exact (Blk.beside ((((b2.ext x3).ext x4).ext x5).ext x6) (by omega) 0 f).cell 0 _ rfl
  · exact (Blk.beside (((b3.ext x4).ext x5).ext x6) (by omega) 0 f).cell 0 _ rfl
  · exact (Blk.beside ((b4.ext x5).ext x6) (by omega) 0 f).cell 0 _ rfl
  · exact Blk.beside (b5.ext x6) (by omega) 0 f

set_option maxRecDepth 100000 in
set_option maxHeartbeats 4000000 in
theorem pJudge3_any (GL GN GJ : Nat) (pr u : Value) (l : List Nd) (leaf : Nd → T3) (nt : T3 → T3) (jn : Nd → T3 → T3 → T3) (w : World)
    (heL : ∀ args w, (callFunc GL args).run Tryz.prog w = .ok (.enter GL args) w) (heN : ∀ args w, (callFunc GN args).run Tryz.prog w = .ok (.enter GN args) w) (heJ : ∀ args w, (callFunc GJ args).run Tryz.prog w = .ok (.enter GJ args) w)
    (hL : ∀ n ∈ l, ∀ W, Ext w W → Calls Tryz.prog GL #[n.val, pr] W fun e w' => e = .returned (tripV (leaf n)) ∧ Ext W w')
    (hN : ∀ a, ∀ W, Calls Tryz.prog GN #[tripV a] W fun e w' => e = .returned (tripV (nt a)) ∧ Ext W w')
    (hJ : ∀ n a b, ∀ W, Calls Tryz.prog GJ #[.int .u8 (Nd.op n), tripV a, tripV b] W fun e w' => e = .returned (tripV (jn n a b)) ∧ Ext W w')
    (hu : RdNds w u l) (hlen : l.length ≤ 40) (hm : ∀ n ∈ l, manyI n = (kidsN n : Int) ∧ kidsN n ≤ 40 ∧ (n.op = 4 → kidsN n = 1)) (he : endK 1 l = some []) :
    Calls Tryz.prog 24 #[u, .func (.func GL) #[] #[pr], .func (.func GN) #[] #[], .func (.func GJ) #[] #[]] w fun e w' => (∃ v : T3, stk (combG leaf nt jn) l = [v] ∧ e = .returned (tripV v)) ∧ Ext w w' := by
  have HI := Lib.hid (fun W0 p0 p1 p2 p3 p4 (h : Ext w W0) hc => judgeIn3_any GL GN GJ pr u l leaf nt jn W0 p0 p1 p2 p3 p4 heL heN heJ (fun n hn W hW => hL n hn W (Ext.trans h hW)) hN hJ (hu.mono h) hlen hm hc l.length 0 [] W0 (by omega) (Nat.zero_le _) (Ext.keeps.refl _) he)
  obtain ⟨ao, cap, rfl, -, -⟩ := hu.shape
  generalize hNl : l.length = N at *
  have hmf : ∀ (fn : Fn) (first cap : Array Value) (w : World), (Instr.makeFunc fn first cap).run Tryz.prog w = .ok (.func fn first cap) w := fun _ _ _ _ => rfl
  obtain ⟨hcl, hfr, W0, hW0, hx0, k0, k1, k3, k4, k2, kb⟩ := six_made w (.slice ao N cap) (.func (.func GL) #[] #[pr]) (.func (.func GN) #[] #[]) (.func (.func GJ) #[] #[]) .nilFunc (.func (.func 53) #[] #[.pointer (some ⟨w.heap.size, 0, none⟩), .pointer (some ⟨w.heap.size + 1, 0, none⟩), .pointer (some ⟨w.heap.size + 1 + 1 + 1 + 1 + 1, 0, none⟩), .pointer (some ⟨w.heap.size + 1 + 1, 0, none⟩), .pointer (some ⟨w.heap.size + 1 + 1 + 1, 0, none⟩)]) 23 55 57 58 83
  have HC := Lib.hid (HI.out W0 w.heap.size (w.heap.size + 1) (w.heap.size + 1 + 1 + 1 + 1 + 1) (w.heap.size + 1 + 1) (w.heap.size + 1 + 1 + 1) hx0 ⟨k0, k1, k2, k3, k4⟩)
  have HEN := enters_judge3
  have HX0 := Lib.hid hx0
  have HZ2 := Lib.hid k2
  have HBR := Lib.hid kb
  clear heL heN heJ hL hN hJ hu hlen hm he k0 k1 k2 k3 k4 kb hx0 HI
  go_enter Tryz.func24, Tryz.ntmps24
  go_upto_region 2 with fail
  generalize ((((((w.alloc (.cells #[.slice ao N cap] 23)).alloc (.cells #[.func (.func GL) #[] #[pr]] 55)).alloc (.cells #[.func (.func GN) #[] #[]] 57)).alloc (.cells #[.func (.func GJ) #[] #[]] 58)).alloc (.cells #[.bool false, .bool false, .bool false] 32)).alloc (.cells #[.nilFunc] 83)) = W5 at hcl hfr hW0 ⊢
  have HW0 := Lib.hid hW0
  clear hW0
  go_upto_region 3 with fail
  rw [← HW0.out]
  have z2 := HZ2.out
  go_wp2_with fail
  refine HC.out.mono ?_
  rintro e w1 ⟨v, hst, rfl, hx⟩
  obtain ⟨v0, v1, v2⟩ := v
  have HST := Lib.hid hst
  have HR1 := Lib.hid ((HBR.out.ext hx).ext (ext_new w1 (.cells #[.bool v0, .bool v1, .bool v2] 32)))
  have HT1 := Lib.hid (Blk.new w1 [.bool v0, .bool v1, .bool v2] 32)
  have HX1 := Lib.hid (Ext.trans (Ext.trans HX0.out hx) (ext_new w1 (.cells #[.bool v0, .bool v1, .bool v2] 32)))
  clear hst hx z2
  unfold tripV
  simp only
  go_upto_region 4 with fail
  generalize w1.alloc (.cells #[.bool v0, .bool v1, .bool v2] 32) = w2 at HR1 HT1 HX1 ⊢
  have t0 : w2.cell? ⟨w1.heap.size, 0, none⟩ = some (.bool v0) := HT1.out.cell 0 _ rfl
  have t1 : w2.cell? ⟨w1.heap.size, 1, none⟩ = some (.bool v1) := HT1.out.cell 1 _ rfl
  have t2 : w2.cell? ⟨w1.heap.size, 2, none⟩ = some (.bool v2) := HT1.out.cell 2 _ rfl
  have r0 : w2.cell? ⟨w.heap.size + 1 + 1 + 1 + 1, 0, none⟩ = some (.bool false) := HR1.out.cell 0 _ rfl
  have r1 : w2.cell? ⟨w.heap.size + 1 + 1 + 1 + 1, 1, none⟩ = some (.bool false) := HR1.out.cell 1 _ rfl
  have r2 : w2.cell? ⟨w.heap.size + 1 + 1 + 1 + 1, 2, none⟩ = some (.bool false) := HR1.out.cell 2 _ rfl
  have f0 : w2.frozen? ⟨w.heap.size + 1 + 1 + 1 + 1, 0, none⟩ = false := HR1.out.free 0
  have f1 : w2.frozen? ⟨w.heap.size + 1 + 1 + 1 + 1, 1, none⟩ = false := HR1.out.free 1
  have f2 : w2.frozen? ⟨w.heap.size + 1 + 1 + 1 + 1, 2, none⟩ = false := HR1.out.free 2
  go_wp2_with fail
  refine bodyPost_ret (results_cell_row (P := Tryz.prog) (fn := Tryz.f24) rfl _ _ (w.heap.size + 1 + 1 + 1 + 1) 32 _ (0, 0) _ rfl (blk_set3 HR1.out _ _ _) Tryz.underlying32 rfl (by kernel_rfl)) rfl ?_
  exact ⟨⟨(v0, v1, v2), HST.out, rfl⟩, ext_set3 HX1.out (by show w.heap.size ≤ w.heap.size + 1 + 1 + 1 + 1; omega) _ _ _⟩

end Go.Proofs.YtfnmcdjfdhdlmaaGreatDoor

/-
  The program's contracts of conditions: what may come of conditions.
-/
namespace Go.Proofs.YtfnmcdjfdhdlmaaGreatDoor
open Go.ChangeAt Go.RowKit Go.BigFrame

set_option maxRecDepth 100000 in
theorem indexFuncI_any (G : Nat) (p : Value) (B : Int → Bool) (u : Value) (ws : List Int) (w : World) (hu : RdV w u (ws.map (Value.int .i64))) (he : ∀ args w, (callFunc G args).run Tryz.prog w = .ok (.enter G args) w)
    (hf : ∀ v, ∀ W, Ext w W → Calls Tryz.prog G #[.int .i64 v, p] W fun e w' => e = .returned (.bool (B v)) ∧ Ext W w') :
    Calls Tryz.prog 45 #[u, .func (.func G) #[] #[p]] w fun e w' => (∃ k : Int, e = .returned (.int .i64 k) ∧ -1 ≤ k ∧ k ≤ 9223372036854775807 ∧ decide (0 ≤ k) = ws.any B) ∧ Ext w w' := by
  obtain ⟨ao, cap, rfl, -, -, -⟩ := RdV.cellsAt hu
  rw [List.length_map] at *
  obtain ⟨-, h1, h2, hc⟩ := RdV.plain hu
  have HC := Lib.hid hc
  have HF := Lib.hid hf
  unfold maxLen at h2
  obtain ⟨N, hN⟩ : ∃ N, ws.length = N := ⟨_, rfl⟩
  have HN := Lib.hid hN
  rw [hN] at h1 ⊢
  clear hu hc hf hN
  go_enter Tryz.func45, Tryz.ntmps45
  go_wp2_with fail
  go_loopw [5, 8] (fun _ i wr => ∃ j : Nat, j ≤ N ∧ i = .int .i64 j ∧ (ws.take j).any B = false ∧ Ext w wr) (fun _ i _ => N - (intOf i).toNat)
  case atStart => exact ⟨0, Nat.zero_le _, rfl, rfl, Ext.keeps.refl _⟩
  case round =>
    obtain ⟨j, hj, rfl, hb, hx⟩ := hrel
    have HB := Lib.hid hb
    have HX := Lib.hid hx
    clear hb hx
    by_cases hlt : j < N
    · have hjl : j < ws.length := by have := HN.out; omega
      obtain ⟨g, off, rfl, c0⟩ := HC.out j hjl
      have x0 := (HX.out.cell (lt_of_cell c0)).trans c0
      have HS := Lib.hid (List.take_succ_eq_append_getElem hjl)
      have HM := Lib.hid (List.getElem_mem hjl)
      have HFC := Lib.hid (HF.out ws[j] wr HX.out)
      generalize ws[j] = v at x0 HS HFC HM
      have HEN := he
      clear c0
      cases hb : B v with
      | true =>
        rw [hb] at HFC
        have HB1 := Lib.hid hb
        clear hb
        go_wp2_with fail
        refine HFC.out.mono ?_
        rintro e w2 ⟨rfl, hx⟩
        have HX2 := Lib.hid (Ext.trans HX.out hx)
        clear hx
        go_wp2_with fail
        go_ret
        exact ⟨⟨_, rfl, by omega, by omega, by rw [List.any_eq_true.2 ⟨_, HM.out, HB1.out⟩]; exact decide_eq_true (by omega)⟩, HX2.out⟩
      | false =>
        rw [hb] at HFC
        have HB1 := Lib.hid hb
        clear hb
        go_wp2_with fail
        refine HFC.out.mono ?_
        rintro e w2 ⟨rfl, hx⟩
        have HX2 := Lib.hid (Ext.trans HX.out hx)
        clear hx
        go_wp2_with fail
        go_roundw
        case rel => exact ⟨j + 1, by omega, by go_num, by rw [HS.out, List.any_append, HB.out]; simp [HB1.out], HX2.out⟩
        case measure => simp [intOf]; omega
    · have HNO := Lib.hid (show ws.any B = false by have h := HB.out; rwa [List.take_of_length_le (by have := HN.out; omega)] at h)
      go_wp2_with fail
      go_ret
      exact ⟨⟨-1, rfl, by omega, by omega, by rw [HNO.out]; decide⟩, HX.out⟩

set_option maxRecDepth 100000 in
theorem containsFuncI_any (G : Nat) (p : Value) (B : Int → Bool) (u : Value) (ws : List Int) (w : World) (hu : RdV w u (ws.map (Value.int .i64))) (he : ∀ args w, (callFunc G args).run Tryz.prog w = .ok (.enter G args) w)
    (hf : ∀ v, ∀ W, Ext w W → Calls Tryz.prog G #[.int .i64 v, p] W fun e w' => e = .returned (.bool (B v)) ∧ Ext W w') :
    Calls Tryz.prog 20 #[u, .func (.func G) #[] #[p]] w fun e w' => e = .returned (.bool (ws.any B)) ∧ Ext w w' := by
  have HI := Lib.hid (indexFuncI_any G p B u ws w hu he hf)
  clear hf
  go_enter Tryz.func20, Tryz.ntmps20
  go_wp2_with fail
  refine HI.out.mono ?_
  rintro e w2 ⟨⟨k, rfl, hk1, hk2, hk⟩, hx⟩
  go_wp2_with fail
  go_ret
  exact ⟨by rw [← hk]; rfl, hx⟩

theorem enters_may1 : ∀ args w, (callFunc 17 args).run Tryz.prog w = .ok (.enter 17 args) w := enters_of Tryz.func17 (by kernel_rfl) rfl
theorem enters_mayNot : ∀ args w, (callFunc 25 args).run Tryz.prog w = .ok (.enter 25 args) w := enters_of Tryz.func25 (by kernel_rfl) rfl
theorem enters_mayJoined : ∀ args w, (callFunc 26 args).run Tryz.prog w = .ok (.enter 26 args) w := enters_of Tryz.func26 (by kernel_rfl) rfl

theorem noZone_any (ao : Option Addr) (N cap : Nat) (c : Int) (kb : Nat) (w : World) (_hN : N ≤ 9223372036854775807) (hkb : w.cell? ⟨kb, 0, none⟩ = some (.slice ao N cap)) :
    Calls Tryz.prog 17 #[.int .i64 c, .pointer (some ⟨kb, 0, none⟩)] w fun e w' => e = .returned (.bool (!decide (0 ≤ c ∧ c < (N : Int)))) ∧ Ext w w' := by
  have HI := Lib.hid (fun W => in_any N c W)
  generalize decide (0 ≤ c ∧ c < (N : Int)) = b at HI ⊢
  go_enter Tryz.func17, Tryz.ntmps17
  go_wp2_with fail
  refine (HI.out _).mono ?_
  rintro e w1 ⟨rfl, rfl⟩
  go_wp2_with fail
  go_ret
  exact ⟨rfl, Ext.keeps.refl _⟩

theorem cols_in {K : List Int} {l : List Nd} {N : Nat} (h : rightA okP K l) (hN : N = K.length) : (colsS l).any (fun c => !decide (0 ≤ c ∧ c < (N : Int))) = false := by
  rw [List.any_eq_false]
  intro c hc
  obtain ⟨n, hn, h1, rfl⟩ := ((colsS_spec l).2 c).1 hc
  have h2 := (h.2.1 n hn).2.2.1
  rw [if_pos h1] at h2
  rw [decide_eq_true (by omega)]
  decide
theorem leaf_in {K : List Int} {l : List Nd} {zs : List Zo} (h : rightA okP K l) (hN : zs.length = K.length) : ∀ n ∈ l, 5 ≤ n.op → n.op ≤ 8 → 0 ≤ n.col ∧ n.col < zs.length := fun n hn h5 h8 => by
  have h2 := (h.2.1 n hn).2.2.1
  have hcl : colN n = true := by unfold colN; exact decide_eq_true (by omega)
  rw [if_pos hcl] at h2
  omega

set_option maxRecDepth 100000 in
set_option maxHeartbeats 2000000 in
theorem pMay_any (u v : Value) (K : List Int) (l : List Nd) (zs : List Zo) (w : World) (hu : RdNds w u l) (hf : FitN 5000 l) (hv : RdZos w v zs) (hz : FitZ zs) (hT : Tabs w) (hR : rightA okP K l) (hk : zs.length = K.length) :
    Calls Tryz.prog 8 #[u, v] w fun e w' => e = .returned (tripV (mayS l zs)) ∧ Ext w w' := by
  have HW := Lib.hid (fun W (h : Ext w W) => pWhole_any u l W (hu.mono h))
  rw [((right_iff okP K l).1 hR).1] at HW
  have HCO := Lib.hid (fun W (h : Ext w W) => pCols14_any u l W (hu.mono h) (by have := hR.1.2; omega))
  have HAN := Lib.hid (cols_in hR hk)
  have HJ := Lib.hid (fun (kb : Nat) W (h : Ext w W) (hkb : W.cell? ⟨kb, 0, none⟩ = some v) => pJudge3_any 22 25 26 (.pointer (some ⟨kb, 0, none⟩)) u l (leafZ zs) notZ joinZ W
    enters_may2 enters_mayNot enters_mayJoined
    (fun n hn W' h' => mayLeaf_any n v zs kb W' ((h'.cell (lt_of_cell hkb)).trans hkb) (hT.mono (Ext.trans h h')) ⟨(hf n hn).1.v, (hf n hn).2⟩ (hv.mono (Ext.trans h h')) hz (leaf_in hR hk n hn))
    (fun a W' => mayNot_any a W') (fun n a b W' => mayJoined_any n a b W') (hu.mono h) hR.1.2 (right_many hR) hR.2.2)
  have hone := may_one zs hR.2.2
  unfold combZ at hone
  rw [hone] at HJ
  generalize mayS l zs = z at HJ ⊢
  obtain ⟨ao, cap, rfl, hN1, hN2⟩ := hv.shape
  obtain ⟨bo, cb, rfl, -, -⟩ := hu.shape
  unfold maxLen at hN2
  have HCF := Lib.hid (fun (kb : Nat) (cv : Value) W (hcv : RdV W cv ((colsS l).map (Value.int .i64))) (hkb : W.cell? ⟨kb, 0, none⟩ = some (.slice ao zs.length cap)) => containsFuncI_any 17 (.pointer (some ⟨kb, 0, none⟩)) _ cv (colsS l) W hcv enters_may1 fun c W' h' =>
    noZone_any ao zs.length cap c kb W' (by omega) ((h'.cell (lt_of_cell hkb)).trans hkb))
  rw [HAN.out] at HCF
  generalize zs.length = N at *
  generalize l.length = M at *
  generalize colsS l = cl at HCO HCF
  have HX := Lib.hid (ext_3 w (.cells #[.slice ao N cap] 29) (.cells #[.bool false, .bool false, .bool false] 32) (.cells #[.bool false, .bool false, .bool false] 32))
  clear HX
  have HX := Lib.hid (Ext.trans (ext_new w (.cells #[.slice ao N cap] 29)) (ext_new _ (.cells #[.bool false, .bool false, .bool false] 32)))
  have HB := Lib.hid ((Blk.new w [.slice ao N cap] 29).ext (ext_new _ (.cells #[.bool false, .bool false, .bool false] 32)))
  have HR := Lib.hid (show Blk ((w.alloc (.cells #[.slice ao N cap] 29)).alloc (.cells #[.bool false, .bool false, .bool false] 32)) (w.heap.size + 1) [.bool false, .bool false, .bool false] 32 from by
    have h := Blk.new (w.alloc (.cells #[.slice ao N cap] 29)) [.bool false, .bool false, .bool false] 32
    simp only [World.alloc, Array.size_push] at h
    exact h)
  have hmf : ∀ (fn : Fn) (first cap : Array Value) (w : World), (Instr.makeFunc fn first cap).run Tryz.prog w = .ok (.func fn first cap) w := fun _ _ _ _ => rfl
  clear hu hf hv hz hT hR hk hone HAN
  go_enter Tryz.func8, Tryz.ntmps8
  go_upto_region 2 with fail
  generalize (w.alloc (.cells #[.slice ao N cap] 29)).alloc (.cells #[.bool false, .bool false, .bool false] 32) = WA at HB HR HX ⊢
  go_wp2_with fail
  refine (HW.out _ HX.out).mono ?_
  rintro e w1 ⟨rfl, hx⟩
  have HX1 := Lib.hid (Ext.trans HX.out hx)
  have HB1 := Lib.hid (HB.out.ext hx)
  have HR1 := Lib.hid (HR.out.ext hx)
  clear hx
  go_wp2_with fail
  refine (HCO.out _ HX1.out).mono ?_
  rintro e w2 ⟨cv, rfl, ho, hx⟩
  have HX2 := Lib.hid (Ext.trans HX1.out hx)
  have HB2 := Lib.hid (HB1.out.ext hx)
  have HR2 := Lib.hid (HR1.out.ext hx)
  have HRD := Lib.hid (RdV.of_owns ho)
  clear hx ho
  go_wp2_with fail
  refine (HCF.out w.heap.size cv _ HRD.out (HB2.out.cell 0 _ rfl)).mono ?_
  rintro e w3 ⟨rfl, hx⟩
  have HX3 := Lib.hid (Ext.trans HX2.out hx)
  have HB3 := Lib.hid (HB2.out.ext hx)
  have HR3 := Lib.hid (HR2.out.ext hx)
  clear hx
  go_wp2_with fail
  refine (HJ.out w.heap.size _ HX3.out (HB3.out.cell 0 _ rfl)).mono ?_
  rintro e w4 ⟨⟨y, hy, rfl⟩, hx⟩
  have hzy : z = y := by simpa using hy
  subst hzy
  have HX4 := Lib.hid (Ext.trans HX3.out hx)
  have HR4 := Lib.hid (HR3.out.ext hx)
  clear hx hy
  obtain ⟨z0, z1, z2⟩ := z
  unfold tripV
  simp only
  have r0 : w4.cell? ⟨w.heap.size + 1, 0, none⟩ = some (.bool false) := HR4.out.cell 0 _ rfl
  have r1 : w4.cell? ⟨w.heap.size + 1, 1, none⟩ = some (.bool false) := HR4.out.cell 1 _ rfl
  have r2 : w4.cell? ⟨w.heap.size + 1, 2, none⟩ = some (.bool false) := HR4.out.cell 2 _ rfl
  have f0 : w4.frozen? ⟨w.heap.size + 1, 0, none⟩ = false := HR4.out.free 0
  have f1 : w4.frozen? ⟨w.heap.size + 1, 1, none⟩ = false := HR4.out.free 1
  have f2 : w4.frozen? ⟨w.heap.size + 1, 2, none⟩ = false := HR4.out.free 2
  go_wp2_with fail
  refine bodyPost_ret (results_cell_row (P := Tryz.prog) (fn := Tryz.f8) rfl _ _ (w.heap.size + 1) 32 _ (0, 0) _ rfl (blk_set3 HR4.out _ _ _) Tryz.underlying32 rfl (by kernel_rfl)) rfl ?_
  exact ⟨rfl, ext_set3 HX4.out (by show w.heap.size ≤ w.heap.size + 1; omega) _ _ _⟩

end Go.Proofs.YtfnmcdjfdhdlmaaGreatDoor

/-
  AskMay: its walk.
-/
namespace Go.Proofs.YtfnmcdjfdhdlmaaGreatDoor
section
open Go.ChangeAt Go.RowKit Go.BigFrame

def kM (K : List UInt8) : List Int := K.map fun c => (c.toNat : Int)
theorem rd_kM {w : World} {u : Value} {K : List UInt8} (h : Rd w u K) : RdV w u ((kM K).map (Value.int .u8)) := by
  unfold Rd at h
  have e : K.map bv = (kM K).map (Value.int .u8) := by unfold kM; rw [List.map_map]; rfl
  rwa [e] at h

theorem eq_trip3 (a b c d e f : Bool) (w : World) :
    (Op.equalIn 10000 32 (.agg #[.bool a, .bool b, .bool c]) (.agg #[.bool d, .bool e, .bool f])).run Tryz.prog w = .ok (decide ((a, b, c) = (d, e, f))) w := by
  have e1 := fun (a b : Bool) (w : World) => run_equalIn_bool (P := Tryz.prog) w 9998 4 a b Tryz.underlying4
  have u3 := Tryz.isAgg4
  have z3 := Tryz.sizeOf4
  rw [show (10000 : Nat) = 9999 + 1 from rfl, Op.equalIn]
  rw [show (9999 : Nat) = 9998 + 1 from rfl]
  generalize (9998 : Nat) = d' at e1 ⊢
  simp [run_underlying Tryz.underlying32, z3, e1, Std.Legacy.Range.forIn_eq_forIn_range', List.range', part, u3]
  cases a <;> cases b <;> cases c <;> cases d <;> cases e <;> cases f <;> simp

set_option maxRecDepth 100000 in
set_option maxHeartbeats 8000000 in
theorem askMay_walk (u0 : Value) (K0 : List UInt8) (u1 : Value) (l : List Nd) (u2 : Value) (rs : List (List V)) (w : World) (h0 : Rd w u0 K0) (h1 : RdNds w u1 l) (hf1 : ∀ x ∈ l, x.fits ∧ x.v.s.length ≤ maxLen) (h2 : RdRows w u2 rs) (hf2 : ∀ vs ∈ rs, ∀ x ∈ vs, x.fits ∧ x.s.length ≤ maxLen) (hT : Tabs w) :
    Calls Tryz.prog 3 #[u0, u1, u2] w fun e w' => e = .returned (.bool true) ∧ Below w.heap.size w w' := by
  have hk := rd_kM h0
  have hKl : (kM K0).length = K0.length := List.length_map _
  generalize kM K0 = K at hk hKl
  obtain ⟨ko, kc, rfl, k1, k2, -⟩ := RdV.cellsAt hk
  rw [List.length_map] at *
  obtain ⟨no, nc, rfl, n1, n2⟩ := h1.shape
  obtain ⟨ao, ac, rfl, a1, a2, hat⟩ := h2
  have HK := Lib.hid hk
  have HN := Lib.hid h1
  have HT := Lib.hid hT
  have HAT := Lib.hid hat
  have HF2 := Lib.hid hf2
  have hKm : K.length ≤ 9223372036854775807 := by unfold maxLen at k2; omega
  have HS := Lib.hid (fun W (h : Ext w W) => small14_any _ l W (h1.mono h) (fun x hx => by have := hf1 x hx; unfold maxLen at this; exact ⟨this.1, by omega⟩))
  have HF1 := Lib.hid (show (∀ x ∈ l, x.v.s.length ≤ 200) → FitN 5000 l from fun h x hx => ⟨(hf1 x hx).1, by have := h x hx; omega⟩)
  obtain ⟨N, hN⟩ : ∃ N, K.length = N := ⟨_, rfl⟩
  obtain ⟨M, hM⟩ : ∃ M, l.length = M := ⟨_, rfl⟩
  obtain ⟨R, hR⟩ : ∃ R, rs.length = R := ⟨_, rfl⟩
  have HNE := Lib.hid hN
  have HME := Lib.hid hM
  have HRE := Lib.hid hR
  rw [hN] at k1 hKm HK ⊢
  rw [hM] at n1 HN HS ⊢
  rw [hR] at a1 ⊢
  unfold maxLen at k2 n2 a2
  clear h0 hk hKl h1 hf1 hf2 hT hat hN hM hR
  go_enter Tryz.func3, Tryz.ntmps3
  go_wp2_with fail
  refine (shown14_any _ HT.out).mono ?_
  rintro e w1 ⟨rfl, hx⟩
  have HX1 := Lib.hid hx
  clear hx
  go_wp2_with fail
  refine (HS.out _ HX1.out).mono ?_
  rintro e w2 ⟨⟨b, rfl, hb⟩, hx⟩
  have HX2 := Lib.hid (Ext.trans HX1.out hx)
  have HB := Lib.hid hb
  clear hx hb
  cases b with
  | false =>
    go_wp2_with fail
    go_ret
    exact ⟨rfl, HX2.out⟩
  | true =>
    have HSM := Lib.hid (HB.out (by first | rfl | trivial))
    have HFN := Lib.hid (HF1.out HSM.out.2)
    by_cases h20 : 20 < N
    · have d : decide (20 < N) = true := decide_eq_true h20
      have d' : decide ((20 : Int) < (N : Int)) = true := decide_eq_true (by omega)
      clear h20
      go_wp2_with fail
      go_ret
      exact ⟨rfl, HX2.out⟩
    · have d : decide (20 < N) = false := decide_eq_false h20
      have d' : decide ((20 : Int) < (N : Int)) = false := decide_eq_false (by omega)
      have HKS := Lib.hid (show K.length ≤ 1000000 by have := HNE.out; omega)
      clear h20
      go_wp2_with fail
      refine (refRight14_any _ _ K l _ (HK.out.mono HX2.out) HKS.out (HN.out.mono HX2.out) HFN.out (HT.out.mono HX2.out)).mono ?_
      rintro e w3 ⟨rfl, hx⟩
      have HX3 := Lib.hid (Ext.trans HX2.out hx)
      clear hx
      by_cases hRA : rightA okP K l
      · have HRA := Lib.hid hRA
        have HERR := Lib.hid (show errA okP K l = 0 from if_pos hRA)
        rw [HERR.out]
        clear hRA
        have HM20 := Lib.hid (show min (R : Int) 20 = ((min R 20 : Nat) : Int) by omega)
        have HMR := Lib.hid (show min R 20 ≤ R ∧ min R 20 ≤ 20 from ⟨Nat.min_le_left _ _, Nat.min_le_right _ _⟩)
        generalize min R 20 = m at HM20 HMR
        have hm20 := HM20.out
        have hm1 := HMR.out.1
        have HRW := Lib.hid (show RdRows w3 (.slice ao m ac) (rs.take m) from RdRows.takeK ((show RdRows w (.slice ao R ac) rs from ⟨ao, ac, by rw [HRE.out], by rw [HRE.out]; exact a1, by unfold maxLen; exact a2, HAT.out⟩).mono HX3.out) m HMR.out.1)
        go_wp2_with fail
        refine (zones14_any _ _ K (rs.take m) _ (HK.out.mono HX3.out) (by rw [HNE.out]; have := of_decide_eq_false d; omega) HRW.out (fun vs hvs => HF2.out vs (List.mem_of_mem_take hvs)) (by rw [List.length_take]; have := HMR.out.2; omega)).mono ?_
        rintro e w5 ⟨⟨z, ok, rfl, hok⟩, hx⟩
        have HX5 := Lib.hid (Ext.trans HX3.out hx)
        have HOK := Lib.hid hok
        clear hx hok
        cases ok with
        | false =>
          go_wp2_with fail
          go_ret
          exact ⟨rfl, HX5.out⟩
        | true =>
          obtain ⟨zs, hz1, hz2, hz3⟩ := HOK.out rfl
          have HZ := Lib.hid hz1
          have HFZ := Lib.hid hz3
          have HZL := Lib.hid hz2
          obtain ⟨za, zc, rfl, hz4, hz5⟩ := hz1.shape
          rw [hz2, HNE.out] at HZ hz4
          rw [hz2, HNE.out]
          unfold maxLen at hz5
          clear hz1 hz2 hz3
          have hG : Tryz.prog.eqGuardType Tryz.prog.depth 32 = false := by kernel_rfl
          go_wp2_with fail
          refine (pMay_any _ _ K l zs _ (HN.out.mono HX5.out) HFN.out HZ.out HFZ.out (HT.out.mono HX5.out) HRA.out HZL.out).mono ?_
          rintro e w6 ⟨rfl, hx⟩
          have HX6 := Lib.hid (Ext.trans HX5.out hx)
          have HZ6 := Lib.hid (HZ.out.mono hx)
          clear hx
          go_wp2_with fail
          refine (refMay14_any _ _ K l zs _ (HN.out.mono HX6.out) HFN.out HZ6.out HFZ.out (HT.out.mono HX6.out) HRA.out HZL.out).mono ?_
          rintro e w7 ⟨rfl, hx⟩
          have HX7 := Lib.hid (Ext.trans HX6.out hx)
          clear hx
          generalize mayS l zs = y
          obtain ⟨y0, y1, y2⟩ := y
          unfold tripV
          simp only
          have hq := fun W => eq_trip3 y0 y1 y2 y0 y1 y2 W
          simp only [decide_true] at hq
          go_wp2_with fail
          go_ret
          exact ⟨rfl, HX7.out⟩
      · have HERR := Lib.hid (show errA okP K l = 140 from if_neg hRA)
        rw [HERR.out]
        clear hRA
        go_wp2_with fail
        go_ret
        exact ⟨rfl, HX3.out⟩

end
end Go.Proofs.YtfnmcdjfdhdlmaaGreatDoor

/-
  What an argument that came in as a value of the document (a struct of a kind, a number, a text) is to a walk.
-/
namespace Go.Proofs.YtfnmcdjfdhdlmaaGreatDoor
open Go.ChangeShapes Go.WideShapes Go.ChangeAt Go.RowKit Go.Joins Go.Deep

section
variable {H : Type} {enc : TypeId × Value → H} {P : Program} {w : World} {base : Nat} {held : Bool}

theorem read_val {r : Reach} {b0 : Nat} {t : TypeId} {f0 f1 f2 : Field} {v : Value} {d : DataW H} {p : List MemPlace} (hs : P.underlying t = some (.struct #[f0, f1, f2])) (h0 : P.underlying f0.type = some (.int .u8)) (h1 : P.underlying f1.type = some (.int .i64)) (h2 : P.underlying f2.type = some .string)
    (hone : oneCellFields P #[f0, f1, f2] = true) (hC : P.cellsOf t = 3)
    (hv : Value.okWide P w r b0 t v) (h : DataW.Trod enc P w base (fun _ => true) held t v d p) :
    ∃ a : V, v = a.val ∧ a.fits ∧ a.s.length ≤ maxLen := by
  obtain ⟨v0, v1, v2, y0, y1, y2, n, rfl, _, _, t0, t1, t2⟩ := open_agg3 hs hone hC hv h
  obtain ⟨z0, e0, _, w0⟩ := DataW.trod_int h0 t0
  obtain ⟨z1, e1, _, w1⟩ := DataW.trod_int h1 t1
  obtain ⟨s, e2, _, w2⟩ := DataW.trod_string h2 t2
  simp only [List.cons.injEq, and_true] at e0 e1 e2
  subst e0 e1 e2
  have b0 := bounds_u8 w0
  have b1 := bounds_i64 w1
  refine ⟨⟨z0, z1, s.data.toList⟩, ?_, ⟨b0.1, b0.2, b1.1, b1.2⟩, ?_⟩
  · unfold V.val
    cases s
    simp
  · show s.data.toList.length ≤ maxLen
    cases s
    simpa [ByteArray.size] using w2

end
end Go.Proofs.YtfnmcdjfdhdlmaaGreatDoor

/-
  What an argument that came in as a row of values of the document is to a walk.
-/
namespace Go.Proofs.YtfnmcdjfdhdlmaaGreatDoor
open Go.ChangeShapes Go.WideShapes Go.ChangeAt Go.RowKit Go.Joins Go.Deep

section
variable {H : Type} {enc : TypeId × Value → H} {P : Program} {w : World} {base : Nat} {held : Bool}

theorem read_vals {t e : TypeId} {f0 f1 f2 : Field} {v : Value} {d : DataW H} {ps : List MemPlace} (ht : P.underlying t = some (.slice e)) (hs : P.underlying e = some (.struct #[f0, f1, f2])) (h0 : P.underlying f0.type = some (.int .u8)) (h1 : P.underlying f1.type = some (.int .i64)) (h2 : P.underlying f2.type = some .string)
    (hone : oneCellFields P #[f0, f1, f2] = true) (hC : P.cellsOf e = 3) (hv : v.cells.toList = [v]) (h : DataW.Trod enc P w base (fun _ => true) held t v d ps) :
    ∃ vs : List V, RdVals w v vs ∧ ∀ x ∈ vs, x.fits ∧ x.s.length ≤ maxLen := by
  obtain ⟨fuel, hf⟩ := h
  rw [hv] at hf
  rcases open_slice ht hf with ⟨hcs, _⟩ | ⟨a, len, cap, m, n, D, Pl, hcs, _, hl, hm, hmm, _, hi⟩
  · obtain rfl : v = .slice none 0 0 := by simpa using hcs
    exact ⟨[], ⟨none, 0, rfl, Nat.le_refl _, by simp [maxLen], fun j hj => by simp at hj⟩, by simp⟩
  · obtain rfl : v = .slice (some a) len cap := by simpa using hcs
    have hmc : m = cap := by simpa using hmm
    have key : ∀ i, i < len → ∃ x : V, (x.fits ∧ x.s.length ≤ maxLen) ∧ ∀ j y, x.cells[j]? = some y → w.cell? ((a.add (i * 3)).add j) = some y := fun i hi' => by
      obtain ⟨cs, hc, ht'⟩ := hi i (by omega)
      rw [hC] at hc
      obtain ⟨_, hcl, hat⟩ := World.cells?_some hc
      match cs, hcl with
      | [c0, c1, c2], _ =>
        obtain ⟨y0, y1, y2, n', _, _, k0, k1, k2⟩ := trod_struct3 hs ht'
        obtain ⟨o0, q0⟩ := hone_of hone 0 f0 rfl
        obtain ⟨o1, q1⟩ := hone_of hone 1 f1 rfl
        obtain ⟨o2, q2⟩ := hone_of hone 2 f2 rfl
        rw [o0, q0] at k0
        rw [o1, q1] at k1
        rw [o2, q2] at k2
        obtain ⟨z0, e0, _, w0⟩ := DataW.trod_int h0 k0
        obtain ⟨z1, e1, _, w1⟩ := DataW.trod_int h1 k1
        obtain ⟨s, e2, _, w2⟩ := DataW.trod_string h2 k2
        have e0' : c0 = .int .u8 z0 := by simpa using e0
        have e1' : c1 = .int .i64 z1 := by simpa using e1
        have e2' : c2 = .string s := by simpa using e2
        subst e0' e1' e2'
        have b0 := bounds_u8 w0
        have b1 := bounds_i64 w1
        have hsl : s.data.toList.length = s.size := Array.length_toList
        have hss : (⟨s.data.toList.toArray⟩ : ByteArray) = s := by cases s; simp
        refine ⟨⟨z0, z1, s.data.toList⟩, ⟨⟨b0.1, b0.2, b1.1, b1.2⟩, by show s.data.toList.length ≤ _; rw [hsl]; exact w2⟩, fun j y hj => ?_⟩
        unfold V.cells at hj
        simp only [hss] at hj
        have hj3 : j < 3 := by
          have := (List.getElem?_eq_some_iff.1 hj).1
          simpa using this
        rw [hat j hj3]
        exact hj
    have hall : ∃ vs : List V, vs.length = len ∧ ∀ i, (hi : i < vs.length) → (vs[i].fits ∧ vs[i].s.length ≤ maxLen) ∧ ∀ j y, (vs[i].cells)[j]? = some y → w.cell? ((a.add (i * 3)).add j) = some y := by
      refine ⟨(List.range len).map fun i => if h : i < len then (key i h).choose else V.zero, by simp, fun i hi' => ?_⟩
      have hil : i < len := by simpa using hi'
      rw [List.getElem_map, List.getElem_range, dif_pos hil]
      exact (key i hil).choose_spec
    obtain ⟨vs, hlen, hvs⟩ := hall
    refine ⟨vs, ⟨some a, cap, by rw [hlen], by omega, hm, fun j hj => ?_⟩, fun x hx => ?_⟩
    · obtain ⟨b, off, spot⟩ := a
      have h00 := (hvs 0 (by omega)).2 0 _ rfl
      have hsp : spot = none := by
        have h := World.cell?_spot h00
        cases spot with
        | none => rfl
        | some x =>
          exfalso
          simp [Addr.add] at h
      subst hsp
      exact ⟨b, off, rfl, fun i y hy => by
        have := (hvs j hj).2 i y hy
        rw [add_at, add_at] at this
        exact this⟩
    · obtain ⟨i, hi', rfl⟩ := List.mem_iff_getElem.1 hx
      exact (hvs i hi').1

end
end Go.Proofs.YtfnmcdjfdhdlmaaGreatDoor

/-
  What an argument that came in as a row of rows of values of the document is to a walk.
-/
namespace Go.Proofs.YtfnmcdjfdhdlmaaGreatDoor
open Go.ChangeShapes Go.WideShapes Go.ChangeAt Go.RowKit Go.Joins Go.Deep

section
variable {H : Type} {enc : TypeId × Value → H} {P : Program} {w : World} {base : Nat} {held : Bool}

theorem read_rows {t r e : TypeId} {f0 f1 f2 : Field} {v : Value} {d : DataW H} {ps : List MemPlace} (ht : P.underlying t = some (.slice r)) (hr : P.underlying r = some (.slice e)) (hs : P.underlying e = some (.struct #[f0, f1, f2])) (h0 : P.underlying f0.type = some (.int .u8)) (h1 : P.underlying f1.type = some (.int .i64)) (h2 : P.underlying f2.type = some .string)
    (hone : oneCellFields P #[f0, f1, f2] = true) (hC : P.cellsOf e = 3) (hR : P.cellsOf r = 1) (hv : v.cells.toList = [v]) (h : DataW.Trod enc P w base (fun _ => true) held t v d ps) :
    ∃ rs : List (List V), RdRows w v rs ∧ ∀ vs ∈ rs, ∀ x ∈ vs, x.fits ∧ x.s.length ≤ maxLen := by
  obtain ⟨fuel, hf⟩ := h
  rw [hv] at hf
  rcases open_slice1 ht hR hf with ⟨hcs, _⟩ | ⟨a, len, cap, m, n, W, D, Pl, hcs, _, hl, hm, hmm, _, hi⟩
  · obtain rfl : v = .slice none 0 0 := by simpa using hcs
    exact ⟨[], RdRows.nil w, by simp⟩
  · obtain rfl : v = .slice (some a) len cap := by simpa using hcs
    have hmc : m = cap := by simpa using hmm
    have key : ∀ i, i < len → ∃ vs : List V, (∀ x ∈ vs, x.fits ∧ x.s.length ≤ maxLen) ∧ RdVals w (W i) vs ∧ w.cell? (a.add i) = some (W i) := fun i hi' => by
      obtain ⟨hc, ht'⟩ := hi i (by omega)
      obtain ⟨a', l', c', e'⟩ := slice_form hr ht'
      have e'' : W i = .slice a' l' c' := by simpa using e'
      obtain ⟨vs, hvs, hfit⟩ := read_vals (v := W i) (d := D i) (ps := Pl i) hr hs h0 h1 h2 hone hC (by rw [e'']; rfl) ⟨n, by rw [e'']; rw [e''] at ht'; exact ht'⟩
      exact ⟨vs, hfit, hvs, hc⟩
    have hall : ∃ rs : List (List V), rs.length = len ∧ ∀ i, (hi : i < rs.length) → (∀ x ∈ rs[i], x.fits ∧ x.s.length ≤ maxLen) ∧ RdVals w (W i) rs[i] ∧ w.cell? (a.add i) = some (W i) := by
      refine ⟨(List.range len).map fun i => if h : i < len then (key i h).choose else [], by simp, fun i hi' => ?_⟩
      have hil : i < len := by simpa using hi'
      rw [List.getElem_map, List.getElem_range, dif_pos hil]
      exact (key i hil).choose_spec
    obtain ⟨rs, hlen, hrs⟩ := hall
    refine ⟨rs, ⟨some a, cap, by rw [hlen], by omega, hm, fun j hj => ⟨a, W j, rfl, (hrs j hj).2.1, (hrs j hj).2.2⟩⟩, fun x hx => ?_⟩
    obtain ⟨i, hi', rfl⟩ := List.mem_iff_getElem.1 hx
    exact (hrs i hi').1

end
end Go.Proofs.YtfnmcdjfdhdlmaaGreatDoor

/-
  What an argument that came in as a zone of the document (a struct of two values and two numbers) is to a walk; rows without an address.
-/
namespace Go.Proofs.YtfnmcdjfdhdlmaaGreatDoor
open Go.ChangeShapes Go.WideShapes Go.ChangeAt Go.RowKit Go.Joins Go.Deep

section
variable {H : Type} {enc : TypeId × Value → H} {P : Program} {w : World} {base : Nat} {held : Bool}

theorem val_of {e : TypeId} {f0 f1 f2 : Field} {cs : List Value} {fuel : Nat} {x : DataW H × List MemPlace} (hs : P.underlying e = some (.struct #[f0, f1, f2])) (h0 : P.underlying f0.type = some (.int .u8)) (h1 : P.underlying f1.type = some (.int .i64)) (h2 : P.underlying f2.type = some .string)
    (hone : oneCellFields P #[f0, f1, f2] = true) (hcl : cs.length = 3) (ht' : DataW.trod enc P w base (fun _ => true) held fuel e cs = some x) :
    ∃ a : V, cs = a.cells ∧ a.fits ∧ a.s.length ≤ maxLen := by
  match cs, hcl with
  | [c0, c1, c2], _ =>
    obtain ⟨y0, y1, y2, n', _, _, k0, k1, k2⟩ := trod_struct3 hs ht'
    obtain ⟨o0, q0⟩ := hone_of hone 0 f0 rfl
    obtain ⟨o1, q1⟩ := hone_of hone 1 f1 rfl
    obtain ⟨o2, q2⟩ := hone_of hone 2 f2 rfl
    rw [o0, q0] at k0
    rw [o1, q1] at k1
    rw [o2, q2] at k2
    obtain ⟨z0, e0, _, w0⟩ := DataW.trod_int h0 k0
    obtain ⟨z1, e1, _, w1⟩ := DataW.trod_int h1 k1
    obtain ⟨s, e2, _, w2⟩ := DataW.trod_string h2 k2
    have e0' : c0 = .int .u8 z0 := by simpa using e0
    have e1' : c1 = .int .i64 z1 := by simpa using e1
    have e2' : c2 = .string s := by simpa using e2
    subst e0' e1' e2'
    have b0 := bounds_u8 w0
    have b1 := bounds_i64 w1
    have hsl : s.data.toList.length = s.size := Array.length_toList
    have hss : (⟨s.data.toList.toArray⟩ : ByteArray) = s := by cases s; simp
    refine ⟨⟨z0, z1, s.data.toList⟩, ?_, ⟨b0.1, b0.2, b1.1, b1.2⟩, by show s.data.toList.length ≤ _; rw [hsl]; exact w2⟩
    unfold V.cells
    simp only [hss]

theorem read_zone {r : Reach} {b0 : Nat} {t e : TypeId} {f0 f1 f2 f3 g0 g1 g2 : Field} {v : Value} {d : DataW H} {p : List MemPlace} (hs : P.underlying t = some (.struct #[f0, f1, f2, f3])) (he : P.underlying e = some (.struct #[g0, g1, g2]))
    (h0 : P.underlying g0.type = some (.int .u8)) (h1 : P.underlying g1.type = some (.int .i64)) (h2 : P.underlying g2.type = some .string) (hone : oneCellFields P #[g0, g1, g2] = true)
    (t0 : f0.type = e) (t1 : f1.type = e) (t2 : P.underlying f2.type = some (.int .i64)) (t3 : P.underlying f3.type = some (.int .i64)) (o0 : f0.offset = 0) (o1 : f1.offset = 3) (o2 : f2.offset = 6) (o3 : f3.offset = 7)
    (c0 : P.cellsOf e = 3) (c2 : P.cellsOf f2.type = 1) (c3 : P.cellsOf f3.type = 1) (hC : P.cellsOf t = 8)
    (hv : Value.okWide P w r b0 t v) (h : DataW.Trod enc P w base (fun _ => true) held t v d p) :
    ∃ z : Zo, v = z.val ∧ z.fits ∧ z.small maxLen := by
  obtain ⟨cs, rfl, hsz⟩ := okWide_struct hs hv
  obtain ⟨fuel, hf⟩ := h
  obtain ⟨xs, n, _, _, hl, hlen, hfld⟩ := DataW.trod_struct hs hf
  rw [hC] at hl
  have k0 := hfld 0 f0 rfl
  have k1 := hfld 1 f1 rfl
  have k2 := hfld 2 f2 rfl
  have k3 := hfld 3 f3 rfl
  rw [o0, t0, c0] at k0
  rw [o1, t1, c0] at k1
  rw [o2, c2] at k2
  rw [o3, c3] at k3
  match xs, hlen with
  | [y0, y1, y2, y3], _ =>
    simp only [List.getElem?_cons_zero, List.getElem?_cons_succ] at k0 k1 k2 k3
    have hcs : (Value.agg cs).cells.toList = cs.toList := rfl
    rw [hcs] at hl k0 k1 k2 k3
    have hca : cs = cs.toList.toArray := rfl
    generalize cs.toList = l at hl k0 k1 k2 k3 hca
    subst hca
    match l, hl with
    | [x0, x1, x2, x3, x4, x5, x6, x7], _ =>
      simp only [List.drop_zero, List.drop_succ_cons, List.take_succ_cons, List.take_zero] at k0 k1 k2 k3
      obtain ⟨a, ea, fa, la⟩ := val_of he h0 h1 h2 hone rfl k0
      obtain ⟨b, eb, fb, lb⟩ := val_of he h0 h1 h2 hone rfl k1
      obtain ⟨m, e2, _, w2⟩ := DataW.trod_int t2 k2
      obtain ⟨q, e3, _, w3⟩ := DataW.trod_int t3 k3
      unfold V.cells at ea eb
      simp only [List.cons.injEq, and_true] at ea eb e2 e3
      obtain ⟨rfl, rfl, rfl⟩ := ea
      obtain ⟨rfl, rfl, rfl⟩ := eb
      subst e2 e3
      have b2 := bounds_i64 w2
      have b3 := bounds_i64 w3
      exact ⟨⟨a, b, m, q⟩, rfl, ⟨fa, fb, b2.1, b2.2, b3.1, b3.2⟩, la, lb⟩

theorem read_nil {t e : TypeId} {v : Value} {d : DataW H} {ps : List MemPlace} (ht : P.underlying t = some (.slice e)) (hv : v.cells.toList = [v]) (h : DataW.Trod enc P w base (fun _ => true) held t v d ps) :
    ∀ n c, v = .slice none n c → n = 0 ∧ c = 0 := by
  intro n c hn
  obtain ⟨fuel, hf⟩ := h
  rw [hv] at hf
  rcases open_slice ht hf with ⟨hcs, _⟩ | ⟨a, len, cap, m, n, D, Pl, hcs, _⟩
  · obtain rfl : v = .slice none 0 0 := by simpa using hcs
    simp only [Value.slice.injEq] at hn
    exact ⟨hn.2.1.symm, hn.2.2.symm⟩
  · obtain rfl : v = .slice (some a) len cap := by simpa using hcs
    simp at hn

end
end Go.Proofs.YtfnmcdjfdhdlmaaGreatDoor
