/-
  The program's Letters and Quote.
-/
import Derived.Test.YtmlaedhmgkcdpaaDoorDoor
import Derived.Test.YtmlaedhmgkcdpaaDoorLikeKit
import Derived.Test.YtmlaedhmgkcdpaaDoorBuild
namespace Go.Proofs.YtmlaedhmgkcdpaaDoor
open Go.RowKit

theorem extract_mid (l : List UInt8) (i k : Nat) (_h : k ≤ l.length) : (⟨l.toArray⟩ : ByteArray).extract i k = ⟨((l.drop i).take (k - i)).toArray⟩ := by
  apply ByteArray.ext
  simp [ByteArray.data_extract, List.extract_eq_take_drop]

/-- What is the program's own row of texts: an iterator's block is no row's. -/
theorem owns_iterAt {base k : Nat} {e : TypeId} {w : World} {v : Value} {n : Nat} {xs : List Value} {s : ByteArray} {pos pos' : Nat} (h : w.ownsRow base e 1 v n xs) (hk : w.heap[k]? = some (.stringIter s pos)) : (w.iterAt k s pos').ownsRow base e 1 v n xs := by
  refine ⟨h.1, ?_⟩
  rcases h.2 with hn | ⟨g, cap, cur, hv, hbg, hg, rest⟩
  · exact .inl hn
  · have hkg : g ≠ k := by
      intro e1
      rw [e1, hk] at hg
      cases hg
    exact .inr ⟨g, cap, cur, hv, hbg, (Lib.iterAt_other w k g s pos' hkg).trans hg, rest⟩

theorem owns_not_iter {base k : Nat} {e : TypeId} {w : World} {v : Value} {n : Nat} {xs : List Value} {s : ByteArray} {pos : Nat} (h : w.ownsRow base e 1 v n xs) (hk : w.heap[k]? = some (.stringIter s pos)) : v.ownBlock ≠ some k := by
  rcases h.2 with ⟨rfl, _⟩ | ⟨g, cap, cur, rfl, hbg, hg, rest⟩
  · simp [Value.ownBlock]
  · intro e1
    simp only [Value.ownBlock, Option.some.injEq] at e1
    rw [e1, hk] at hg
    cases hg

set_option maxRecDepth 100000 in
set_option maxHeartbeats 1000000 in
theorem Letters_any (l : List UInt8) (w : World) (_hT : Tabs w) (hl : l.length ≤ 5000) :
    Calls Tryd.prog 11 #[sv l] w (Fresh 9 w ((lets l).map sv)) := by
  obtain ⟨i0, hi, hz0, hz1, hz2⟩ := info_parts Tryd.info_string
  have HL := Lib.hid hl
  have HLL := Lib.hid (lets_length l)
  clear hl _hT
  unfold sv
  go_enter Tryd.func11, Tryd.ntmps11
  go_wp2_with fail
  go_loopw [3, 4] (fun v f wr => ∃ (fr pos : Nat) (pre : List (List UInt8)), f = .int .i64 fr ∧ pos ≤ l.length ∧ ((fr = 0 ∧ pos = 0) ∨ (fr < l.length ∧ pos = fr + wid (l.drop fr))) ∧ lets l = pre ++ lets (l.drop fr) ∧ wr.ownsRow (w.heap.size + 1) 9 1 v pre.length (pre.map sv) ∧ wr.heap[w.heap.size]? = some (.stringIter ⟨l.toArray⟩ pos) ∧ Below w.heap.size w wr) (fun _ _ wr => l.length - wr.iterPos w.heap.size)
  case atStart => exact ⟨0, 0, [], rfl, Nat.zero_le _, .inl ⟨rfl, rfl⟩, rfl, World.ownsRow_nil _ _ _ _, World.iter_heap _ _ _, (Below.refl _ w).alloc (Nat.le_refl _) _⟩
  case round =>
    obtain ⟨fr, pos, pre, rfl, hpos, hat, hlets, hown, hit, hbel⟩ := hrel
    have HAT := Lib.hid hat
    have HLETS := Lib.hid hlets
    have HOWN := Lib.hid hown
    have HIT := Lib.hid hit
    have HBEL := Lib.hid hbel
    have hsz : w.heap.size < wr.heap.size := (Array.getElem?_eq_some_iff.1 hit).1
    have hpre : pre.length ≤ 5000 := by have h1 := HLL.out; have h2 := congrArg List.length hlets; rw [List.length_append] at h2; have := HL.out; omega
    clear hlets hown hbel
    by_cases hlt : pos < l.length
    · have hnx := run_next_letter_at (P := Tryd.prog) wr w.heap.size l pos hit hlt
      have hne : l.drop pos ≠ [] := fun h => by rw [List.drop_eq_nil_iff] at h; omega
      have HW := Lib.hid (wid_bounds _ hne)
      have HIT2 := Lib.hid (Lib.iterAt_heap wr w.heap.size ⟨l.toArray⟩ pos (pos + wid (l.drop pos)) hit)
      have HO2 := Lib.hid (owns_iterAt (pos' := pos + wid (l.drop pos)) HOWN.out hit)
      have HB2 := Lib.hid (Lib.below_iterAt HBEL.out (k := w.heap.size) (Nat.le_refl _) ⟨l.toArray⟩ (pos + wid (l.drop pos)))
      have HS2 := Lib.hid (Lib.iterAt_size wr w.heap.size ⟨l.toArray⟩ (pos + wid (l.drop pos)))
      clear hit
      generalize hW2 : wr.iterAt w.heap.size ⟨l.toArray⟩ (pos + wid (l.drop pos)) = W2 at hnx HIT2 HO2 HB2 HS2
      clear hW2
      rcases hat with ⟨rfl, rfl⟩ | ⟨h1, h2⟩
      · go_wp2_with fail
        go_roundw
        case rel => exact ⟨0, 0 + wid (l.drop 0), pre, rfl, by have := HW.out; rw [List.length_drop] at this; omega, .inr ⟨hlt, rfl⟩, HLETS.out, HO2.out, HIT2.out, HB2.out⟩
        case measure =>
          simp only [World.iterPos, HIT.out, HIT2.out]
          have := HW.out
          omega
      · have hne0 : l.drop fr ≠ [] := fun h => by rw [List.drop_eq_nil_iff] at h; omega
        have hb0 := wid_bounds _ hne0
        have hgt : fr < pos := by omega
        have HC := Lib.hid (lets_cons _ hne0)
        have HX := Lib.hid (extract_mid l fr pos hpos)
        have hpf : pos - fr = wid (l.drop fr) := by omega
        have HD := Lib.hid (show (l.drop fr).drop (wid (l.drop fr)) = l.drop pos by rw [List.drop_drop, h2])
        rw [hpf] at HX
        generalize wid (l.drop fr) = k at HX HC HD
        clear hb0 h2 hpf hne0
        have hl5 : l.length ≤ 5000 := HL.out
        have hw2 : w.heap.size < W2.heap.size := by have := HS2.out; omega
        go_wp2_with (at_builtin; go_loud (refine wpList_append_own _ rfl (.tmp 14) (.tmp 19) 25 rfl (w.heap.size + 1) 9 i0 (.string ByteArray.empty) 1 16 Tryd.underlying25 hi hz0 hz1 hz2 rfl (by decide) _ _ _ rfl (HO2.out.alloc _) ⟨W2.heap.size, 0, none⟩ 1 1 [.string ((⟨l.toArray⟩ : ByteArray).extract fr pos)] rfl rfl (cells_new _ _ _) (by simp [Value.oneCell']) (by unfold maxLen; first | omega | (simp; omega)) (by first | omega | (simp; omega)) (by first | omega | (simp; omega)) ?_); intro v3 w3 hown3 hgrow3 _; have HO3 := Lib.hid hown3; have HG3 := Lib.hid hgrow3; clear hown3 hgrow3)
        go_roundw
        case rel =>
          refine ⟨pos, pos + wid (l.drop pos), pre ++ [(l.drop fr).take k], rfl, by have := HW.out; rw [List.length_drop] at this; omega, .inr ⟨hlt, rfl⟩, ?_, ?_, ?_, ?_⟩
          · rw [HLETS.out, HC.out, HD.out, List.append_assoc]; rfl
          · have h := HO3.out
            rw [HX.out] at h
            rw [List.length_append, List.map_append]
            exact h
          · rw [HG3.out.block w.heap.size (by simp; omega) (fun e => owns_not_iter HO2.out HIT2.out e.symm), Lib.alloc_old W2 _ w.heap.size (by omega)]
            exact HIT2.out
          · exact (HB2.out.alloc (by omega) _).grown HG3.out (by simp; omega) (fun b hb => by have := (HO2.out.lt b hb).1; omega)
        case measure =>
          have h : w3.heap[w.heap.size]? = some (.stringIter ⟨l.toArray⟩ (pos + wid (l.drop pos))) := by
            rw [HG3.out.block w.heap.size (by simp; omega) (fun e => owns_not_iter HO2.out HIT2.out e.symm), Lib.alloc_old W2 _ w.heap.size (by omega)]
            exact HIT2.out
          simp only [World.iterPos, HIT.out, h]
          have := HW.out
          omega
    · have hend := fun ty => Lib.run_next_end_at (P := Tryd.prog) wr w.heap.size ⟨l.toArray⟩ pos ty hit hlt
      have hposl : pos = l.length := by omega
      clear hit
      rcases hat with ⟨rfl, rfl⟩ | ⟨h1, h2⟩
      · have HN := Lib.hid (show lets l = pre by rw [HLETS.out, List.drop_eq_nil_of_le (show l.length ≤ 0 by omega), lets_nil, List.append_nil])
        clear hposl
        go_wp2_with fail
        go_ret
        refine ⟨_, rfl, ?_, HBEL.out⟩
        show wr.ownsRow w.heap.size 9 1 _ _ ((lets l).map sv)
        rw [HN.out, List.length_map]
        exact owns_baseK HOWN.out (by omega)
      · have hne0 : l.drop fr ≠ [] := fun h => by rw [List.drop_eq_nil_iff] at h; omega
        have HN := Lib.hid (show lets l = pre ++ [l.drop fr] by
          rw [HLETS.out, lets_cons _ hne0, List.take_of_length_le (by rw [List.length_drop]; omega), show (l.drop fr).drop (wid (l.drop fr)) = [] from List.drop_eq_nil_of_le (by rw [List.length_drop]; omega), lets_nil])
        have HX := Lib.hid (extract_drop l fr (by omega))
        have hl5 : l.length ≤ 5000 := HL.out
        clear h2 hposl hne0
        go_wp2_with (at_builtin; go_loud (refine wpList_append_own _ rfl (.tmp 26) (.tmp 30) 25 rfl (w.heap.size + 1) 9 i0 (.string ByteArray.empty) 1 16 Tryd.underlying25 hi hz0 hz1 hz2 rfl (by decide) _ _ _ rfl (HOWN.out.alloc _) ⟨wr.heap.size, 0, none⟩ 1 1 [.string ((⟨l.toArray⟩ : ByteArray).extract fr l.length)] rfl rfl (cells_new _ _ _) (by simp [Value.oneCell']) (by unfold maxLen; first | omega | (simp; omega)) (by first | omega | (simp; omega)) (by first | omega | (simp; omega)) ?_); intro v3 w3 hown3 hgrow3 _; have HO3 := Lib.hid hown3; have HG3 := Lib.hid hgrow3; clear hown3 hgrow3)
        go_ret
        refine ⟨_, rfl, ?_, (HBEL.out.alloc (by omega) _).grown HG3.out (by simp; omega) (fun b hb => by have := (HOWN.out.lt b hb).1; omega)⟩
        show w3.ownsRow w.heap.size 9 1 _ _ ((lets l).map sv)
        have h := HO3.out
        rw [HX.out] at h
        rw [HN.out, List.length_map, List.length_append, List.map_append]
        exact owns_baseK h (by omega)

end Go.Proofs.YtmlaedhmgkcdpaaDoor
