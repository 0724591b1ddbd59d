/-
  The law's own 'shown': the document's examples; 'few', 'some'.
-/
import Derived.Test.YthjkfkajkbaegaaRunsTake
import Derived.Test.YthjkfkajkbaegaaRunsSays
import Derived.Test.YthjkfkajkbaegaaInts
namespace Go.Proofs.Ythjkfkajkbaegaa
open Go.ChangeAt Go.RowKit Go.BigFrame

/-- The first ones of a slice. -/
theorem rdV_head9 {w : World} {ao : Option Addr} {N cap : Nat} {xs : List Value} (h : RdV w (.slice ao N cap) xs) (K : Nat) (hK : K ≤ N) : RdV w (.slice ao K cap) (xs.take K) := by
  rcases h with ⟨h1, h2⟩ | ⟨x, cap', h1, h2, h3, h4⟩
  · simp only [Value.slice.injEq] at h1
    obtain ⟨rfl, rfl, rfl⟩ := h1
    have hk : K = 0 := by omega
    subst hk
    subst h2
    exact .inl ⟨rfl, rfl⟩
  · simp only [Value.slice.injEq] at h1
    obtain ⟨rfl, rfl, rfl⟩ := h1
    exact RdV.takes h2 h3 h4 K K (by omega)
/-- How many of the first k there are. -/
theorem min_first9 (N k : Nat) : ∃ K : Nat, min (N : Int) (k : Int) = (K : Int) ∧ (if (k : Int) < (N : Int) then (k : Int) else (N : Int)) = (K : Int) ∧ K ≤ N ∧ K ≤ k ∧ K = min N k :=
  ⟨min N k, by omega, by split <;> omega, by omega, by omega, rfl⟩
theorem take_min {α : Type} (l : List α) (k : Nat) : l.take (min l.length k) = l.take k := by
  rcases Nat.le_total l.length k with h | h
  · rw [Nat.min_eq_left h, List.take_of_length_le (Nat.le_refl _), List.take_of_length_le h]
  · rw [Nat.min_eq_right h]

theorem few9_any (u : Value) (l : List Int) (w : World) (hu : RdV w u (l.map (Value.int .i64))) :
    Calls Try.prog 8 #[u] w fun e w' => (∃ v, e = .returned v ∧ RdV w v ((l.take 5000).map (Value.int .i64))) ∧ w = w' := by
  have HU := Lib.hid hu
  obtain ⟨ao, cap, rfl, h1, h2, -⟩ := RdV.cellsAt hu
  rw [List.length_map] at h1 HU ⊢
  unfold maxLen at h2
  obtain ⟨K, hk1, hk2, hk3, hk4, hk5⟩ := min_first9 l.length 5000
  have HR := Lib.hid (show RdV w (.slice ao K cap) ((l.take 5000).map (Value.int .i64)) by rw [← take_min, ← hk5, List.map_take]; exact rdV_head9 HU.out K hk3)
  generalize l.length = N at h1 hk1 hk2 hk3 ⊢
  simp only [Int.cast_ofNat_Int] at hk1 hk2
  have hKc : K ≤ cap := by omega
  clear hu HU hk5
  go_enter Try.func8, Try.ntmps8
  go_wp2_with fail
  go_ret
  exact ⟨⟨_, rfl, HR.out⟩, rfl⟩

theorem some9_any (u : Value) (l : List Sp) (w : World) (hu : RdSp w u l) :
    Calls Try.prog 15 #[u] w fun e w' => (∃ v, e = .returned v ∧ RdSp w v (l.take 500)) ∧ w = w' := by
  have HU := Lib.hid hu
  obtain ⟨ao, cap, rfl, h1, h2, -, -⟩ := hu
  unfold maxLen at h2
  obtain ⟨K, hk1, hk2, hk3, hk4, hk5⟩ := min_first9 l.length 500
  have HR := Lib.hid (show RdSp w (.slice ao K cap) (l.take 500) by rw [← take_min, ← hk5]; exact HU.out.take K hk3)
  generalize l.length = N at h1 hk1 hk2 hk3 ⊢
  simp only [Int.cast_ofNat_Int] at hk1 hk2
  have hKc : K ≤ cap := by omega
  clear HU hk5
  go_enter Try.func15, Try.ntmps15
  go_wp2_with fail
  go_ret
  exact ⟨⟨_, rfl, HR.out⟩, rfl⟩

theorem ex_ofR : ofR [5, 5, 7] = [⟨5, 2⟩, ⟨7, 1⟩] := by decide
theorem ex_putR : putS9 [5, 5, 7] = ([2, 10, 2, 14, 1], 0) := by decide
theorem ex_atR : atS [⟨5, 2⟩, ⟨7, 1⟩] 1 = (5, 0, true) := by
  have hg : goodR [⟨5, 2⟩, ⟨7, 1⟩] := fun s hs => by
    simp only [List.mem_cons, List.not_mem_nil, or_false] at hs
    rcases hs with rfl | rfl <;> decide
  rw [atS_yes ⟨by rw [flatS_ok hg (by decide)], by decide, by decide⟩]
  decide

/-- string(b), as a fact of the walk. -/
theorem str_of9 {w : World} {v : Value} {l : List UInt8} (h : Rd w v l) : (convert 24 9 v).run Try.prog w = .ok (.string ⟨l.toArray⟩) w :=
  h.string 24 9 5 Try.underlying24 Try.underlying5 Try.underlying9
/-- Runs written out. -/
theorem lit_run (w : World) (l : List Sp) (t : TypeId) (hl : l.length ≤ 10) : RdSp (w.alloc (.cells (l.flatMap Sp.cells).toArray t)) (.slice (some ⟨w.heap.size, 0, none⟩) l.length l.length) l := by
  have hc := row_new w (l.flatMap Sp.cells) t
  refine ⟨_, l.length, rfl, Nat.le_refl _, by unfold maxLen; omega, fun j hj => ⟨w.heap.size, 0, rfl, ?_, ?_⟩, fun h => by cases h⟩
  · have := hc _ _ (spCells l j hj).1
    rwa [add_at] at this
  · have := hc _ _ (spCells l j hj).2
    rwa [add_at, ← Nat.add_assoc] at this
/-- The runs of numbers may be given to a call. -/
theorem inSp_ofR {w : World} {v : Value} {l : List Int} (h : RdSp w v (ofR l)) (hl : l.length ≤ 5000) (hf : ∀ x ∈ l, -9223372036854775808 ≤ x ∧ x ≤ 9223372036854775807) : InSp w v (ofR l) :=
  ⟨h, by have := len_ofR l; omega, fun s hs => by
    obtain ⟨a, b, c⟩ := run_of hs
    exact ⟨hf _ a, by omega⟩⟩

set_option maxRecDepth 100000 in
set_option maxHeartbeats 1000000 in
theorem shown9_any (w : World) : Calls Try.prog 11 #[] w fun e w' => e = .returned (.bool true) ∧ Ext w w' := by
  have HI := Lib.hid (fun W : World => (show RdV (W.alloc (.cells #[.int .i64 5, .int .i64 5, .int .i64 7] 3)) (.slice (some ⟨W.heap.size, 0, none⟩) 3 3) (([5, 5, 7] : List Int).map (Value.int .i64)) from .inr ⟨⟨W.heap.size, 0, none⟩, 3, rfl, by decide, by decide, row_new W _ _⟩))
  have HL := Lib.hid (fun (W : World) (l : List Sp) (hl : l.length ≤ 10) => lit_run W l 45 hl)
  go_enter Try.func11, Try.ntmps11
  go_wp2_with fail
  refine (pOf9_any _ [5, 5, 7] _ (HI.out w) (by decide) (by decide)).mono ?_
  rintro e w1 ⟨⟨v1, rfl, ho1⟩, hx1⟩
  have HIN := Lib.hid (inSp_ofR ho1.rd (by decide) (by decide))
  rw [ex_ofR] at ho1 HIN
  have HO1 := Lib.hid ho1
  have HX1 := Lib.hid (Ext.trans (ext_new w _) hx1)
  clear ho1 hx1
  go_wp2_with fail
  refine (pPut9_any _ [5, 5, 7] _ (HI.out w1) (by decide) (by decide)).mono ?_
  rintro e w2 ⟨v2, rfl, ho2, hx2⟩
  rw [ex_putR] at ho2 ⊢
  have HR2 := Lib.hid (show Rd w2 v2 [2, 10, 2, 14, 1] from RdV.of_owns ho2)
  have HX2 := Lib.hid (Ext.trans (ext_new w1 _) hx2)
  clear ho2 hx2
  go_wp2_with fail
  refine (pAt9_any v1 [⟨5, 2⟩, ⟨7, 1⟩] 1 w2 ⟨HIN.out.rd.mono HX2.out, HIN.out.few, HIN.out.fits⟩ (by decide)).mono ?_
  rintro e w3 ⟨rfl, hx3⟩
  rw [ex_atR]
  have HX3 := Lib.hid (Ext.trans HX2.out hx3)
  have HR3 := Lib.hid (HR2.out.mono hx3)
  clear hx3
  go_wp2_with fail
  refine (refSameR_any v1 _ [⟨5, 2⟩, ⟨7, 1⟩] [⟨5, 2⟩, ⟨7, 1⟩] _ (HO1.out.rd.mono (Ext.trans HX3.out (ext_new w3 _))) (HL.out w3 [⟨5, 2⟩, ⟨7, 1⟩] (by decide))).mono ?_
  rintro e w4 ⟨rfl, hx4⟩
  rw [decide_eq_true rfl]
  have HX4 := Lib.hid (Ext.trans (ext_new w3 _) hx4)
  have hs1 := str_of9 (HR3.out.mono HX4.out)
  clear hx4
  go_wp2_with fail
  go_ret
  exact ⟨by simp, Ext.trans HX1.out (Ext.trans HX3.out HX4.out)⟩

end Go.Proofs.Ythjkfkajkbaegaa
