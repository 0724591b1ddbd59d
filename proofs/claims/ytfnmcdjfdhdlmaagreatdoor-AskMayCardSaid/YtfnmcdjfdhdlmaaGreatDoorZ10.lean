/-
  Texts of this proof, merged: Head, ZoneP2.
-/
import Derived.Deep.RegionWith
import Derived.Test.YtfnmcdjfdhdlmaaGreatDoorZ3
import Derived.Test.YtfnmcdjfdhdlmaaGreatDoorZ9
/-
  The first ones of a slice; how many these are; bytes as a text. Over any program.
-/
namespace Go.Proofs.YtfnmcdjfdhdlmaaGreatDoor
open Go.ChangeAt Go.RowKit

/-- The first ones of a slice. -/
theorem rdV_first {w : World} {ao : Option Addr} {N cap : Nat} {xs : List Value} (h : RdV w (.slice ao N cap) xs) (K : Nat) (hK : K ≤ N) : RdV w (.slice ao K cap) (xs.take K) := by
  rcases h with ⟨h1, h2⟩ | ⟨x, cap', h1, h2, h3, h4⟩
  · simp only [Value.slice.injEq] at h1
    obtain ⟨rfl, rfl, rfl⟩ := h1
    have hk : K = 0 := by omega
    subst hk
    subst h2
    exact .inl ⟨rfl, rfl⟩
  · simp only [Value.slice.injEq] at h1
    obtain ⟨rfl, rfl, rfl⟩ := h1
    exact RdV.takes h2 h3 h4 K K (by omega)
/-- How many of the first k there are: as a walk may show it. -/
theorem min_firstN (N k : Nat) : ∃ K : Nat, min (N : Int) (k : Int) = (K : Int) ∧ (if (k : Int) < (N : Int) then (k : Int) else (N : Int)) = (K : Int) ∧ K ≤ N ∧ K ≤ k ∧ K = min N k :=
  ⟨min N k, by omega, by split <;> omega, by omega, by omega, rfl⟩
theorem take_minN {α : Type} (l : List α) (k : Nat) : l.take (min l.length k) = l.take k := by
  rcases Nat.le_total l.length k with h | h
  · rw [Nat.min_eq_left h, List.take_of_length_le (Nat.le_refl _), List.take_of_length_le h]
  · rw [Nat.min_eq_right h]
/-- string(b), as a fact of the walk. -/
theorem str_of {w : World} {v : Value} {l : List UInt8} (h : Rd w v l) : (convert 22 9 v).run Tryz.prog w = .ok (.string ⟨l.toArray⟩) w :=
  h.string 22 9 5 Tryz.underlying22 Tryz.underlying5 Tryz.underlying9
/-- A row of ints that is read: where it lies. -/
theorem RdV.plain {w : World} {ao : Option Addr} {N cap : Nat} {xs : List Int} (h : RdV w (.slice ao N cap) (xs.map (Value.int .i64))) : N = xs.length ∧ N ≤ cap ∧ cap ≤ maxLen ∧ ∀ j, (hj : j < xs.length) → ∃ g off, ao = some ⟨g, off, none⟩ ∧ w.cell? ⟨g, off + j, none⟩ = some (.int .i64 xs[j]) := by
  obtain ⟨a', c', h0, h1, h2, h3⟩ := RdV.cellsAt h
  simp only [Value.slice.injEq, List.length_map] at h0 h1
  obtain ⟨rfl, rfl, rfl⟩ := h0
  refine ⟨rfl, h1, h2, fun j hj => ?_⟩
  obtain ⟨⟨g, off, sp⟩, rfl, hc⟩ := h3 j (.int .i64 xs[j]) (by rw [List.getElem?_map, List.getElem?_eq_getElem hj]; rfl)
  have hsp : sp = none := by
    obtain ⟨a0, ha0, hc0⟩ := h3 0 (.int .i64 xs[0]) (by rw [List.getElem?_map, List.getElem?_eq_getElem (by omega)]; rfl)
    obtain rfl := Option.some.inj ha0
    have h := World.cell?_spot hc0
    simpa [Addr.add] using h
  subst hsp
  rw [add_at] at hc
  exact ⟨g, off, rfl, hc⟩
/-- A row that is read: where it lies. -/
theorem RdV.plainV {w : World} {ao : Option Addr} {N cap : Nat} {xs : List Value} (h : RdV w (.slice ao N cap) xs) : N = xs.length ∧ N ≤ cap ∧ cap ≤ maxLen ∧ ∀ j u, xs[j]? = some u → ∃ g off, ao = some ⟨g, off, none⟩ ∧ w.cell? ⟨g, off + j, none⟩ = some u := by
  obtain ⟨a', c', h0, h1, h2, h3⟩ := RdV.cellsAt h
  simp only [Value.slice.injEq] at h0 h1
  obtain ⟨rfl, rfl, rfl⟩ := h0
  refine ⟨rfl, h1, h2, fun j u hj => ?_⟩
  obtain ⟨⟨g, off, sp⟩, rfl, hc⟩ := h3 j u hj
  have hsp : sp = none := by
    have hlt : 0 < xs.length := by
      have := (List.getElem?_eq_some_iff.1 hj).1
      omega
    obtain ⟨a0, ha0, hc0⟩ := h3 0 xs[0] (List.getElem?_eq_getElem hlt)
    obtain rfl := Option.some.inj ha0
    have h := World.cell?_spot hc0
    simpa [Addr.add] using h
  subst hsp
  rw [add_at] at hc
  exact ⟨g, off, rfl, hc⟩
/-- The rest of a row of bytes, as a fact of the walk. -/
theorem slice_rest {w : World} {ao : Option Addr} {N cap : Nat} {l : List UInt8} (h : Rd w (.slice ao N cap) l) (k : Nat) (hk : k ≤ N) :
    ∃ a c, Rd w (.slice a (N - k) c) (l.drop k) ∧ ∀ W, (Instr.slice 22 (.slice ao N cap) (some (.int .i64 (k : Int))) none none).run Tryz.prog W = .ok (.slice a (N - k) c) W := by
  obtain ⟨e, h2, h3, -⟩ := RdV.plainV h
  rw [List.length_map] at e
  subst e
  have hlo : (k : Int) ≤ (l.length : Int) := by omega
  rcases h with ⟨h1, h4⟩ | ⟨x, cap', h1, h4, h5, h6⟩
  · simp only [Value.slice.injEq] at h1
    obtain ⟨rfl, h7, rfl⟩ := h1
    have hl0 : l = [] := List.length_eq_zero_iff.1 h7
    subst hl0
    obtain rfl : k = 0 := by simpa using hk
    refine ⟨none, 0, Rd.nil w, fun W => ?_⟩
    simp [Instr.slice, Instr.sliceBounds, Instr.sliceBound, run_underlying Tryz.underlying22, go_sem]
  · simp only [Value.slice.injEq] at h1
    obtain ⟨rfl, -, rfl⟩ := h1
    by_cases hc : cap = k
    · refine ⟨some x, cap - k, ?_, fun W => ?_⟩
      · have hd : l.drop k = [] := List.drop_eq_nil_of_le (by omega)
        rw [hd, show l.length - k = 0 by omega]
        exact .inr ⟨x, _, rfl, Nat.zero_le _, by omega, fun i u hu => by simp at hu⟩
      · subst hc
        simp [Instr.slice, Instr.sliceBounds, Instr.sliceBound, run_underlying Tryz.underlying22, go_sem, hk]
    · refine ⟨some (x.add k), cap - k, ?_, fun W => ?_⟩
      · refine .inr ⟨x.add k, cap - k, by rw [List.length_map, List.length_drop], by rw [List.length_map, List.length_drop]; omega, by omega, fun i u hu => ?_⟩
        have e2 : (x.add k).add i = x.add (k + i) := by unfold Addr.add; simp; split <;> split <;> simp_all <;> omega
        rw [e2]
        exact h6 (k + i) u (by rw [List.map_drop, List.getElem?_drop] at hu; exact hu)
      · simp [Instr.slice, Instr.sliceBounds, Instr.sliceBound, run_underlying Tryz.underlying22, go_sem, hk, hc]
/-- The rest of a row of one-cell values, as a fact of the walk. -/
theorem slice_restV {P : Program} {t e : TypeId} (ht : P.underlying t = some (.slice e)) {i0 : TypeInfo} (hi : P.info? e = some i0) (hz : i0.size = 1) {w : World} {ao : Option Addr} {N cap : Nat} {l : List Value} (h : RdV w (.slice ao N cap) l) (k : Nat) (hk : k ≤ N) :
    ∃ a c, RdV w (.slice a (N - k) c) (l.drop k) ∧ ∀ W, (Instr.slice t (.slice ao N cap) (some (.int .i64 (k : Int))) none none).run P W = .ok (.slice a (N - k) c) W := by
  obtain ⟨e, h2, h3, -⟩ := RdV.plainV h
  subst e
  have hlo : (k : Int) ≤ (l.length : Int) := by omega
  rcases h with ⟨h1, h4⟩ | ⟨x, cap', h1, h4, h5, h6⟩
  · simp only [Value.slice.injEq] at h1
    obtain ⟨rfl, h7, rfl⟩ := h1
    have hl0 : l = [] := List.length_eq_zero_iff.1 h7
    subst hl0
    obtain rfl : k = 0 := by simpa using hk
    refine ⟨none, 0, RdV.nil w, fun W => ?_⟩
    simp [Instr.slice, Instr.sliceBounds, Instr.sliceBound, run_underlying ht, sizeOf, typeInfo, hi, go_sem]
  · simp only [Value.slice.injEq] at h1
    obtain ⟨rfl, -, rfl⟩ := h1
    by_cases hc : cap = k
    · refine ⟨some x, cap - k, ?_, fun W => ?_⟩
      · have hd : l.drop k = [] := List.drop_eq_nil_of_le (by omega)
        rw [hd, show l.length - k = 0 by omega]
        exact .inr ⟨x, _, rfl, Nat.zero_le _, by omega, fun i u hu => by simp at hu⟩
      · subst hc
        simp [Instr.slice, Instr.sliceBounds, Instr.sliceBound, run_underlying ht, sizeOf, typeInfo, hi, go_sem, hk]
    · refine ⟨some (x.add k), cap - k, ?_, fun W => ?_⟩
      · refine .inr ⟨x.add k, cap - k, by rw [List.length_drop], by rw [List.length_drop]; omega, by omega, fun i u hu => ?_⟩
        have e2 : (x.add k).add i = x.add (k + i) := by unfold Addr.add; simp; split <;> split <;> simp_all <;> omega
        rw [e2]
        exact h6 (k + i) u (by rw [List.getElem?_drop] at hu; exact hu)
      · simp [Instr.slice, Instr.sliceBounds, Instr.sliceBound, run_underlying ht, sizeOf, typeInfo, hi, hz, go_sem, hk, hc]
theorem int_one (l : List Int) : ∀ u ∈ l.map (Value.int .i64), u.oneCell' = true := by
  intro u hu
  obtain ⟨c, _, rfl⟩ := List.mem_map.1 hu
  rfl

theorem str_later {w : World} {v : Value} {l : List UInt8} (h : Rd w v l) : ∀ z : Later Ext w.drew, (convert 22 9 v).run Tryz.prog z.val = .ok (.string ⟨l.toArray⟩) z.val := fun z => str_of (h.mono (Ext.trans (Ext.drew w) z.ext))

end Go.Proofs.YtfnmcdjfdhdlmaaGreatDoor

/-
  The program's contracts of zones: Merge, Of.
-/
namespace Go.Proofs.YtfnmcdjfdhdlmaaGreatDoor
section
open Go.RowKit Go.BigFrame

theorem blk3 (w : World) (o o' : Obj) (xs : List Value) (t : TypeId) : Blk (((w.alloc o).alloc o').alloc (.cells xs.toArray t)) (w.heap.size + 1 + 1) xs t := by
  have h := Blk.new ((w.alloc o).alloc o') xs t
  simp only [World.alloc, Array.size_push] at h
  exact h
theorem blk31 (w : World) (o o' : Obj) (xs : List Value) (t : TypeId) : Blk (((w.alloc o).alloc (.cells xs.toArray t)).alloc o') (w.heap.size + 1) xs t := by
  have h := Blk.new (w.alloc o) xs t
  simp only [World.alloc, Array.size_push] at h
  exact h.ext (ext_new _ _)
theorem ext3 (w : World) (a b c : Obj) : Ext w (((w.alloc a).alloc b).alloc c) := Ext.trans (Ext.trans (ext_new _ _) (ext_new _ _)) (ext_new _ _)

/-- Which one is the outer one of two. -/
theorem outer_is (a b : V) (d : Int) (c : V → V → Int) (hd : (d = -1 ∧ c = cmpV) ∨ (d = 1 ∧ c = cmpW)) : (a.k = 0 → b.k = 0 → pick c a b = V.zero) ∧ (a.k = 0 → b.k ≠ 0 → pick c a b = b) ∧ (a.k ≠ 0 → b.k = 0 → pick c a b = a) ∧ (a.k ≠ 0 → b.k ≠ 0 → (cmpV a b = d → pick c a b = a) ∧ (cmpV a b ≠ d → pick c a b = b)) := by
  refine ⟨fun h1 h2 => by unfold pick; rw [if_pos (.inl h1), nz_no h2], fun h1 h2 => by unfold pick; rw [if_pos (.inl h1), nz_yes h2], fun h1 h2 => by unfold pick; rw [if_neg (by rintro (h | h); exact h1 h; exact h.1 h2), nz_yes h1], fun h1 h2 => ?_⟩
  have e1 := cmpV_neg a b
  have e2 := cmpV_three a b
  by_cases hz : cmpV a b = 0
  · have := cmpV_zero.1 hz
    subst this
    have e : pick c a a = a := by unfold pick; rw [ite_self, nz_yes h1]
    exact ⟨fun _ => e, fun _ => e⟩
  · rcases hd with ⟨rfl, rfl⟩ | ⟨rfl, rfl⟩
    · refine ⟨fun h => ?_, fun h => ?_⟩
      · unfold pick
        rw [if_neg (by rintro (h | h); exact h1 h; have := h.2; omega), nz_yes h1]
      · unfold pick
        rw [if_pos (.inr ⟨h2, by omega⟩), nz_yes h2]
    · refine ⟨fun h => ?_, fun h => ?_⟩
      · unfold pick
        rw [if_neg (by rintro (h | h); exact h1 h; have : cmpV a b < 0 := h.2; omega), nz_yes h1]
      · unfold pick
        rw [if_pos (.inr ⟨h2, by show cmpV a b < 0; omega⟩), nz_yes h2]

set_option maxRecDepth 100000 in
set_option maxHeartbeats 4000000 in
theorem pOuter_any (a b : V) (d : Int) (c : V → V → Int) (w : World) (hd : (d = -1 ∧ c = cmpV) ∨ (d = 1 ∧ c = cmpW)) (ha : a.fits) (hb : b.fits) (hal : a.s.length ≤ 5000) (hbl : b.s.length ≤ 5000) :
    Calls Tryz.prog 72 #[a.val, b.val, .int .i64 d] w fun e w' => e = .returned (pick c a b).val ∧ Ext w w' := by
  have HC := Lib.hid (fun W => Compare_any a b ha hb hal hbl W)
  obtain ⟨h0, h1, h2, h3⟩ := outer_is a b d c hd
  generalize pick c a b = y at h0 h1 h2 h3
  obtain ⟨k, n, s⟩ := a
  obtain ⟨k', n', s'⟩ := b
  unfold V.val at HC ⊢
  simp only at HC h0 h1 h2 h3 ⊢
  generalize cmpV ⟨k, n, s⟩ ⟨k', n', s'⟩ = C at HC h3
  have HX := Lib.hid (ext3 w (.cells #[.int .u8 k, .int .i64 n, .string ⟨s.toArray⟩] 36) (.cells #[.int .u8 k', .int .i64 n', .string ⟨s'.toArray⟩] 36))
  have HA := Lib.hid (show Blk (((w.alloc (.cells #[.int .u8 k, .int .i64 n, .string ⟨s.toArray⟩] 36)).alloc (.cells #[.int .u8 k', .int .i64 n', .string ⟨s'.toArray⟩] 36)).alloc (.cells #[.int .u8 0, .int .i64 0, .string ⟨#[]⟩] 36)) w.heap.size [.int .u8 k, .int .i64 n, .string ⟨s.toArray⟩] 36 from ((Blk.new w _ _).ext (ext_new _ _)).ext (ext_new _ _))
  have HB := Lib.hid (blk31 w (.cells #[.int .u8 k, .int .i64 n, .string ⟨s.toArray⟩] 36) (.cells #[.int .u8 0, .int .i64 0, .string ⟨#[]⟩] 36) [.int .u8 k', .int .i64 n', .string ⟨s'.toArray⟩] 36)
  have HR := Lib.hid (blk3 w (.cells #[.int .u8 k, .int .i64 n, .string ⟨s.toArray⟩] 36) (.cells #[.int .u8 k', .int .i64 n', .string ⟨s'.toArray⟩] 36))
  clear hd ha hb hal hbl
  by_cases hk : k = 0
  · by_cases hk' : k' = 0
    · have HQ := Lib.hid (h0 hk hk')
      subst hk hk'
      clear h0 h1 h2 h3
      go_enter Tryz.func72, Tryz.ntmps72
      go_wp2_with fail
      refine bodyPost_ret (results_cell_row (P := Tryz.prog) (fn := Tryz.f72) rfl _ _ (w.heap.size + 1 + 1) 36 _ (0, 0) _ rfl (HR.out [_, _, _] _) Tryz.underlying36 rfl (by kernel_rfl)) rfl ?_
      exact ⟨by rw [HQ.out]; rfl, HX.out _⟩
    · have HQ := Lib.hid (h1 hk hk')
      have q : (k' == (0 : Int)) = false := beq_eq_false_iff_ne.2 hk'
      subst hk
      clear h0 h1 h2 h3 hk'
      go_enter Tryz.func72, Tryz.ntmps72
      go_wp2_with fail
      refine bodyPost_ret (results_cell_row (P := Tryz.prog) (fn := Tryz.f72) rfl _ _ (w.heap.size + 1 + 1) 36 _ (0, 0) _ rfl (HR.out [_, _, _] _) Tryz.underlying36 rfl (by kernel_rfl)) rfl ?_
      exact ⟨by rw [HQ.out], HX.out _⟩
  · have q : (k == (0 : Int)) = false := beq_eq_false_iff_ne.2 hk
    by_cases hk' : k' = 0
    · have HQ := Lib.hid (h2 hk hk')
      subst hk'
      clear h0 h1 h2 h3 hk
      go_enter Tryz.func72, Tryz.ntmps72
      go_wp2_with fail
      refine bodyPost_ret (results_cell_row (P := Tryz.prog) (fn := Tryz.f72) rfl _ _ (w.heap.size + 1 + 1) 36 _ (0, 0) _ rfl (HR.out [_, _, _] _) Tryz.underlying36 rfl (by kernel_rfl)) rfl ?_
      exact ⟨by rw [HQ.out], HX.out _⟩
    · have q' : (k' == (0 : Int)) = false := beq_eq_false_iff_ne.2 hk'
      have HQ := Lib.hid (h3 hk hk')
      clear h0 h1 h2 h3 hk hk'
      go_enter Tryz.func72, Tryz.ntmps72
      go_wp2_with fail
      refine (HC.out _).mono ?_
      rintro e w1 ⟨rfl, hx⟩
      have HA1 := Lib.hid (HA.out.ext hx)
      have HB1 := Lib.hid (HB.out.ext hx)
      have HR1 := Lib.hid ((HR.out [.int .u8 0, .int .i64 0, .string ⟨#[]⟩] 36).ext hx)
      have HX1 := Lib.hid (Ext.trans (HX.out _) hx)
      clear hx
      have a0 : w1.cell? ⟨w.heap.size, 0, none⟩ = some (.int .u8 k) := HA1.out.cell 0 _ rfl
      have a1 : w1.cell? ⟨w.heap.size, 1, none⟩ = some (.int .i64 n) := HA1.out.cell 1 _ rfl
      have a2 : w1.cell? ⟨w.heap.size, 2, none⟩ = some (.string ⟨s.toArray⟩) := HA1.out.cell 2 _ rfl
      have b0 : w1.cell? ⟨w.heap.size + 1, 0, none⟩ = some (.int .u8 k') := HB1.out.cell 0 _ rfl
      have b1 : w1.cell? ⟨w.heap.size + 1, 1, none⟩ = some (.int .i64 n') := HB1.out.cell 1 _ rfl
      have b2 : w1.cell? ⟨w.heap.size + 1, 2, none⟩ = some (.string ⟨s'.toArray⟩) := HB1.out.cell 2 _ rfl
      have r0 : w1.cell? ⟨w.heap.size + 1 + 1, 0, none⟩ = some (.int .u8 0) := HR1.out.cell 0 _ rfl
      have r1 : w1.cell? ⟨w.heap.size + 1 + 1, 1, none⟩ = some (.int .i64 0) := HR1.out.cell 1 _ rfl
      have r2 : w1.cell? ⟨w.heap.size + 1 + 1, 2, none⟩ = some (.string ⟨#[]⟩) := HR1.out.cell 2 _ rfl
      have f0 : w1.frozen? ⟨w.heap.size + 1 + 1, 0, none⟩ = false := HR1.out.free 0
      have f1 : w1.frozen? ⟨w.heap.size + 1 + 1, 1, none⟩ = false := HR1.out.free 1
      have f2 : w1.frozen? ⟨w.heap.size + 1 + 1, 2, none⟩ = false := HR1.out.free 2
      by_cases hc : C = d
      · have HQ2 := Lib.hid (HQ.out.1 hc)
        have HS := Lib.hid (((HR1.out.set 0 (.int .u8 k)).set 1 (.int .i64 n)).set 2 (.string ⟨s.toArray⟩))
        have HSX := Lib.hid (fun (u0 u1 u2 : Value) => (show Ext w (((w1.setCell ⟨w.heap.size + 1 + 1, 0, none⟩ u0).setCell ⟨w.heap.size + 1 + 1, 1, none⟩ u1).setCell ⟨w.heap.size + 1 + 1, 2, none⟩ u2) from Below.setCell (Below.setCell (Below.setCell HX1.out (by show w.heap.size ≤ w.heap.size + 1 + 1; omega) _) (by show w.heap.size ≤ w.heap.size + 1 + 1; omega) _) (by show w.heap.size ≤ w.heap.size + 1 + 1; omega) _))
        subst hc
        go_wp2_with fail
        refine bodyPost_ret (results_cell_row (P := Tryz.prog) (fn := Tryz.f72) rfl _ _ (w.heap.size + 1 + 1) 36 _ (0, 0) _ rfl HS.out Tryz.underlying36 rfl (by kernel_rfl)) rfl ?_
        exact ⟨by rw [HQ2.out]; rfl, HSX.out _ _ _⟩
      · have HQ2 := Lib.hid (HQ.out.2 hc)
        have qc : (C == d) = false := beq_eq_false_iff_ne.2 hc
        have HS := Lib.hid (((HR1.out.set 0 (.int .u8 k')).set 1 (.int .i64 n')).set 2 (.string ⟨s'.toArray⟩))
        have HSX := Lib.hid (fun (u0 u1 u2 : Value) => (show Ext w (((w1.setCell ⟨w.heap.size + 1 + 1, 0, none⟩ u0).setCell ⟨w.heap.size + 1 + 1, 1, none⟩ u1).setCell ⟨w.heap.size + 1 + 1, 2, none⟩ u2) from Below.setCell (Below.setCell (Below.setCell HX1.out (by show w.heap.size ≤ w.heap.size + 1 + 1; omega) _) (by show w.heap.size ≤ w.heap.size + 1 + 1; omega) _) (by show w.heap.size ≤ w.heap.size + 1 + 1; omega) _))
        clear hc
        go_wp2_with fail
        refine bodyPost_ret (results_cell_row (P := Tryz.prog) (fn := Tryz.f72) rfl _ _ (w.heap.size + 1 + 1) 36 _ (0, 0) _ rfl HS.out Tryz.underlying36 rfl (by kernel_rfl)) rfl ?_
        exact ⟨by rw [HQ2.out]; rfl, HSX.out _ _ _⟩

set_option maxRecDepth 100000 in
theorem pOneZ_any (v : V) (w : World) : Calls Tryz.prog 43 #[v.val] w fun e w' => e = .returned (oneZ v).val ∧ Ext w w' := by
  have h0 := oneZ_no (v := v)
  have h1 := oneZ_yes (v := v)
  generalize oneZ v = y at h0 h1
  obtain ⟨k, n, s⟩ := v
  unfold V.val
  simp only at h0 h1 ⊢
  have HR := Lib.hid (fun (o : Obj) (xs : List Value) (t : TypeId) => (show Blk ((w.alloc o).alloc (.cells xs.toArray t)) (w.heap.size + 1) xs t by
    have h := Blk.new (w.alloc o) xs t
    simp only [World.alloc, Array.size_push] at h
    exact h))
  have HX := Lib.hid (fun (o o' : Obj) => (show Ext w ((w.alloc o).alloc o') from Ext.trans (ext_new _ _) (ext_new _ _)))
  by_cases hk : k = 0
  · have HQ := Lib.hid (h0 hk)
    subst hk
    clear h0 h1
    go_enter Tryz.func43, Tryz.ntmps43
    go_wp2_with fail
    refine bodyPost_ret (results_cell_row (P := Tryz.prog) (fn := Tryz.f43) rfl _ _ (w.heap.size + 1) 47 _ (0, 0) _ rfl (HR.out _ [_, _, _, _, _, _, _, _] _) Tryz.underlying47 rfl (by kernel_rfl)) rfl ?_
    exact ⟨by rw [HQ.out]; rfl, HX.out _ _⟩
  · have HQ := Lib.hid (h1 hk)
    have q : (k == (0 : Int)) = false := beq_eq_false_iff_ne.2 hk
    clear h0 h1 hk
    go_enter Tryz.func43, Tryz.ntmps43
    go_wp2_with fail
    refine bodyPost_ret (results_cell_row (P := Tryz.prog) (fn := Tryz.f43) rfl _ _ (w.heap.size + 1) 47 _ (0, 0) _ rfl (HR.out _ [_, _, _, _, _, _, _, _] _) Tryz.underlying47 rfl (by kernel_rfl)) rfl ?_
    exact ⟨by rw [HQ.out]; rfl, HX.out _ _⟩
end
section
open Go.RowKit Go.BigFrame

theorem onlyb_set (b j : Nat) (W : World) (u : Value) : Only b W (W.setCell ⟨b, j, none⟩ u) :=
  ⟨rfl, rfl, rfl, by simp [World.setCell], fun k _ hk => Below.heap_setCell _ _ _ _ (fun e => hk (by rw [e]))⟩
theorem only_put8 (W : World) (b : Nat) (z : Zo) : Only b W (put8 W b z) :=
  Only.trans (Only.trans (Only.trans (Only.trans (Only.trans (Only.trans (Only.trans (onlyb_set b 0 W _) (onlyb_set b 1 _ _)) (onlyb_set b 2 _ _)) (onlyb_set b 3 _ _)) (onlyb_set b 4 _ _)) (onlyb_set b 5 _ _)) (onlyb_set b 6 _ _)) (onlyb_set b 7 _ _)

set_option maxRecDepth 100000 in
set_option maxHeartbeats 8000000 in
theorem pMergeZ_any (p q : Zo) (w : World) (hp : p.fits) (hq : q.fits) (hps : p.small 5000) (hqs : q.small 5000) :
    Calls Tryz.prog 42 #[p.val, q.val] w fun e w' => e = .returned (mergeZ p q).val ∧ Ext w w' := by
  have HCA := Lib.hid (fun W => pOuter_any p.a q.a (-1) cmpV W (.inl ⟨rfl, rfl⟩) hp.a hq.a hps.1 hqs.1)
  have HCB := Lib.hid (fun W => pOuter_any p.b q.b 1 cmpW W (.inr ⟨rfl, rfl⟩) hp.b hq.b hps.2 hqs.2)
  obtain ⟨⟨ak, an, as'⟩, ⟨bk, bn, bs⟩, pn, pm⟩ := p
  obtain ⟨⟨ck, cn, cs⟩, ⟨dk, dn, ds⟩, qn, qm⟩ := q
  unfold mergeZ
  unfold V.val at HCA HCB
  unfold Zo.val
  simp only at HCA HCB ⊢
  generalize pick cmpV ⟨ak, an, as'⟩ ⟨ck, cn, cs⟩ = X at HCA ⊢
  generalize pick cmpW ⟨bk, bn, bs⟩ ⟨dk, dn, ds⟩ = Y at HCB ⊢
  obtain ⟨xk, xn, xs⟩ := X
  obtain ⟨yk, yn, ys⟩ := Y
  simp only at HCA HCB ⊢
  have hX := ext3 w (.cells #[.int .u8 ak, .int .i64 an, .string ⟨as'.toArray⟩, .int .u8 bk, .int .i64 bn, .string ⟨bs.toArray⟩, .int .i64 pn, .int .i64 pm] 47) (.cells #[.int .u8 ck, .int .i64 cn, .string ⟨cs.toArray⟩, .int .u8 dk, .int .i64 dn, .string ⟨ds.toArray⟩, .int .i64 qn, .int .i64 qm] 47)
  have hP : Blk (((w.alloc (.cells #[.int .u8 ak, .int .i64 an, .string ⟨as'.toArray⟩, .int .u8 bk, .int .i64 bn, .string ⟨bs.toArray⟩, .int .i64 pn, .int .i64 pm] 47)).alloc (.cells #[.int .u8 ck, .int .i64 cn, .string ⟨cs.toArray⟩, .int .u8 dk, .int .i64 dn, .string ⟨ds.toArray⟩, .int .i64 qn, .int .i64 qm] 47)).alloc (.cells Zo.zero.cells.toArray 47)) w.heap.size [.int .u8 ak, .int .i64 an, .string ⟨as'.toArray⟩, .int .u8 bk, .int .i64 bn, .string ⟨bs.toArray⟩, .int .i64 pn, .int .i64 pm] 47 := ((Blk.new w _ _).ext (ext_new _ _)).ext (ext_new _ _)
  have hQ : Blk (((w.alloc (.cells #[.int .u8 ak, .int .i64 an, .string ⟨as'.toArray⟩, .int .u8 bk, .int .i64 bn, .string ⟨bs.toArray⟩, .int .i64 pn, .int .i64 pm] 47)).alloc (.cells #[.int .u8 ck, .int .i64 cn, .string ⟨cs.toArray⟩, .int .u8 dk, .int .i64 dn, .string ⟨ds.toArray⟩, .int .i64 qn, .int .i64 qm] 47)).alloc (.cells Zo.zero.cells.toArray 47)) (w.heap.size + 1) [.int .u8 ck, .int .i64 cn, .string ⟨cs.toArray⟩, .int .u8 dk, .int .i64 dn, .string ⟨ds.toArray⟩, .int .i64 qn, .int .i64 qm] 47 := blk31 w (.cells #[.int .u8 ak, .int .i64 an, .string ⟨as'.toArray⟩, .int .u8 bk, .int .i64 bn, .string ⟨bs.toArray⟩, .int .i64 pn, .int .i64 pm] 47) (.cells Zo.zero.cells.toArray 47) [.int .u8 ck, .int .i64 cn, .string ⟨cs.toArray⟩, .int .u8 dk, .int .i64 dn, .string ⟨ds.toArray⟩, .int .i64 qn, .int .i64 qm] 47
  have hR : Blk (((w.alloc (.cells #[.int .u8 ak, .int .i64 an, .string ⟨as'.toArray⟩, .int .u8 bk, .int .i64 bn, .string ⟨bs.toArray⟩, .int .i64 pn, .int .i64 pm] 47)).alloc (.cells #[.int .u8 ck, .int .i64 cn, .string ⟨cs.toArray⟩, .int .u8 dk, .int .i64 dn, .string ⟨ds.toArray⟩, .int .i64 qn, .int .i64 qm] 47)).alloc (.cells Zo.zero.cells.toArray 47)) (w.heap.size + 1 + 1) Zo.zero.cells 47 := blk3 w (.cells #[.int .u8 ak, .int .i64 an, .string ⟨as'.toArray⟩, .int .u8 bk, .int .i64 bn, .string ⟨bs.toArray⟩, .int .i64 pn, .int .i64 pm] 47) (.cells #[.int .u8 ck, .int .i64 cn, .string ⟨cs.toArray⟩, .int .u8 dk, .int .i64 dn, .string ⟨ds.toArray⟩, .int .i64 qn, .int .i64 qm] 47) Zo.zero.cells 47
  clear hp hq hps hqs
  go_enter Tryz.func42, Tryz.ntmps42
  go_upto_region 1 with fail
  have HX := Lib.hid (hX (.cells Zo.zero.cells.toArray 47))
  have HP := Lib.hid hP
  have HQ := Lib.hid hQ
  have HR := Lib.hid hR
  clear hX hP hQ hR
  rw [show (.cells #[.int .u8 0, .int .i64 0, .string ⟨#[]⟩, .int .u8 0, .int .i64 0, .string ⟨#[]⟩, .int .i64 0, .int .i64 0] 47 : Obj) = .cells Zo.zero.cells.toArray 47 from rfl]
  generalize ((w.alloc (.cells #[.int .u8 ak, .int .i64 an, .string ⟨as'.toArray⟩, .int .u8 bk, .int .i64 bn, .string ⟨bs.toArray⟩, .int .i64 pn, .int .i64 pm] 47)).alloc (.cells #[.int .u8 ck, .int .i64 cn, .string ⟨cs.toArray⟩, .int .u8 dk, .int .i64 dn, .string ⟨ds.toArray⟩, .int .i64 qn, .int .i64 qm] 47)).alloc (.cells Zo.zero.cells.toArray 47) = W at HX HP HQ HR ⊢
  have HO := Lib.hid (only_drew (w.heap.size + 1 + 1) W)
  have p0 := only_cells (fun j u hj => HP.out.cell j u hj) HO.out (by omega) 0 (.int .u8 ak) rfl
  have p1 := only_cells (fun j u hj => HP.out.cell j u hj) HO.out (by omega) 1 (.int .i64 an) rfl
  have p2 := only_cells (fun j u hj => HP.out.cell j u hj) HO.out (by omega) 2 (.string ⟨as'.toArray⟩) rfl
  have p3 := only_cells (fun j u hj => HP.out.cell j u hj) HO.out (by omega) 3 (.int .u8 bk) rfl
  have p4 := only_cells (fun j u hj => HP.out.cell j u hj) HO.out (by omega) 4 (.int .i64 bn) rfl
  have p5 := only_cells (fun j u hj => HP.out.cell j u hj) HO.out (by omega) 5 (.string ⟨bs.toArray⟩) rfl
  have p6 := only_cells (fun j u hj => HP.out.cell j u hj) HO.out (by omega) 6 (.int .i64 pn) rfl
  have p7 := only_cells (fun j u hj => HP.out.cell j u hj) HO.out (by omega) 7 (.int .i64 pm) rfl
  have q0 := only_cells (fun j u hj => HQ.out.cell j u hj) HO.out (by omega) 0 (.int .u8 ck) rfl
  have q1 := only_cells (fun j u hj => HQ.out.cell j u hj) HO.out (by omega) 1 (.int .i64 cn) rfl
  have q2 := only_cells (fun j u hj => HQ.out.cell j u hj) HO.out (by omega) 2 (.string ⟨cs.toArray⟩) rfl
  have q3 := only_cells (fun j u hj => HQ.out.cell j u hj) HO.out (by omega) 3 (.int .u8 dk) rfl
  have q4 := only_cells (fun j u hj => HQ.out.cell j u hj) HO.out (by omega) 4 (.int .i64 dn) rfl
  have q5 := only_cells (fun j u hj => HQ.out.cell j u hj) HO.out (by omega) 5 (.string ⟨ds.toArray⟩) rfl
  have q6 := only_cells (fun j u hj => HQ.out.cell j u hj) HO.out (by omega) 6 (.int .i64 qn) rfl
  have q7 := only_cells (fun j u hj => HQ.out.cell j u hj) HO.out (by omega) 7 (.int .i64 qm) rfl
  refine wp_region_segs (Only (w.heap.size + 1 + 1)) (Only.keeps _) [([0, 1, 2, 3, 5, 6, 7, 8, 10, 11, 12, 13, 14, 15, 16, 17, 18, 19], some 4), ([], some 9), ([], some 20), ([], some 21)] (by kernel_rfl) (by kernel_rfl) (fun c a a' w e h => (by exact ⟨e ▸ h.1, h.2⟩)) ?_
  simp only [pickSegs, pickOps, List.map_cons, List.map_nil, Option.map_some, Option.getD_some, List.getElem?_toArray, List.getElem?_cons_zero, List.getElem?_cons_succ]
  refine wpSegs_some fun K hK => ?_
  repeat go_big_quiet_step (fail)
  refine wpQuiet_nil ?_
  clear p0 p1 p2 p3 p4 p5 p6 p7 q0 q1 q2 q3 q4 q5 q6 q7
  go_wp2_with fail
  refine (HCA.out _).mono ?_
  rintro e w2 ⟨rfl, hx⟩
  have HX2 := Lib.hid hx
  clear hx
  go_wp2_with fail
  refine ⟨Only.of_ext HX2.out, hK _ _ ?_⟩
  clear hK K
  refine wpSegs_some fun K hK => ?_
  refine wpQuiet_nil ?_
  go_wp2_with fail
  refine (HCB.out _).mono ?_
  rintro e w3 ⟨rfl, hx⟩
  have HX3 := Lib.hid hx
  clear hx
  go_wp2_with fail
  refine ⟨Only.of_ext HX3.out, hK _ _ ?_⟩
  clear hK K
  refine wpSegs_some fun K hK => ?_
  refine wpQuiet_nil ?_
  go_wp2_with fail
  refine ⟨Only.refl _ _, hK _ _ ?_⟩
  clear hK K
  refine wpSegs_some fun K hK => ?_
  refine wpQuiet_nil ?_
  have HR3 := Lib.hid (((HR.out.ext (Ext.drew W)).ext HX2.out).ext HX3.out)
  have HXX := Lib.hid (Ext.trans (Ext.trans (Ext.trans HX.out (Ext.drew W)) HX2.out) HX3.out)
  have HS := Lib.hid (HR3.out.put8 ⟨⟨xk, xn, xs⟩, ⟨yk, yn, ys⟩, wrap64 (pn + qn), wrap64 (pm + qm)⟩)
  have HSX := Lib.hid (below_put8 HXX.out (show w.heap.size ≤ w.heap.size + 1 + 1 by omega) ⟨⟨xk, xn, xs⟩, ⟨yk, yn, ys⟩, wrap64 (pn + qn), wrap64 (pm + qm)⟩)
  have r0 : w3.cell? ⟨w.heap.size + 1 + 1, 0, none⟩ = some (.int .u8 0) := HR3.out.cell 0 _ rfl
  have r1 : w3.cell? ⟨w.heap.size + 1 + 1, 1, none⟩ = some (.int .i64 0) := HR3.out.cell 1 _ rfl
  have r2 : w3.cell? ⟨w.heap.size + 1 + 1, 2, none⟩ = some (.string ⟨#[]⟩) := HR3.out.cell 2 _ rfl
  have r3 : w3.cell? ⟨w.heap.size + 1 + 1, 3, none⟩ = some (.int .u8 0) := HR3.out.cell 3 _ rfl
  have r4 : w3.cell? ⟨w.heap.size + 1 + 1, 4, none⟩ = some (.int .i64 0) := HR3.out.cell 4 _ rfl
  have r5 : w3.cell? ⟨w.heap.size + 1 + 1, 5, none⟩ = some (.string ⟨#[]⟩) := HR3.out.cell 5 _ rfl
  have r6 : w3.cell? ⟨w.heap.size + 1 + 1, 6, none⟩ = some (.int .i64 0) := HR3.out.cell 6 _ rfl
  have r7 : w3.cell? ⟨w.heap.size + 1 + 1, 7, none⟩ = some (.int .i64 0) := HR3.out.cell 7 _ rfl
  have f0 : w3.frozen? ⟨w.heap.size + 1 + 1, 0, none⟩ = false := HR3.out.free 0
  have f1 : w3.frozen? ⟨w.heap.size + 1 + 1, 1, none⟩ = false := HR3.out.free 1
  have f2 : w3.frozen? ⟨w.heap.size + 1 + 1, 2, none⟩ = false := HR3.out.free 2
  have f3 : w3.frozen? ⟨w.heap.size + 1 + 1, 3, none⟩ = false := HR3.out.free 3
  have f4 : w3.frozen? ⟨w.heap.size + 1 + 1, 4, none⟩ = false := HR3.out.free 4
  have f5 : w3.frozen? ⟨w.heap.size + 1 + 1, 5, none⟩ = false := HR3.out.free 5
  have f6 : w3.frozen? ⟨w.heap.size + 1 + 1, 6, none⟩ = false := HR3.out.free 6
  have f7 : w3.frozen? ⟨w.heap.size + 1 + 1, 7, none⟩ = false := HR3.out.free 7
  go_wp2_with fail
  refine ⟨only_put8 _ _ ⟨⟨xk, xn, xs⟩, ⟨yk, yn, ys⟩, wrap64 (pn + qn), wrap64 (pm + qm)⟩, hK _ _ (wpSegs_nil ?_)⟩
  clear hK K
  go_wp2_with fail
  refine bodyPost_ret (results_cell_row (P := Tryz.prog) (fn := Tryz.f42) rfl _ _ (w.heap.size + 1 + 1) 47 _ (0, 0) _ rfl HS.out Tryz.underlying47 rfl (by kernel_rfl)) rfl ?_
  exact ⟨rfl, HSX.out⟩

set_option maxRecDepth 100000 in
set_option maxHeartbeats 8000000 in
theorem pOfZ_any (u : Value) (vs : List V) (w : World) (hu : RdVals w u vs) (hf : ∀ v ∈ vs, v.fits ∧ v.s.length ≤ 5000) :
    Calls Tryz.prog 16 #[u] w fun e w' => e = .returned (ofZ vs).val ∧ Ext w w' := by
  obtain ⟨ao, cap, rfl, -, -⟩ := hu.shape
  obtain ⟨-, h1, h2, hc⟩ := hu.plain
  have HC := Lib.hid hc
  have HF := Lib.hid hf
  have HS := Lib.hid (OZ.start w)
  unfold maxLen at h2
  obtain ⟨N, hN⟩ : ∃ N, vs.length = N := ⟨_, rfl⟩
  have HN := Lib.hid hN
  rw [hN] at h1 ⊢
  clear hu hc hf hN
  go_enter Tryz.func16, Tryz.ntmps16
  go_wp2_with fail
  go_loopw [8] (fun i wr => ∃ j : Nat, j ≤ N ∧ i = .int .i64 j ∧ OZ w (ofZ (vs.take j)) wr) (fun i _ => N - (intOf i).toNat)
  case atStart => exact ⟨0, Nat.zero_le _, rfl, HS.out⟩
  case round =>
    obtain ⟨j, hj, rfl, ho⟩ := hrel
    have HO := Lib.hid ho
    clear ho
    by_cases hlt : j < N
    · have hjl : j < vs.length := by have := HN.out; omega
      obtain ⟨g, off, rfl, c0, c1, c2⟩ := HC.out j hjl
      have x0 := (HO.out.x.cell (lt_of_cell c0)).trans c0
      have x1 := (HO.out.x.cell (lt_of_cell c1)).trans c1
      have x2 := (HO.out.x.cell (lt_of_cell c2)).trans c2
      have HT := Lib.hid (show ofZ (vs.take (j + 1)) = mergeZ (ofZ (vs.take j)) (oneZ vs[j]) by rw [List.take_succ_eq_append_getElem hjl, ofZ_snoc])
      have HM := Lib.hid (fun W => pMergeZ_any (ofZ (vs.take j)) (oneZ vs[j]) W (ofZ_fits (l := vs.take j) fun v hv => (HF.out v (List.mem_of_mem_take hv)).1) (oneZ_fits (HF.out _ (List.getElem_mem hjl)).1) (ofZ_small (l := vs.take j) fun v hv => (HF.out v (List.mem_of_mem_take hv)).2) ⟨nz_small (HF.out _ (List.getElem_mem hjl)).2, nz_small (HF.out _ (List.getElem_mem hjl)).2⟩)
      have H1 := Lib.hid (pOneZ_any vs[j])
      generalize vs[j] = v at x0 x1 x2 HT HM H1
      generalize ofZ (vs.take j) = z at HO HT HM
      obtain ⟨k, n, s⟩ := v
      generalize oneZ ⟨k, n, s⟩ = o1 at HT HM H1
      clear c0 c1 c2
      unfold V.val at H1
      simp only at x0 x1 x2 H1
      obtain ⟨⟨ak, an, as'⟩, ⟨bk, bn, bs⟩, zn, zm⟩ := z
      obtain ⟨⟨ek, en, es⟩, ⟨fk, fn, fs⟩, on, om⟩ := o1
      generalize mergeZ ⟨⟨ak, an, as'⟩, ⟨bk, bn, bs⟩, zn, zm⟩ ⟨⟨ek, en, es⟩, ⟨fk, fn, fs⟩, on, om⟩ = y at HM HT
      obtain ⟨⟨ck, cn, cs⟩, ⟨dk, dn, ds⟩, yn, ym⟩ := y
      unfold Zo.val at HM H1
      simp only at HM H1
      have hV := Blk.new wr [.int .u8 k, .int .i64 n, .string ⟨s.toArray⟩] 36
      have hO2 := HO.out.ext (ext_new wr (.cells #[.int .u8 k, .int .i64 n, .string ⟨s.toArray⟩] 36))
      have hne : w.heap.size + 1 ≠ wr.heap.size := by have := HO.out.z.lt; omega
      go_upto_region 5 with fail
      have HV := Lib.hid hV
      have HO2 := Lib.hid hO2
      clear hV hO2
      rw [show ((.cells #[.int .u8 k, .int .i64 n, .string ⟨s.toArray⟩] 36) : Obj) = .cells [.int .u8 k, .int .i64 n, .string ⟨s.toArray⟩].toArray 36 from rfl] at HO2
      try rw [show ((.cells #[.int .u8 k, .int .i64 n, .string ⟨s.toArray⟩] 36) : Obj) = .cells [.int .u8 k, .int .i64 n, .string ⟨s.toArray⟩].toArray 36 from rfl]
      generalize wr.alloc (.cells [.int .u8 k, .int .i64 n, .string ⟨s.toArray⟩].toArray 36) = W at HV HO2 ⊢
      have p0 : W.cell? ⟨w.heap.size + 1, 0, none⟩ = some (.int .u8 ak) := HO2.out.z.cell 0 _ rfl
      have p1 : W.cell? ⟨w.heap.size + 1, 1, none⟩ = some (.int .i64 an) := HO2.out.z.cell 1 _ rfl
      have p2 : W.cell? ⟨w.heap.size + 1, 2, none⟩ = some (.string ⟨as'.toArray⟩) := HO2.out.z.cell 2 _ rfl
      have p3 : W.cell? ⟨w.heap.size + 1, 3, none⟩ = some (.int .u8 bk) := HO2.out.z.cell 3 _ rfl
      have p4 : W.cell? ⟨w.heap.size + 1, 4, none⟩ = some (.int .i64 bn) := HO2.out.z.cell 4 _ rfl
      have p5 : W.cell? ⟨w.heap.size + 1, 5, none⟩ = some (.string ⟨bs.toArray⟩) := HO2.out.z.cell 5 _ rfl
      have p6 : W.cell? ⟨w.heap.size + 1, 6, none⟩ = some (.int .i64 zn) := HO2.out.z.cell 6 _ rfl
      have p7 : W.cell? ⟨w.heap.size + 1, 7, none⟩ = some (.int .i64 zm) := HO2.out.z.cell 7 _ rfl
      have v0 : W.cell? ⟨wr.heap.size, 0, none⟩ = some (.int .u8 k) := HV.out.cell 0 _ rfl
      have v1 : W.cell? ⟨wr.heap.size, 1, none⟩ = some (.int .i64 n) := HV.out.cell 1 _ rfl
      have v2 : W.cell? ⟨wr.heap.size, 2, none⟩ = some (.string ⟨s.toArray⟩) := HV.out.cell 2 _ rfl
      go_region_with (first
        | (go_at_call 43; refine (H1.out _).mono ?_; rintro e w2 ⟨rfl, hx⟩; have HO3 := Lib.hid (HO2.out.ext (Ext.trans (Ext.drew W) hx)); clear hx; have q0 : w2.cell? ⟨w.heap.size + 1, 0, none⟩ = some (.int .u8 ak) := HO3.out.z.cell 0 _ rfl; have q1 : w2.cell? ⟨w.heap.size + 1, 1, none⟩ = some (.int .i64 an) := HO3.out.z.cell 1 _ rfl; have q2 : w2.cell? ⟨w.heap.size + 1, 2, none⟩ = some (.string ⟨as'.toArray⟩) := HO3.out.z.cell 2 _ rfl; have q3 : w2.cell? ⟨w.heap.size + 1, 3, none⟩ = some (.int .u8 bk) := HO3.out.z.cell 3 _ rfl; have q4 : w2.cell? ⟨w.heap.size + 1, 4, none⟩ = some (.int .i64 bn) := HO3.out.z.cell 4 _ rfl; have q5 : w2.cell? ⟨w.heap.size + 1, 5, none⟩ = some (.string ⟨bs.toArray⟩) := HO3.out.z.cell 5 _ rfl; have q6 : w2.cell? ⟨w.heap.size + 1, 6, none⟩ = some (.int .i64 zn) := HO3.out.z.cell 6 _ rfl; have q7 : w2.cell? ⟨w.heap.size + 1, 7, none⟩ = some (.int .i64 zm) := HO3.out.z.cell 7 _ rfl)
        | (go_at_call 42; refine (HM.out _).mono ?_; rintro e w3 ⟨rfl, hx⟩; have HO4 := Lib.hid (HO3.out.ext hx); clear hx; have r0 : w3.cell? ⟨w.heap.size + 1, 0, none⟩ = some (.int .u8 ak) := HO4.out.z.cell 0 _ rfl; have r1 : w3.cell? ⟨w.heap.size + 1, 1, none⟩ = some (.int .i64 an) := HO4.out.z.cell 1 _ rfl; have r2 : w3.cell? ⟨w.heap.size + 1, 2, none⟩ = some (.string ⟨as'.toArray⟩) := HO4.out.z.cell 2 _ rfl; have r3 : w3.cell? ⟨w.heap.size + 1, 3, none⟩ = some (.int .u8 bk) := HO4.out.z.cell 3 _ rfl; have r4 : w3.cell? ⟨w.heap.size + 1, 4, none⟩ = some (.int .i64 bn) := HO4.out.z.cell 4 _ rfl; have r5 : w3.cell? ⟨w.heap.size + 1, 5, none⟩ = some (.string ⟨bs.toArray⟩) := HO4.out.z.cell 5 _ rfl; have r6 : w3.cell? ⟨w.heap.size + 1, 6, none⟩ = some (.int .i64 zn) := HO4.out.z.cell 6 _ rfl; have r7 : w3.cell? ⟨w.heap.size + 1, 7, none⟩ = some (.int .i64 zm) := HO4.out.z.cell 7 _ rfl; have f0 : w3.frozen? ⟨w.heap.size + 1, 0, none⟩ = false := HO4.out.z.free 0; have f1 : w3.frozen? ⟨w.heap.size + 1, 1, none⟩ = false := HO4.out.z.free 1; have f2 : w3.frozen? ⟨w.heap.size + 1, 2, none⟩ = false := HO4.out.z.free 2; have f3 : w3.frozen? ⟨w.heap.size + 1, 3, none⟩ = false := HO4.out.z.free 3; have f4 : w3.frozen? ⟨w.heap.size + 1, 4, none⟩ = false := HO4.out.z.free 4; have f5 : w3.frozen? ⟨w.heap.size + 1, 5, none⟩ = false := HO4.out.z.free 5; have f6 : w3.frozen? ⟨w.heap.size + 1, 6, none⟩ = false := HO4.out.z.free 6; have f7 : w3.frozen? ⟨w.heap.size + 1, 7, none⟩ = false := HO4.out.z.free 7))
      all_goals go_wp2_with fail
      all_goals go_roundw
      all_goals first
        | (case rel => exact ⟨j + 1, by omega, by go_num, by rw [HT.out]; exact HO4.out.put ⟨⟨ck, cn, cs⟩, ⟨dk, dn, ds⟩, yn, ym⟩⟩)
        | (case measure => simp [intOf]; omega)
        | skip
    · have hjN : N = j := by omega
      have HE := Lib.hid (show vs.take j = vs by rw [← hjN, ← HN.out]; exact List.take_of_length_le (Nat.le_refl _))
      rw [HE.out] at HO
      have HR := Lib.hid (show Blk (put8 wr w.heap.size (ofZ vs)) w.heap.size (ofZ vs).cells 47 from HO.out.r.put8 (ofZ vs))
      have HX := Lib.hid (show Ext w (put8 wr w.heap.size (ofZ vs)) from below_put8 HO.out.x (Nat.le_refl _) (ofZ vs))
      obtain ⟨z, hz⟩ : ∃ z, ofZ vs = z := ⟨_, rfl⟩
      have HZ := Lib.hid hz
      rw [hz] at HO HR HX
      clear hz
      obtain ⟨⟨ak, an, as'⟩, ⟨bk, bn, bs⟩, zn, zm⟩ := z
      subst hjN
      have z0 : wr.cell? ⟨w.heap.size + 1, 0, none⟩ = some (.int .u8 ak) := HO.out.z.cell 0 _ rfl
      have z1 : wr.cell? ⟨w.heap.size + 1, 1, none⟩ = some (.int .i64 an) := HO.out.z.cell 1 _ rfl
      have z2 : wr.cell? ⟨w.heap.size + 1, 2, none⟩ = some (.string ⟨as'.toArray⟩) := HO.out.z.cell 2 _ rfl
      have z3 : wr.cell? ⟨w.heap.size + 1, 3, none⟩ = some (.int .u8 bk) := HO.out.z.cell 3 _ rfl
      have z4 : wr.cell? ⟨w.heap.size + 1, 4, none⟩ = some (.int .i64 bn) := HO.out.z.cell 4 _ rfl
      have z5 : wr.cell? ⟨w.heap.size + 1, 5, none⟩ = some (.string ⟨bs.toArray⟩) := HO.out.z.cell 5 _ rfl
      have z6 : wr.cell? ⟨w.heap.size + 1, 6, none⟩ = some (.int .i64 zn) := HO.out.z.cell 6 _ rfl
      have z7 : wr.cell? ⟨w.heap.size + 1, 7, none⟩ = some (.int .i64 zm) := HO.out.z.cell 7 _ rfl
      have r0 : wr.cell? ⟨w.heap.size, 0, none⟩ = some (.int .u8 0) := HO.out.r.cell 0 _ rfl
      have r1 : wr.cell? ⟨w.heap.size, 1, none⟩ = some (.int .i64 0) := HO.out.r.cell 1 _ rfl
      have r2 : wr.cell? ⟨w.heap.size, 2, none⟩ = some (.string ⟨#[]⟩) := HO.out.r.cell 2 _ rfl
      have r3 : wr.cell? ⟨w.heap.size, 3, none⟩ = some (.int .u8 0) := HO.out.r.cell 3 _ rfl
      have r4 : wr.cell? ⟨w.heap.size, 4, none⟩ = some (.int .i64 0) := HO.out.r.cell 4 _ rfl
      have r5 : wr.cell? ⟨w.heap.size, 5, none⟩ = some (.string ⟨#[]⟩) := HO.out.r.cell 5 _ rfl
      have r6 : wr.cell? ⟨w.heap.size, 6, none⟩ = some (.int .i64 0) := HO.out.r.cell 6 _ rfl
      have r7 : wr.cell? ⟨w.heap.size, 7, none⟩ = some (.int .i64 0) := HO.out.r.cell 7 _ rfl
      have f0 : wr.frozen? ⟨w.heap.size, 0, none⟩ = false := HO.out.r.free 0
      have f1 : wr.frozen? ⟨w.heap.size, 1, none⟩ = false := HO.out.r.free 1
      have f2 : wr.frozen? ⟨w.heap.size, 2, none⟩ = false := HO.out.r.free 2
      have f3 : wr.frozen? ⟨w.heap.size, 3, none⟩ = false := HO.out.r.free 3
      have f4 : wr.frozen? ⟨w.heap.size, 4, none⟩ = false := HO.out.r.free 4
      have f5 : wr.frozen? ⟨w.heap.size, 5, none⟩ = false := HO.out.r.free 5
      have f6 : wr.frozen? ⟨w.heap.size, 6, none⟩ = false := HO.out.r.free 6
      have f7 : wr.frozen? ⟨w.heap.size, 7, none⟩ = false := HO.out.r.free 7
      go_wp2_with fail
      refine bodyPost_ret (results_cell_row (P := Tryz.prog) (fn := Tryz.f16) rfl _ _ w.heap.size 47 _ (0, 0) _ rfl HR.out Tryz.underlying47 rfl (by kernel_rfl)) rfl ?_
      exact ⟨by rw [HZ.out]; rfl, HX.out⟩
end
end Go.Proofs.YtfnmcdjfdhdlmaaGreatDoor
