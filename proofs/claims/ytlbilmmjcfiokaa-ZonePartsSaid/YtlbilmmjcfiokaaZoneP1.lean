/-
  The program's contracts of zones: outer, one, Merge, Of.
-/
import Derived.Test.YtlbilmmjcfiokaaZoneRef3
import Derived.Test.YtlbilmmjcfiokaaCellSay3
import Derived.Test.YtlbilmmjcfiokaaHead
namespace Go.Proofs.Ytlbilmmjcfiokaa
open Go.RowKit Go.BigFrame

theorem blk3 (w : World) (o o' : Obj) (xs : List Value) (t : TypeId) : Blk (((w.alloc o).alloc o').alloc (.cells xs.toArray t)) (w.heap.size + 1 + 1) xs t := by
  have h := Blk.new ((w.alloc o).alloc o') xs t
  simp only [World.alloc, Array.size_push] at h
  exact h
theorem blk31 (w : World) (o o' : Obj) (xs : List Value) (t : TypeId) : Blk (((w.alloc o).alloc (.cells xs.toArray t)).alloc o') (w.heap.size + 1) xs t := by
  have h := Blk.new (w.alloc o) xs t
  simp only [World.alloc, Array.size_push] at h
  exact h.ext (ext_new _ _)
theorem ext3 (w : World) (a b c : Obj) : Ext w (((w.alloc a).alloc b).alloc c) := Ext.trans (Ext.trans (ext_new _ _) (ext_new _ _)) (ext_new _ _)

/-- Which one is the outer one of two. -/
theorem outer_is (a b : V) (d : Int) (c : V → V → Int) (hd : (d = -1 ∧ c = cmpV) ∨ (d = 1 ∧ c = cmpW)) : (a.k = 0 → b.k = 0 → pick c a b = V.zero) ∧ (a.k = 0 → b.k ≠ 0 → pick c a b = b) ∧ (a.k ≠ 0 → b.k = 0 → pick c a b = a) ∧ (a.k ≠ 0 → b.k ≠ 0 → (cmpV a b = d → pick c a b = a) ∧ (cmpV a b ≠ d → pick c a b = b)) := by
  refine ⟨fun h1 h2 => by unfold pick; rw [if_pos (.inl h1), nz_no h2], fun h1 h2 => by unfold pick; rw [if_pos (.inl h1), nz_yes h2], fun h1 h2 => by unfold pick; rw [if_neg (by rintro (h | h); exact h1 h; exact h.1 h2), nz_yes h1], fun h1 h2 => ?_⟩
  have e1 := cmpV_neg a b
  have e2 := cmpV_three a b
  by_cases hz : cmpV a b = 0
  · have := cmpV_zero.1 hz
    subst this
    have e : pick c a a = a := by unfold pick; rw [ite_self, nz_yes h1]
    exact ⟨fun _ => e, fun _ => e⟩
  · rcases hd with ⟨rfl, rfl⟩ | ⟨rfl, rfl⟩
    · refine ⟨fun h => ?_, fun h => ?_⟩
      · unfold pick
        rw [if_neg (by rintro (h | h); exact h1 h; have := h.2; omega), nz_yes h1]
      · unfold pick
        rw [if_pos (.inr ⟨h2, by omega⟩), nz_yes h2]
    · refine ⟨fun h => ?_, fun h => ?_⟩
      · unfold pick
        rw [if_neg (by rintro (h | h); exact h1 h; have : cmpV a b < 0 := h.2; omega), nz_yes h1]
      · unfold pick
        rw [if_pos (.inr ⟨h2, by show cmpV a b < 0; omega⟩), nz_yes h2]

set_option maxRecDepth 100000 in
set_option maxHeartbeats 4000000 in
theorem pOuter_any (a b : V) (d : Int) (c : V → V → Int) (w : World) (hd : (d = -1 ∧ c = cmpV) ∨ (d = 1 ∧ c = cmpW)) (ha : a.fits) (hb : b.fits) (hal : a.s.length ≤ 5000) (hbl : b.s.length ≤ 5000) :
    Calls Try.prog 33 #[a.val, b.val, .int .i64 d] w fun e w' => e = .returned (pick c a b).val ∧ Ext w w' := by
  have HC := Lib.hid (fun W => Compare_any a b ha hb hal hbl W)
  obtain ⟨h0, h1, h2, h3⟩ := outer_is a b d c hd
  generalize pick c a b = y at h0 h1 h2 h3
  obtain ⟨k, n, s⟩ := a
  obtain ⟨k', n', s'⟩ := b
  unfold V.val at HC ⊢
  simp only at HC h0 h1 h2 h3 ⊢
  generalize cmpV ⟨k, n, s⟩ ⟨k', n', s'⟩ = C at HC h3
  have HX := Lib.hid (ext3 w (.cells #[.int .u8 k, .int .i64 n, .string ⟨s.toArray⟩] 24) (.cells #[.int .u8 k', .int .i64 n', .string ⟨s'.toArray⟩] 24))
  have HA := Lib.hid (show Blk (((w.alloc (.cells #[.int .u8 k, .int .i64 n, .string ⟨s.toArray⟩] 24)).alloc (.cells #[.int .u8 k', .int .i64 n', .string ⟨s'.toArray⟩] 24)).alloc (.cells #[.int .u8 0, .int .i64 0, .string ⟨#[]⟩] 24)) w.heap.size [.int .u8 k, .int .i64 n, .string ⟨s.toArray⟩] 24 from ((Blk.new w _ _).ext (ext_new _ _)).ext (ext_new _ _))
  have HB := Lib.hid (blk31 w (.cells #[.int .u8 k, .int .i64 n, .string ⟨s.toArray⟩] 24) (.cells #[.int .u8 0, .int .i64 0, .string ⟨#[]⟩] 24) [.int .u8 k', .int .i64 n', .string ⟨s'.toArray⟩] 24)
  have HR := Lib.hid (blk3 w (.cells #[.int .u8 k, .int .i64 n, .string ⟨s.toArray⟩] 24) (.cells #[.int .u8 k', .int .i64 n', .string ⟨s'.toArray⟩] 24))
  clear hd ha hb hal hbl
  by_cases hk : k = 0
  · by_cases hk' : k' = 0
    · have HQ := Lib.hid (h0 hk hk')
      subst hk hk'
      clear h0 h1 h2 h3
      go_enter Try.func33, Try.ntmps33
      go_wp2_with fail
      refine bodyPost_ret (results_cell_row (P := Try.prog) (fn := Try.f33) rfl _ _ (w.heap.size + 1 + 1) 24 _ (0, 0) _ rfl (HR.out [_, _, _] _) Try.underlying24 rfl (by kernel_rfl)) rfl ?_
      exact ⟨by rw [HQ.out]; rfl, HX.out _⟩
    · have HQ := Lib.hid (h1 hk hk')
      have q : (k' == (0 : Int)) = false := beq_eq_false_iff_ne.2 hk'
      subst hk
      clear h0 h1 h2 h3 hk'
      go_enter Try.func33, Try.ntmps33
      go_wp2_with fail
      refine bodyPost_ret (results_cell_row (P := Try.prog) (fn := Try.f33) rfl _ _ (w.heap.size + 1 + 1) 24 _ (0, 0) _ rfl (HR.out [_, _, _] _) Try.underlying24 rfl (by kernel_rfl)) rfl ?_
      exact ⟨by rw [HQ.out], HX.out _⟩
  · have q : (k == (0 : Int)) = false := beq_eq_false_iff_ne.2 hk
    by_cases hk' : k' = 0
    · have HQ := Lib.hid (h2 hk hk')
      subst hk'
      clear h0 h1 h2 h3 hk
      go_enter Try.func33, Try.ntmps33
      go_wp2_with fail
      refine bodyPost_ret (results_cell_row (P := Try.prog) (fn := Try.f33) rfl _ _ (w.heap.size + 1 + 1) 24 _ (0, 0) _ rfl (HR.out [_, _, _] _) Try.underlying24 rfl (by kernel_rfl)) rfl ?_
      exact ⟨by rw [HQ.out], HX.out _⟩
    · have q' : (k' == (0 : Int)) = false := beq_eq_false_iff_ne.2 hk'
      have HQ := Lib.hid (h3 hk hk')
      clear h0 h1 h2 h3 hk hk'
      go_enter Try.func33, Try.ntmps33
      go_wp2_with fail
      refine (HC.out _).mono ?_
      rintro e w1 ⟨rfl, hx⟩
      have HA1 := Lib.hid (HA.out.ext hx)
      have HB1 := Lib.hid (HB.out.ext hx)
      have HR1 := Lib.hid ((HR.out [.int .u8 0, .int .i64 0, .string ⟨#[]⟩] 24).ext hx)
      have HX1 := Lib.hid (Ext.trans (HX.out _) hx)
      clear hx
      have a0 : w1.cell? ⟨w.heap.size, 0, none⟩ = some (.int .u8 k) := HA1.out.cell 0 _ rfl
      have a1 : w1.cell? ⟨w.heap.size, 1, none⟩ = some (.int .i64 n) := HA1.out.cell 1 _ rfl
      have a2 : w1.cell? ⟨w.heap.size, 2, none⟩ = some (.string ⟨s.toArray⟩) := HA1.out.cell 2 _ rfl
      have b0 : w1.cell? ⟨w.heap.size + 1, 0, none⟩ = some (.int .u8 k') := HB1.out.cell 0 _ rfl
      have b1 : w1.cell? ⟨w.heap.size + 1, 1, none⟩ = some (.int .i64 n') := HB1.out.cell 1 _ rfl
      have b2 : w1.cell? ⟨w.heap.size + 1, 2, none⟩ = some (.string ⟨s'.toArray⟩) := HB1.out.cell 2 _ rfl
      have r0 : w1.cell? ⟨w.heap.size + 1 + 1, 0, none⟩ = some (.int .u8 0) := HR1.out.cell 0 _ rfl
      have r1 : w1.cell? ⟨w.heap.size + 1 + 1, 1, none⟩ = some (.int .i64 0) := HR1.out.cell 1 _ rfl
      have r2 : w1.cell? ⟨w.heap.size + 1 + 1, 2, none⟩ = some (.string ⟨#[]⟩) := HR1.out.cell 2 _ rfl
      have f0 : w1.frozen? ⟨w.heap.size + 1 + 1, 0, none⟩ = false := HR1.out.free 0
      have f1 : w1.frozen? ⟨w.heap.size + 1 + 1, 1, none⟩ = false := HR1.out.free 1
      have f2 : w1.frozen? ⟨w.heap.size + 1 + 1, 2, none⟩ = false := HR1.out.free 2
      by_cases hc : C = d
      · have HQ2 := Lib.hid (HQ.out.1 hc)
        have HS := Lib.hid (((HR1.out.set 0 (.int .u8 k)).set 1 (.int .i64 n)).set 2 (.string ⟨s.toArray⟩))
        have HSX := Lib.hid (fun (u0 u1 u2 : Value) => (show Ext w (((w1.setCell ⟨w.heap.size + 1 + 1, 0, none⟩ u0).setCell ⟨w.heap.size + 1 + 1, 1, none⟩ u1).setCell ⟨w.heap.size + 1 + 1, 2, none⟩ u2) from Below.setCell (Below.setCell (Below.setCell HX1.out (by show w.heap.size ≤ w.heap.size + 1 + 1; omega) _) (by show w.heap.size ≤ w.heap.size + 1 + 1; omega) _) (by show w.heap.size ≤ w.heap.size + 1 + 1; omega) _))
        subst hc
        go_wp2_with fail
        refine bodyPost_ret (results_cell_row (P := Try.prog) (fn := Try.f33) rfl _ _ (w.heap.size + 1 + 1) 24 _ (0, 0) _ rfl HS.out Try.underlying24 rfl (by kernel_rfl)) rfl ?_
        exact ⟨by rw [HQ2.out]; rfl, HSX.out _ _ _⟩
      · have HQ2 := Lib.hid (HQ.out.2 hc)
        have qc : (C == d) = false := beq_eq_false_iff_ne.2 hc
        have HS := Lib.hid (((HR1.out.set 0 (.int .u8 k')).set 1 (.int .i64 n')).set 2 (.string ⟨s'.toArray⟩))
        have HSX := Lib.hid (fun (u0 u1 u2 : Value) => (show Ext w (((w1.setCell ⟨w.heap.size + 1 + 1, 0, none⟩ u0).setCell ⟨w.heap.size + 1 + 1, 1, none⟩ u1).setCell ⟨w.heap.size + 1 + 1, 2, none⟩ u2) from Below.setCell (Below.setCell (Below.setCell HX1.out (by show w.heap.size ≤ w.heap.size + 1 + 1; omega) _) (by show w.heap.size ≤ w.heap.size + 1 + 1; omega) _) (by show w.heap.size ≤ w.heap.size + 1 + 1; omega) _))
        clear hc
        go_wp2_with fail
        refine bodyPost_ret (results_cell_row (P := Try.prog) (fn := Try.f33) rfl _ _ (w.heap.size + 1 + 1) 24 _ (0, 0) _ rfl HS.out Try.underlying24 rfl (by kernel_rfl)) rfl ?_
        exact ⟨by rw [HQ2.out]; rfl, HSX.out _ _ _⟩

set_option maxRecDepth 100000 in
theorem pOneZ_any (v : V) (w : World) : Calls Try.prog 32 #[v.val] w fun e w' => e = .returned (oneZ v).val ∧ Ext w w' := by
  have h0 := oneZ_no (v := v)
  have h1 := oneZ_yes (v := v)
  generalize oneZ v = y at h0 h1
  obtain ⟨k, n, s⟩ := v
  unfold V.val
  simp only at h0 h1 ⊢
  have HR := Lib.hid (fun (o : Obj) (xs : List Value) (t : TypeId) => (show Blk ((w.alloc o).alloc (.cells xs.toArray t)) (w.heap.size + 1) xs t by
    have h := Blk.new (w.alloc o) xs t
    simp only [World.alloc, Array.size_push] at h
    exact h))
  have HX := Lib.hid (fun (o o' : Obj) => (show Ext w ((w.alloc o).alloc o') from Ext.trans (ext_new _ _) (ext_new _ _)))
  by_cases hk : k = 0
  · have HQ := Lib.hid (h0 hk)
    subst hk
    clear h0 h1
    go_enter Try.func32, Try.ntmps32
    go_wp2_with fail
    refine bodyPost_ret (results_cell_row (P := Try.prog) (fn := Try.f32) rfl _ _ (w.heap.size + 1) 26 _ (0, 0) _ rfl (HR.out _ [_, _, _, _, _, _, _, _] _) Try.underlying26 rfl (by kernel_rfl)) rfl ?_
    exact ⟨by rw [HQ.out]; rfl, HX.out _ _⟩
  · have HQ := Lib.hid (h1 hk)
    have q : (k == (0 : Int)) = false := beq_eq_false_iff_ne.2 hk
    clear h0 h1 hk
    go_enter Try.func32, Try.ntmps32
    go_wp2_with fail
    refine bodyPost_ret (results_cell_row (P := Try.prog) (fn := Try.f32) rfl _ _ (w.heap.size + 1) 26 _ (0, 0) _ rfl (HR.out _ [_, _, _, _, _, _, _, _] _) Try.underlying26 rfl (by kernel_rfl)) rfl ?_
    exact ⟨by rw [HQ.out]; rfl, HX.out _ _⟩

end Go.Proofs.Ytlbilmmjcfiokaa
