/-
  The walk of the law FormRises.
-/
import Derived.Test.YtmlflicjebjdaaaShown
import Derived.Test.YtmlflicjebjdaaaCan
import Derived.BigQuiet
import Derived.Lib.Strings
import Derived.Lib.SmallJoins
namespace Go.Proofs.Ytmlflicjebjdaaa
open Go.RowKit Go.BigFrame

/-- Num onto nil, and what string(..) of it is from then on. -/
theorem Num_nil (n : Nat) (w : World) (h1 : n ≤ 18446744073709551615) :
    Calls Try.prog 11 #[.slice none 0 0, .int .u64 n] w fun e w' => ∃ v, e = .returned v ∧ (∀ p : Later Ext w', (convert 22 9 v).run Try.prog p.val = .ok (.string ⟨(enc n).toArray⟩) p.val) ∧ Ext w w' := by
  refine (Num_any (.slice none 0 0) [] n w (Rd.nil w) (by simp) h1).mono ?_
  rintro e w1 ⟨v, rfl, hown, hb⟩
  rw [List.nil_append] at hown
  exact ⟨v, rfl, fun p => (Rd.mono (RdV.of_owns hown) p.ext).string _ _ _ Try.underlying22 Try.underlying5 Try.underlying9, hb⟩

theorem cut_ne (a b : Nat) (x y : List UInt8) (hx : x = enc a) (hy : y = enc b) (ha : a < 18446744073709551616) (hb : b < 18446744073709551616) (h : a ≠ b) :
    (((⟨x.toArray⟩ : ByteArray).extract 0 (min (x.length : Int) y.length).toNat).toList == ((⟨y.toArray⟩ : ByteArray).extract 0 (min (x.length : Int) y.length).toNat).toList) = false := by
  rw [beq_eq_false_iff_ne, Lib.extract_toList, Lib.extract_toList]
  have := enc_prefix a b ha hb h (min (x.length : Int) y.length).toNat (by rw [← hx, ← hy]; omega)
  simpa [← hx, ← hy] using this

set_option maxRecDepth 100000 in
set_option maxHeartbeats 1000000 in
theorem formRises_nat (a b : Nat) (w : World) (ha : a ≤ 18446744073709551615) (hb : b ≤ 18446744073709551615) :
    Calls Try.prog 6 #[.int .u64 a, .int .u64 b] w fun e w' => e = .returned (.bool true) ∧ Below w.heap.size w w' := by
  have LA := enc_length a
  have LB := enc_length b
  have PA := enc_pos a
  have PB := enc_pos b
  obtain ⟨x, hx⟩ : ∃ x, x = enc a := ⟨_, rfl⟩
  obtain ⟨y, hy⟩ : ∃ y, y = enc b := ⟨_, rfl⟩
  have HA := Num_nil a
  have HB := Num_nil b
  rw [← hx] at HA LA PA
  rw [← hy] at HB LB PB
  have hless : Op.bytesLess x y = decide (a < b) := by rw [hx, hy]; exact enc_less a b (by omega) (by omega)
  have HX := Lib.hid hx
  have HY := Lib.hid hy
  have HA' := Lib.hid HA
  have HB' := Lib.hid HB
  have HL := Lib.hid hless
  clear hx hy HA HB hless
  go_enter Try.func6, Try.ntmps6
  go_wp2_with fail
  refine wp_region_segs Ext Ext.keeps [([0, 3], some 1), ([2], some 4), ([5, 6, 7], none)] (by kernel_rfl) (by kernel_rfl) (fun c a a' w e h => (by exact ⟨e ▸ h.1, h.2⟩)) ?_
  simp only [pickSegs, pickOps, List.map_cons, List.map_nil, Option.map_some, Option.map_none, Option.getD_some, List.getElem?_toArray, List.getElem?_cons_zero, List.getElem?_cons_succ]
  refine wpSegs_some fun K hK => ?_
  repeat go_big_quiet_step (fail)
  refine wpQuiet_nil ?_
  go_wp2_with fail
  refine (HA'.out _ ha).mono ?_
  rintro e w1 ⟨v1, rfl, hc1, hb1⟩
  go_wp2_with fail
  refine ⟨hb1, hK _ _ ?_⟩
  clear hK K
  have H1 := Lib.hid hb1
  clear hb1
  refine wpSegs_some fun K hK => ?_
  repeat go_big_quiet_step (fail)
  refine wpQuiet_nil ?_
  clear hc1
  go_wp2_with fail
  refine (HB'.out _ hb).mono ?_
  rintro e w2 ⟨v2, rfl, hc2, hb2⟩
  go_wp2_with fail
  refine ⟨hb2, hK _ _ ?_⟩
  clear hK K
  have H2 := Lib.hid hb2
  clear hb2
  refine wpSegs_none ?_
  repeat go_big_quiet_step (fail)
  refine wpQuiet_nil ?_
  refine wpSegs_nil ?_
  clear hc2
  go_wp2_with fail
  have hl := HL.out
  have hp1 : decide ((1 : Int) ≤ x.length) = true := decide_eq_true (by omega)
  have hp9 : decide ((x.length : Int) ≤ 9) = true := decide_eq_true (by omega)
  rcases Nat.lt_trichotomy a b with h | h | h
  · have hle : ((a : Int) == b) = false := by rw [beq_eq_false_iff_ne]; omega
    have hne := cut_ne a b x y HX.out HY.out (by omega) (by omega) (by omega)
    have hlt := decide_eq_true h
    rw [hlt] at hl
    clear h
    refine wp_region_segs Ext Ext.keeps [([], some 0), ([1, 2, 3, 4, 5, 6, 7, 8, 9, 10, 11, 12, 13, 14, 15, 16, 17, 18, 19, 20, 21, 22, 23, 24, 25, 26, 27, 28, 29, 30, 31, 32, 33, 34], none)] (by kernel_rfl) (by kernel_rfl) (fun c a a' w e h => (by exact ⟨e ▸ h.1, h.2⟩)) ?_
    simp only [pickSegs, pickOps, List.map_cons, List.map_nil, Option.map_some, Option.map_none, Option.getD_some, List.getElem?_toArray, List.getElem?_cons_zero, List.getElem?_cons_succ]
    refine wpSegs_some fun K hK => ?_
    refine wpQuiet_nil ?_
    go_wp2_with fail
    refine (shown_any _).mono ?_
    rintro e w3 ⟨rfl, hb3⟩
    go_wp2_with fail
    refine ⟨hb3, hK _ _ ?_⟩
    clear hK K
    have H3 := Lib.hid hb3
    clear hb3
    refine wpSegs_none ?_
    repeat go_big_quiet_step (fail)
    refine wpQuiet_nil ?_
    refine wpSegs_nil ?_
    go_wp2
    go_ret
    exact ⟨rfl, Ext.trans (Ext.drew _) (Ext.trans H1.out (Ext.trans H2.out (Ext.trans (Ext.drew _) H3.out)))⟩
  · have hle : ((a : Int) == b) = true := by rw [beq_iff_eq]; omega
    have hlt : decide (a < b) = false := decide_eq_false (by omega)
    rw [hlt] at hl
    clear h
    refine wp_region_segs Ext Ext.keeps [([], some 0), ([1, 2, 3, 4, 5, 6, 7, 8, 9, 10, 11, 12, 13, 14, 15, 16, 17, 18, 19, 20, 21, 22, 23, 24, 25, 26, 27, 28, 29, 30, 31, 32, 33, 34], none)] (by kernel_rfl) (by kernel_rfl) (fun c a a' w e h => (by exact ⟨e ▸ h.1, h.2⟩)) ?_
    simp only [pickSegs, pickOps, List.map_cons, List.map_nil, Option.map_some, Option.map_none, Option.getD_some, List.getElem?_toArray, List.getElem?_cons_zero, List.getElem?_cons_succ]
    refine wpSegs_some fun K hK => ?_
    refine wpQuiet_nil ?_
    go_wp2_with fail
    refine (shown_any _).mono ?_
    rintro e w3 ⟨rfl, hb3⟩
    go_wp2_with fail
    refine ⟨hb3, hK _ _ ?_⟩
    clear hK K
    have H3 := Lib.hid hb3
    clear hb3
    refine wpSegs_none ?_
    repeat go_big_quiet_step (fail)
    refine wpQuiet_nil ?_
    refine wpSegs_nil ?_
    go_wp2
    go_ret
    exact ⟨rfl, Ext.trans (Ext.drew _) (Ext.trans H1.out (Ext.trans H2.out (Ext.trans (Ext.drew _) H3.out)))⟩
  · have hle : ((a : Int) == b) = false := by rw [beq_eq_false_iff_ne]; omega
    have hne := cut_ne a b x y HX.out HY.out (by omega) (by omega) (by omega)
    have hlt : decide (a < b) = false := decide_eq_false (by omega)
    rw [hlt] at hl
    clear h
    refine wp_region_segs Ext Ext.keeps [([], some 0), ([1, 2, 3, 4, 5, 6, 7, 8, 9, 10, 11, 12, 13, 14, 15, 16, 17, 18, 19, 20, 21, 22, 23, 24, 25, 26, 27, 28, 29, 30, 31, 32, 33, 34], none)] (by kernel_rfl) (by kernel_rfl) (fun c a a' w e h => (by exact ⟨e ▸ h.1, h.2⟩)) ?_
    simp only [pickSegs, pickOps, List.map_cons, List.map_nil, Option.map_some, Option.map_none, Option.getD_some, List.getElem?_toArray, List.getElem?_cons_zero, List.getElem?_cons_succ]
    refine wpSegs_some fun K hK => ?_
    refine wpQuiet_nil ?_
    go_wp2_with fail
    refine (shown_any _).mono ?_
    rintro e w3 ⟨rfl, hb3⟩
    go_wp2_with fail
    refine ⟨hb3, hK _ _ ?_⟩
    clear hK K
    have H3 := Lib.hid hb3
    clear hb3
    refine wpSegs_none ?_
    repeat go_big_quiet_step (fail)
    refine wpQuiet_nil ?_
    refine wpSegs_nil ?_
    go_wp2
    go_ret
    exact ⟨rfl, Ext.trans (Ext.drew _) (Ext.trans H1.out (Ext.trans H2.out (Ext.trans (Ext.drew _) H3.out)))⟩

theorem formRises_walk (a b : Int) (w : World) (ha : 0 ≤ a ∧ a ≤ 18446744073709551615) (hb : 0 ≤ b ∧ b ≤ 18446744073709551615) :
    Calls Try.prog 6 #[.int .u64 a, .int .u64 b] w fun e w' => e = .returned (.bool true) ∧ Below w.heap.size w w' := by
  obtain ⟨A, rfl⟩ := Int.eq_ofNat_of_zero_le ha.1
  obtain ⟨B, rfl⟩ := Int.eq_ofNat_of_zero_le hb.1
  exact formRises_nat A B w (by omega) (by omega)

end Go.Proofs.Ytmlflicjebjdaaa
