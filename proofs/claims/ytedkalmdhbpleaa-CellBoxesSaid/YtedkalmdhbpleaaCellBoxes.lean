/-
  The walk of the law CellBoxes.
-/
import Derived.Test.YtedkalmdhbpleaaCellAs
import Derived.Test.YtedkalmdhbpleaaCellAssertsW
import Derived.Test.YtedkalmdhbpleaaFork
namespace Go.Proofs.Ytedkalmdhbpleaa
open Go.RowKit Go.BigFrame

theorem ne_val (a b : V) (w : World) : (binOp .neq 23 a.val b.val).run Try.prog w = .ok (.bool (!decide (a = b))) w := by
  obtain ⟨k, n, s⟩ := a
  obtain ⟨k', n', s'⟩ := b
  unfold V.val
  simp only [V.mk.injEq]
  simp [go_sem]
  by_cases h1 : k = k' <;> by_cases h2 : n = n' <;> by_cases h3 : s = s' <;> simp [h1, h2, h3]

theorem unbox_box (v : V) (hr : rightV v = true) (w : World) :
    Calls Try.prog 26 #[boxV v] w fun e w' => e = .returned (.tuple #[v.val, .bool true]) ∧ Ext w w' := by
  have hb : boxV v = rawV v := by unfold boxV; rw [if_pos hr]
  rw [hb]
  obtain ⟨k, n, s⟩ := v
  rcases (rightV_iff _).1 hr with ⟨h1, h2, h3⟩ | ⟨h1, h2, h3⟩ | ⟨h1, h2⟩ | ⟨h1, h2, h3⟩
  · simp only at h1 h2 h3
    subst h1 h2 h3
    exact Unbox_nil w
  · simp only at h1 h2 h3
    subst h1 h3
    rcases h2 with rfl | rfl
    · exact Unbox_bool false w
    · exact Unbox_bool true w
  · simp only at h1 h2
    subst h1 h2
    exact Unbox_int n w
  · simp only at h1 h2 h3
    subst h1 h2
    exact Unbox_text s h3 w

/-- What is held when the things that are no values are gone through. -/
structure Bx (w0 W : World) (bx : Nat) (xs : List Value) : Prop where
  cells : ∀ j u, xs[j]? = some u → W.cell? ⟨bx, j, none⟩ = some u
  below : Ext w0 W

/-- Something that is no value in Go. -/
def NoV (x : Value) : Prop := (∃ T u, x = .iface T u ∧ T ≠ 4 ∧ T ≠ 3 ∧ T ≠ 9) ∨ ∃ s : List UInt8, x = .iface 9 (.string ⟨s.toArray⟩) ∧ 1024 < s.length ∧ s.length ≤ 5000
theorem unbox_no (x : Value) (hx : NoV x) (w : World) :
    Calls Try.prog 26 #[x] w fun e w' => e = .returned (.tuple #[.agg #[.int .u8 0, .int .i64 0, .string ⟨#[]⟩], .bool false]) ∧ Ext w w' := by
  rcases hx with ⟨T, u, rfl, h⟩ | ⟨s, rfl, h1, h2⟩
  · exact Unbox_other T u h w
  · exact Unbox_long s h1 h2 w

theorem made_zero (n : Nat) : (madeCells (Value.int .u8 0).cells (n * 1)).toList = (List.replicate n (0 : UInt8)).map bv := by
  rw [Nat.mul_one, List.map_replicate]
  exact toList_madeCells_one _ _
theorem add_texts (a b : List UInt8) (h : a.length + b.length ≤ 9223372036854775807) (w : World) :
    (binOp .add 9 (.string ⟨a.toArray⟩) (.string ⟨b.toArray⟩)).run Try.prog w = .ok (.string ⟨(a ++ b).toArray⟩) w := by
  rw [binOp_string_add]
  have : ¬ (((ByteArray.size ⟨a.toArray⟩ + ByteArray.size ⟨b.toArray⟩ : Nat) : Int) > IntKind.i64.max) := by
    show ¬ (((a.length + b.length : Nat) : Int) > 9223372036854775807)
    omega
  unfold Op.stringOp
  simp only [this, if_false]
  have e : (⟨a.toArray⟩ : ByteArray) ++ ⟨b.toArray⟩ = ⟨(a ++ b).toArray⟩ := by
    apply ByteArray.ext
    simp [ByteArray.data_append]
  rw [e]
  rfl

set_option maxRecDepth 100000 in
set_option maxHeartbeats 4000000 in
theorem cellBoxes_right (v : V) (w : World) (hv : v.fits) (l1 : v.s.length ≤ 3000) (hr : rightV v = true) :
    Calls Try.prog 6 #[v.val] w fun e w' => e = .returned (.bool true) ∧ Below w.heap.size w w' := by
  have HBOX := Lib.hid (fun w => Box_any v hv (by omega) w)
  have HUN := Lib.hid (fun w => unbox_box v hr w)
  have HR := Lib.hid (fun w => refRight_any v hv (by omega) w)
  have hNE := fun w => ne_val v v w
  rw [hr] at HR
  have hb : boxV v = rawV v := by unfold boxV; rw [if_pos hr]
  rw [hb] at HBOX HUN
  have hcase := (rightV_iff v).1 hr
  rw [decide_eq_true rfl] at hNE
  clear hb hr hv
  obtain ⟨k, n, s⟩ := v
  unfold V.val rawV at HBOX HUN
  unfold V.val at HR hNE ⊢
  simp only at HBOX HUN HR hNE hcase l1 ⊢
  obtain ⟨kk, hkk⟩ : ∃ x : Int, x = k := ⟨_, rfl⟩
  have HKK := Lib.hid hkk
  clear hkk
  have hcase2 : k = 0 ∨ k = 1 ∨ k = 2 ∨ k = 3 := by
    rcases hcase with h | h | h | h <;> omega
  clear hcase
  rcases hcase2 with rfl | rfl | rfl | rfl
  all_goals
    simp at HBOX HUN
    have n1 := fun w => (as_nil w).1
    have n2 := fun w => (as_nil w).2.1
    have n3 := fun w => (as_nil w).2.2
    have h1 := fun u w => (as_hit u w).1
    have h2 := fun u w => (as_hit u w).2.1
    have h3 := fun u w => (as_hit u w).2.2
    have m1 := fun u w => (as_miss 4 u w).2.1 (by decide)
    have m2 := fun u w => (as_miss 4 u w).2.2 (by decide)
    have m3 := fun u w => (as_miss 3 u w).1 (by decide)
    have m4 := fun u w => (as_miss 3 u w).2.2 (by decide)
    have m5 := fun u w => (as_miss 9 u w).1 (by decide)
    have m6 := fun u w => (as_miss 9 u w).2.1 (by decide)
    go_enter Try.func6, Try.ntmps6
    go_wp2_with fail
    refine (shown_any _).mono ?_
    rintro e w1 ⟨rfl, hb⟩
    have HC1 := Lib.hid (cells_old hb)
    have HE1 := Lib.hid (show Ext w w1 from Ext.trans (ext_one _ _) hb)
    have hc0 := HC1.out 0 _ rfl
    have hc1 := HC1.out 1 _ rfl
    have hc2 := HC1.out 2 _ rfl
    clear hb
    go_wp2_with fail
    refine (HBOX.out _).mono ?_
    rintro e w2 ⟨rfl, hb⟩
    have HC2 := Lib.hid (kept_cell HC1.out hb)
    have HE2 := Lib.hid (Ext.trans HE1.out hb)
    clear hb hc0 hc1 hc2
    go_wp2_with fail
    refine (HUN.out _).mono ?_
    rintro e w3 ⟨rfl, hb⟩
    have HC3 := Lib.hid (kept_cell HC2.out hb)
    have HE3 := Lib.hid (Ext.trans HE2.out hb)
    have HN := Lib.hid (fun o => ext_one w3 o)
    have hc0 := fun o => kept_cell HC3.out (HN.out o) 0 _ rfl
    have hc1 := fun o => kept_cell HC3.out (HN.out o) 1 _ rfl
    have hc2 := fun o => kept_cell HC3.out (HN.out o) 2 _ rfl
    clear hb
    go_wp2_with fail
    refine (HR.out _).mono ?_
    rintro e w4 ⟨rfl, hb⟩
    have HV4 := Lib.hid (cells_old hb)
    have HC4 := Lib.hid (kept_cell HC3.out (Ext.trans (HN.out _) hb))
    have HE4 := Lib.hid (Ext.trans HE3.out (Ext.trans (HN.out _) hb))
    clear hb hc0 hc1 hc2
    go_wp2_with fail
    have hc0 := later_cell HC4.out 0 _ rfl
    have hc1 := later_cell HC4.out 1 _ rfl
    have hc2 := later_cell HC4.out 2 _ rfl
    have hv0 := later_cell HV4.out 0 _ rfl
    have hv1 := later_cell HV4.out 1 _ rfl
    have hv2 := later_cell HV4.out 2 _ rfl
    refine wp_region_segs Ext Ext.keeps [([0, 1, 2, 3, 4, 5, 6, 7, 8, 9, 10, 11, 12, 13, 14, 15, 16, 17, 18, 19, 20, 21, 22, 23, 24, 25, 26, 27, 28, 29, 30, 31, 32, 33, 34, 35], none)] (by kernel_rfl) (by kernel_rfl) (fun c a a' w e h => (by exact ⟨e ▸ h.1, h.2⟩)) ?_
    simp only [pickSegs, pickOps, List.map_cons, List.map_nil, Option.map_none, Option.getD_some, List.getElem?_toArray, List.getElem?_cons_zero, List.getElem?_cons_succ]
    refine wpSegs_none ?_
    repeat go_big_quiet_step (fail)
    refine wpQuiet_nil (wpSegs_nil ?_)
    clear hc0 hc1 hc2 hv0 hv1 hv2
    have HC5 := Lib.hid (kept_cell HC4.out (Ext.drew _))
    have HE5 := Lib.hid (Ext.trans HE4.out (Ext.drew _))
    generalize w4.drew = w5 at HC5 HE5 ⊢
    clear hNE
    go_wp2_with fail
    clear n1 n2 n3 h1 h2 h3 m1 m2 m3 m4 m5 m6
    have HC6 := Lib.hid (kept_cell HC5.out (Ext.drew w5))
    have hc0 := now_cell HC6.out 0 _ rfl
    have hc1 := now_cell HC6.out 1 _ rfl
    have hc2 := now_cell HC6.out 2 _ rfl
    have hadd := fun w => add_texts s (List.replicate 1025 0) (by rw [List.length_replicate]; omega) w
    have hadd2 : ∀ w, (Op.stringOp .add ⟨s.toArray⟩ ⟨(List.replicate 1025 (0 : UInt8)).toArray⟩).run Try.prog w = .ok (.string ⟨(s ++ List.replicate 1025 (0 : UInt8)).toArray⟩) w := fun w => by
      have h := hadd w
      rw [binOp_string_add] at h
      exact h
    have hlen : (s ++ List.replicate 1025 (0 : UInt8)).length = s.length + 1025 := by rw [List.length_append, List.length_replicate]
    have HL1 := Lib.hid (show 1024 < (s ++ List.replicate 1025 (0 : UInt8)).length by omega)
    have HL2 := Lib.hid (show (s ++ List.replicate 1025 (0 : UInt8)).length ≤ 5000 by omega)
    have HZL := Lib.hid (made_zero 1025)
    clear hlen
    generalize s ++ List.replicate 1025 (0 : UInt8) = sz at hadd hadd2 HL1 HL2
    generalize List.replicate 1025 (0 : UInt8) = zs at hadd hadd2 HZL
    obtain ⟨i0, hi, hz0, hz1, hz2⟩ := info_parts Try.info5
    refine wp_region_fork Ext Ext.keeps [0, 1, 2, 3, 4, 7, 8, 9, 10, 11, 12, 13, 14, 15, 22] 5 16 [([6], some 16), ([17, 18, 19], some 20), ([21], none)] [([17, 18, 19], some 5), ([6], some 20), ([21], none)] (by kernel_rfl) (by kernel_rfl) (fun c a a' w e h => (by exact ⟨e ▸ h.1, h.2⟩)) ?_
    simp only [pickSegs, pickOps, List.map_cons, List.map_nil, Option.map_some, Option.map_none, Option.getD_some, List.getElem?_toArray, List.getElem?_cons_zero, List.getElem?_cons_succ]
    refine wpFork_intro fun K1 K2 hK1 hK2 => ?_
    repeat go_big_quiet_step (fail)
    refine wpQuiet_nil ⟨?_, ?_⟩
    · clear hc0 hc1 hc2
      obtain ⟨bu, w6, hconv, _, hb⟩ := bytes_of (P := Try.prog) w5.drew 9 40 5 ⟨s.toArray⟩ Try.underlying9 Try.underlying40 Try.underlying5 (by show s.length ≤ maxLen; unfold maxLen; omega)
      have Xw6 := Lib.hid hb
      clear hb
      go_wp2_with fail
      refine ⟨Xw6.out, hK1 _ _ ?_⟩
      clear hK1 hK2 K1 K2 hconv
      refine wpSegs_some fun K hK => ?_
      repeat go_big_quiet_step (fail)
      refine wpQuiet_nil ?_
      obtain ⟨w7, hmk, hown, hgrow⟩ := run_make_full (P := Try.prog) w6 (w6).heap.size 40 5 i0 (.int .u8 0) 1 Try.underlying40 hi hz0 hz1 .i64 .i64 1025 (by rw [hz2]; omega) (by unfold maxLen; omega) (Nat.le_refl _)
      have HOWN := Lib.hid hown
      have Xw7 := Lib.hid (show Ext (w6) w7 from (Below.refl _ _).grown hgrow (Nat.le_refl _) (fun k hk => by cases hk))
      have hmk : (Instr.makeSlice 40 (.int .i64 1025) (.int .i64 1025)).run Try.prog w6 = .ok (.slice (some ⟨w6.heap.size, 0, none⟩) 1025 1025) w7 := hmk
      clear hown hgrow
      go_wp2_with fail
      clear hmk
      refine ⟨Xw7.out, hK _ _ ?_⟩
      clear hK K
      have HRD := Lib.hid (show Rd w7 (.slice (some ⟨(w6).heap.size, 0, none⟩) 1025 1025) zs from by
        have h := RdV.of_owns HOWN.out
        rw [HZL.out] at h
        exact h)
      have hcv : ∀ z : Later Ext w7, (convert 40 9 (.slice (some ⟨w6.heap.size, 0, none⟩) 1025 1025)).run Try.prog z.val = .ok (.string ⟨zs.toArray⟩) z.val := fun z => (Rd.mono HRD.out z.ext).string _ _ _ Try.underlying40 Try.underlying5 Try.underlying9
      refine wpSegs_some fun K hK => ?_
      repeat go_big_quiet_step (fail)
      refine wpQuiet_nil ?_
      clear hcv hadd hadd2
      have HEE := Lib.hid (Ext.trans HE5.out (Ext.trans (Ext.drew w5) (Ext.trans Xw6.out Xw7.out)))
      obtain ⟨xs, hxs⟩ : ∃ xs : List Value, xs = [.iface 23 (.agg #[(.int .u8 kk), .int .i64 n, .string ⟨s.toArray⟩]), .iface 39 (.pointer (some ⟨w.heap.size, 0, none⟩)), .iface 40 bu, .iface 2 (.int .i64 n), .iface 5 (.int .u8 kk), .iface 41 (.float .f64 4609434218613702656), .iface 9 (.string ⟨sz.toArray⟩)] := ⟨_, rfl⟩
      have HBAD := Lib.hid (show ∀ x ∈ xs, NoV x from fun x hx => by
        rw [hxs] at hx
        simp only [List.mem_cons, List.not_mem_nil, or_false] at hx
        rcases hx with rfl | rfl | rfl | rfl | rfl | rfl | rfl
        all_goals first
          | exact .inl ⟨_, _, rfl, by decide, by decide, by decide⟩
          | exact .inr ⟨_, rfl, HL1.out, HL2.out⟩)
      have HLEN := Lib.hid (show xs.length = 7 by rw [hxs]; rfl)
      have HROW0 := new_cell w7 xs 20
      have HX9 := ext_one w7 (.cells xs.toArray 20)
      have HE9 := Lib.hid (Ext.trans HEE.out HX9)
      have hxs2 := hxs
      rw [HKK.out] at hxs2
      have HROW := Lib.hid HROW0
      rw [hxs2] at HE9 HROW
      have HXS := Lib.hid hxs2
      clear hxs hxs2 HROW0 HX9
      go_wp2_with fail
      refine ⟨ext_one w7 _, hK _ _ ?_⟩
      clear hK K
      refine wpSegs_none ?_
      repeat go_big_quiet_step (fail)
      refine wpQuiet_nil (wpSegs_nil ?_)
      obtain ⟨gg, hgg⟩ : ∃ gg, gg = w7.heap.size := ⟨_, rfl⟩
      generalize w7.alloc _ = W9 at HROW HE9 ⊢
      rw [← HXS.out] at HROW
      rw [← hgg] at HROW ⊢
      clear hgg
      go_wp2_with fail
      go_loopw [107] (fun i wr => ∃ j : Nat, j ≤ 7 ∧ i = .int .i64 j ∧ Ext W9 wr) (fun i _ => 7 - (intOf i).toNat)
      case atStart => exact ⟨0, by omega, rfl, Ext.keeps.refl _⟩
      case round =>
        obtain ⟨j, hj, rfl, hext⟩ := hrel
        have HE := Lib.hid hext
        clear hext
        by_cases hlt : j < 7
        · have hjl : j < xs.length := by have := HLEN.out; omega
          have hcx : wr.cell? ⟨gg, j, none⟩ = some xs[j] := kept_cell HROW.out HE.out j _ (List.getElem?_eq_getElem hjl)
          have HBX := Lib.hid (HBAD.out _ (List.getElem_mem hjl))
          generalize xs[j] = x at hcx HBX
          go_wp2_with fail
          refine (unbox_no x HBX.out _).mono ?_
          rintro e wz ⟨rfl, hbz⟩
          have EZ := Lib.hid (Ext.trans HE.out (Ext.trans hbz (ext_one wz (.cells #[.int .u8 0, .int .i64 0, .string ⟨#[]⟩] 23))))
          clear hbz
          go_wp2_with fail
          go_roundw
          case rel => exact ⟨j + 1, by omega, by go_num, EZ.out⟩
          case measure => simp [intOf]; omega
        · have hj7 : j = 7 := by omega
          subst hj7
          have HEND := Lib.hid (Ext.trans HE9.out HE.out)
          go_wp2_with fail
          go_ret
          exact ⟨rfl, HEND.out⟩
    · clear hc0 hc1 hc2
      obtain ⟨w6, hmk, hown, hgrow⟩ := run_make_full (P := Try.prog) w5.drew (w5.drew).heap.size 40 5 i0 (.int .u8 0) 1 Try.underlying40 hi hz0 hz1 .i64 .i64 1025 (by rw [hz2]; omega) (by unfold maxLen; omega) (Nat.le_refl _)
      have HOWN := Lib.hid hown
      have Xw6 := Lib.hid (show Ext (w5.drew) w6 from (Below.refl _ _).grown hgrow (Nat.le_refl _) (fun k hk => by cases hk))
      have hmk : (Instr.makeSlice 40 (.int .i64 1025) (.int .i64 1025)).run Try.prog w5.drew = .ok (.slice (some ⟨w5.heap.size, 0, none⟩) 1025 1025) w6 := hmk
      clear hown hgrow
      go_wp2_with fail
      clear hmk
      refine ⟨Xw6.out, hK2 _ _ ?_⟩
      clear hK1 hK2 K1 K2
      have HRD := Lib.hid (show Rd w6 (.slice (some ⟨w5.heap.size, 0, none⟩) 1025 1025) zs from by
        have h := RdV.of_owns HOWN.out
        rw [HZL.out] at h
        exact h)
      have hcv : ∀ z : Later Ext w6, (convert 40 9 (.slice (some ⟨w5.heap.size, 0, none⟩) 1025 1025)).run Try.prog z.val = .ok (.string ⟨zs.toArray⟩) z.val := fun z => (Rd.mono HRD.out z.ext).string _ _ _ Try.underlying40 Try.underlying5 Try.underlying9
      refine wpSegs_some fun K hK => ?_
      repeat go_big_quiet_step (fail)
      refine wpQuiet_nil ?_
      clear hcv hadd hadd2
      obtain ⟨bu, w7, hconv, _, hb⟩ := bytes_of (P := Try.prog) w6 9 40 5 ⟨s.toArray⟩ Try.underlying9 Try.underlying40 Try.underlying5 (by show s.length ≤ maxLen; unfold maxLen; omega)
      have Xw7 := Lib.hid hb
      clear hb
      go_wp2_with fail
      refine ⟨Xw7.out, hK _ _ ?_⟩
      clear hK K hconv
      refine wpSegs_some fun K hK => ?_
      repeat go_big_quiet_step (fail)
      refine wpQuiet_nil ?_
      have HEE := Lib.hid (Ext.trans HE5.out (Ext.trans (Ext.drew w5) (Ext.trans Xw6.out Xw7.out)))
      obtain ⟨xs, hxs⟩ : ∃ xs : List Value, xs = [.iface 23 (.agg #[(.int .u8 kk), .int .i64 n, .string ⟨s.toArray⟩]), .iface 39 (.pointer (some ⟨w.heap.size, 0, none⟩)), .iface 40 bu, .iface 2 (.int .i64 n), .iface 5 (.int .u8 kk), .iface 41 (.float .f64 4609434218613702656), .iface 9 (.string ⟨sz.toArray⟩)] := ⟨_, rfl⟩
      have HBAD := Lib.hid (show ∀ x ∈ xs, NoV x from fun x hx => by
        rw [hxs] at hx
        simp only [List.mem_cons, List.not_mem_nil, or_false] at hx
        rcases hx with rfl | rfl | rfl | rfl | rfl | rfl | rfl
        all_goals first
          | exact .inl ⟨_, _, rfl, by decide, by decide, by decide⟩
          | exact .inr ⟨_, rfl, HL1.out, HL2.out⟩)
      have HLEN := Lib.hid (show xs.length = 7 by rw [hxs]; rfl)
      have HROW0 := new_cell w7 xs 20
      have HX9 := ext_one w7 (.cells xs.toArray 20)
      have HE9 := Lib.hid (Ext.trans HEE.out HX9)
      have hxs2 := hxs
      rw [HKK.out] at hxs2
      have HROW := Lib.hid HROW0
      rw [hxs2] at HE9 HROW
      have HXS := Lib.hid hxs2
      clear hxs hxs2 HROW0 HX9
      go_wp2_with fail
      refine ⟨ext_one w7 _, hK _ _ ?_⟩
      clear hK K
      refine wpSegs_none ?_
      repeat go_big_quiet_step (fail)
      refine wpQuiet_nil (wpSegs_nil ?_)
      obtain ⟨gg, hgg⟩ : ∃ gg, gg = w7.heap.size := ⟨_, rfl⟩
      generalize w7.alloc _ = W9 at HROW HE9 ⊢
      rw [← HXS.out] at HROW
      rw [← hgg] at HROW ⊢
      clear hgg
      go_wp2_with fail
      go_loopw [107] (fun i wr => ∃ j : Nat, j ≤ 7 ∧ i = .int .i64 j ∧ Ext W9 wr) (fun i _ => 7 - (intOf i).toNat)
      case atStart => exact ⟨0, by omega, rfl, Ext.keeps.refl _⟩
      case round =>
        obtain ⟨j, hj, rfl, hext⟩ := hrel
        have HE := Lib.hid hext
        clear hext
        by_cases hlt : j < 7
        · have hjl : j < xs.length := by have := HLEN.out; omega
          have hcx : wr.cell? ⟨gg, j, none⟩ = some xs[j] := kept_cell HROW.out HE.out j _ (List.getElem?_eq_getElem hjl)
          have HBX := Lib.hid (HBAD.out _ (List.getElem_mem hjl))
          generalize xs[j] = x at hcx HBX
          go_wp2_with fail
          refine (unbox_no x HBX.out _).mono ?_
          rintro e wz ⟨rfl, hbz⟩
          have EZ := Lib.hid (Ext.trans HE.out (Ext.trans hbz (ext_one wz (.cells #[.int .u8 0, .int .i64 0, .string ⟨#[]⟩] 23))))
          clear hbz
          go_wp2_with fail
          go_roundw
          case rel => exact ⟨j + 1, by omega, by go_num, EZ.out⟩
          case measure => simp [intOf]; omega
        · have hj7 : j = 7 := by omega
          subst hj7
          have HEND := Lib.hid (Ext.trans HE9.out HE.out)
          go_wp2_with fail
          go_ret
          exact ⟨rfl, HEND.out⟩

end Go.Proofs.Ytedkalmdhbpleaa
