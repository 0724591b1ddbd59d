/-
  The walk of the law CellTells.
-/
import Derived.Test.YtedkalmdhbpleaaCellOrder
namespace Go.Proofs.Ytedkalmdhbpleaa
open Go.RowKit Go.BigFrame

set_option maxRecDepth 100000 in
set_option maxHeartbeats 1000000 in
theorem cellTells_walk (a b : V) (w : World) (ha : a.fits) (la : a.s.length ≤ maxLen) (hb : b.fits) (lb : b.s.length ≤ maxLen) :
    Calls Try.prog 3 #[a.val, b.val] w fun e w' => e = .returned (.bool true) ∧ Below w.heap.size w w' := by
  unfold maxLen at la lb
  by_cases hlong : a.s.length ≤ 3000 ∧ b.s.length ≤ 3000
  · obtain ⟨l1, l2⟩ := hlong
    have H1 := Lib.hid (fun w => Right_any a ha (by omega) w)
    have H2 := Lib.hid (fun w => refRight_any a ha (by omega) w)
    have H3 := Lib.hid (fun w => Compare_any a b ha hb (by omega) (by omega) w)
    have H4 := Lib.hid (fun w => refCompare_any a b ha hb w)
    have H5 := Lib.hid (fun w => Equal_any a b ha hb (by omega) (by omega) w)
    have H6 := Lib.hid (fun w => refEqual_any a b w)
    have H7 := Lib.hid (fun w => Less_any a b ha hb (by omega) (by omega) w)
    have H8 := Lib.hid (fun w => refLess_any a b ha hb w)
    generalize rightV a = R at H1 H2
    generalize cmpV a b = x at H3 H4
    generalize equalT a b = q at H5 H6
    generalize lessT a b = r at H7 H8
    have hRR : (R == R) = true := by cases R <;> rfl
    clear ha hb la lb
    obtain ⟨k, n, s⟩ := a
    obtain ⟨k', n', s'⟩ := b
    unfold V.val at H1 H2 H3 H4 H5 H6 H7 H8 ⊢
    simp only at H1 H2 H3 H4 H5 H6 H7 H8 l1 l2 ⊢
    go_enter Try.func3, Try.ntmps3
    go_wp2_with fail
    have hca := cells_two0 w [.int .u8 k, .int .i64 n, .string ⟨s.toArray⟩] [.int .u8 k', .int .i64 n', .string ⟨s'.toArray⟩] 23
    have hcb := cells_two1 w [.int .u8 k, .int .i64 n, .string ⟨s.toArray⟩] [.int .u8 k', .int .i64 n', .string ⟨s'.toArray⟩] 23
    have HX := Lib.hid (ext_two w (.cells #[.int .u8 k, .int .i64 n, .string ⟨s.toArray⟩] 23) (.cells #[.int .u8 k', .int .i64 n', .string ⟨s'.toArray⟩] 23))
    refine (shown_any _).mono ?_
    rintro e w0 ⟨rfl, hb⟩
    have HA0 := Lib.hid (kept_cell hca hb)
    have HB0 := Lib.hid (kept_cell hcb hb)
    have E0 := Lib.hid (Ext.trans HX.out hb)
    have ha2 := HA0.out 2 _ rfl
    have hb2 := HB0.out 2 _ rfl
    clear hb hca hcb
    go_wp2_with fail
    clear ha2 hb2
    have HA1 := Lib.hid (kept_cell HA0.out (Ext.drew w0))
    have HB1 := Lib.hid (kept_cell HB0.out (Ext.drew w0))
    have ha0 := now_cell HA1.out 0 _ rfl
    have ha1 := now_cell HA1.out 1 _ rfl
    have ha2 := now_cell HA1.out 2 _ rfl
    have hb0 := now_cell HB1.out 0 _ rfl
    have hb1 := now_cell HB1.out 1 _ rfl
    have hb2 := now_cell HB1.out 2 _ rfl
    refine wp_region_segs Ext Ext.keeps [([0, 1, 2, 4], some 3), ([], some 5), ([6, 7, 8, 9, 10, 12, 13], some 11), ([], some 14), ([15, 16, 17, 18, 19, 21, 22], some 20), ([], some 23), ([24, 25, 26, 27, 28, 30, 31], some 29), ([], some 32), ([33, 34, 35], none)] (by kernel_rfl) (by kernel_rfl) (fun c a a' w e h => (by exact ⟨e ▸ h.1, h.2⟩)) ?_
    simp only [pickSegs, pickOps, List.map_cons, List.map_nil, Option.map_some, Option.map_none, Option.getD_some, List.getElem?_toArray, List.getElem?_cons_zero, List.getElem?_cons_succ]
    refine wpSegs_some fun K hK => ?_
    repeat go_big_quiet_step (fail)
    refine wpQuiet_nil ?_
    clear ha0 ha1 ha2 hb0 hb1 hb2
    go_wp2_with fail
    refine (H1.out _).mono ?_
    rintro e w2 ⟨rfl, hb⟩
    have E2 := Lib.hid hb
    have HA2 := Lib.hid (kept_cell HA1.out hb)
    have HB2 := Lib.hid (kept_cell HB1.out hb)
    clear hb
    go_wp2_with fail
    refine ⟨E2.out, hK _ _ ?_⟩
    clear hK K
    refine wpSegs_some fun K hK => ?_
    refine wpQuiet_nil ?_
    go_wp2_with fail
    refine (H2.out _).mono ?_
    rintro e w3 ⟨rfl, hb⟩
    have E3 := Lib.hid hb
    have HA3 := Lib.hid (kept_cell HA2.out hb)
    have HB3 := Lib.hid (kept_cell HB2.out hb)
    clear hb
    go_wp2_with fail
    refine ⟨E3.out, hK _ _ ?_⟩
    clear hK K
    have ha0 := now_cell HA3.out 0 _ rfl
    have ha1 := now_cell HA3.out 1 _ rfl
    have ha2 := now_cell HA3.out 2 _ rfl
    have hb0 := now_cell HB3.out 0 _ rfl
    have hb1 := now_cell HB3.out 1 _ rfl
    have hb2 := now_cell HB3.out 2 _ rfl
    refine wpSegs_some fun K hK => ?_
    repeat go_big_quiet_step (fail)
    refine wpQuiet_nil ?_
    clear ha0 ha1 ha2 hb0 hb1 hb2
    go_wp2_with fail
    refine (H3.out _).mono ?_
    rintro e w4 ⟨rfl, hb⟩
    have E4 := Lib.hid hb
    have HA4 := Lib.hid (kept_cell HA3.out hb)
    have HB4 := Lib.hid (kept_cell HB3.out hb)
    clear hb
    go_wp2_with fail
    refine ⟨E4.out, hK _ _ ?_⟩
    clear hK K
    refine wpSegs_some fun K hK => ?_
    refine wpQuiet_nil ?_
    go_wp2_with fail
    refine (H4.out _).mono ?_
    rintro e w5 ⟨rfl, hb⟩
    have E5 := Lib.hid hb
    have HA5 := Lib.hid (kept_cell HA4.out hb)
    have HB5 := Lib.hid (kept_cell HB4.out hb)
    clear hb
    go_wp2_with fail
    refine ⟨E5.out, hK _ _ ?_⟩
    clear hK K
    have ha0 := now_cell HA5.out 0 _ rfl
    have ha1 := now_cell HA5.out 1 _ rfl
    have ha2 := now_cell HA5.out 2 _ rfl
    have hb0 := now_cell HB5.out 0 _ rfl
    have hb1 := now_cell HB5.out 1 _ rfl
    have hb2 := now_cell HB5.out 2 _ rfl
    refine wpSegs_some fun K hK => ?_
    repeat go_big_quiet_step (fail)
    refine wpQuiet_nil ?_
    clear ha0 ha1 ha2 hb0 hb1 hb2
    go_wp2_with fail
    refine (H5.out _).mono ?_
    rintro e w6 ⟨rfl, hb⟩
    have E6 := Lib.hid hb
    have HA6 := Lib.hid (kept_cell HA5.out hb)
    have HB6 := Lib.hid (kept_cell HB5.out hb)
    clear hb
    go_wp2_with fail
    refine ⟨E6.out, hK _ _ ?_⟩
    clear hK K
    refine wpSegs_some fun K hK => ?_
    refine wpQuiet_nil ?_
    go_wp2_with fail
    refine (H6.out _).mono ?_
    rintro e w7 ⟨rfl, hb⟩
    have E7 := Lib.hid hb
    have HA7 := Lib.hid (kept_cell HA6.out hb)
    have HB7 := Lib.hid (kept_cell HB6.out hb)
    clear hb
    go_wp2_with fail
    refine ⟨E7.out, hK _ _ ?_⟩
    clear hK K
    have ha0 := now_cell HA7.out 0 _ rfl
    have ha1 := now_cell HA7.out 1 _ rfl
    have ha2 := now_cell HA7.out 2 _ rfl
    have hb0 := now_cell HB7.out 0 _ rfl
    have hb1 := now_cell HB7.out 1 _ rfl
    have hb2 := now_cell HB7.out 2 _ rfl
    refine wpSegs_some fun K hK => ?_
    repeat go_big_quiet_step (fail)
    refine wpQuiet_nil ?_
    clear ha0 ha1 ha2 hb0 hb1 hb2
    go_wp2_with fail
    refine (H7.out _).mono ?_
    rintro e w8 ⟨rfl, hb⟩
    have E8 := Lib.hid hb
    have HA8 := Lib.hid (kept_cell HA7.out hb)
    have HB8 := Lib.hid (kept_cell HB7.out hb)
    clear hb
    go_wp2_with fail
    refine ⟨E8.out, hK _ _ ?_⟩
    clear hK K
    refine wpSegs_some fun K hK => ?_
    refine wpQuiet_nil ?_
    go_wp2_with fail
    refine (H8.out _).mono ?_
    rintro e w9 ⟨rfl, hb⟩
    have E9 := Lib.hid hb
    have HA9 := Lib.hid (kept_cell HA8.out hb)
    have HB9 := Lib.hid (kept_cell HB8.out hb)
    clear hb
    go_wp2_with fail
    refine ⟨E9.out, hK _ _ ?_⟩
    clear hK K
    refine wpSegs_none ?_
    repeat go_big_quiet_step (fail)
    refine wpQuiet_nil (wpSegs_nil ?_)
    go_wp2_with fail
    go_ret
    exact ⟨rfl, Ext.trans E0.out (Ext.trans (Ext.drew w0) (Ext.trans E2.out (Ext.trans E3.out (Ext.trans E4.out (Ext.trans E5.out (Ext.trans E6.out (Ext.trans E7.out (Ext.trans E8.out E9.out))))))))⟩
  · obtain ⟨k, n, s⟩ := a
    obtain ⟨k', n', s'⟩ := b
    unfold V.val
    simp only at la lb hlong ⊢
    clear ha hb
    go_enter Try.func3, Try.ntmps3
    go_wp2_with fail
    have hca := cells_two0 w [.int .u8 k, .int .i64 n, .string ⟨s.toArray⟩] [.int .u8 k', .int .i64 n', .string ⟨s'.toArray⟩] 23
    have hcb := cells_two1 w [.int .u8 k, .int .i64 n, .string ⟨s.toArray⟩] [.int .u8 k', .int .i64 n', .string ⟨s'.toArray⟩] 23
    have HX := Lib.hid (ext_two w (.cells #[.int .u8 k, .int .i64 n, .string ⟨s.toArray⟩] 23) (.cells #[.int .u8 k', .int .i64 n', .string ⟨s'.toArray⟩] 23))
    refine (shown_any _).mono ?_
    rintro e w1 ⟨rfl, hb⟩
    have HE1 := Lib.hid (Ext.trans HX.out hb)
    have ha2 := kept_cell hca hb 2 _ rfl
    have hb2 := kept_cell hcb hb 2 _ rfl
    clear hb hca hcb
    by_cases l1 : 3000 < s.length
    · clear hlong
      go_wp2_with fail
      go_ret
      exact ⟨rfl, HE1.out⟩
    · have l2 : 3000 < s'.length := by omega
      clear hlong
      go_wp2_with fail
      go_ret
      exact ⟨rfl, HE1.out⟩

end Go.Proofs.Ytedkalmdhbpleaa
