/-
  The program's contracts of layer 4: Compare, Equal, Less.
-/
import Derived.Test.YtlbilmmjcfiokaaCellSay0
namespace Go.Proofs.Ytlbilmmjcfiokaa
open Go.RowKit Go.BigFrame

/-- The first that is not 0. -/
def firstNZ : List Int → Int
  | [] => 0
  | x :: t => if x = 0 then firstNZ t else x

theorem pOr_any (x : Addr) (xs : List Int) (L cap : Nat) (w : World) (hL : L = xs.length) (h1 : L ≤ cap) (h2 : cap ≤ 9223372036854775807) (hc : ∀ i u, (xs.map (Value.int .i64))[i]? = some u → w.cell? (x.add i) = some u) :
    Calls Try.prog 72 #[.slice (some x) L cap] w fun e w' => e = .returned (.int .i64 (firstNZ xs)) ∧ w' = w := by
  have HL := Lib.hid hL
  have HC := Lib.hid hc
  clear hL hc
  go_enter Try.func72, Try.ntmps72
  go_wp2_with fail
  go_loopw [5, 8] (fun _ i wr => ∃ j : Nat, j ≤ L ∧ i = .int .i64 j ∧ firstNZ xs = firstNZ (xs.drop j) ∧ wr = w) (fun _ i _ => L - (intOf i).toNat)
  case atStart => exact ⟨0, Nat.zero_le _, rfl, rfl, rfl⟩
  case round =>
    obtain ⟨j, hj, rfl, hf, rfl⟩ := hrel
    have HF := Lib.hid hf
    clear hf
    by_cases hlt : j < L
    · have hjl : j < xs.length := by have := HL.out; omega
      have hc := HC.out j (.int .i64 xs[j]) (by rw [List.getElem?_map, List.getElem?_eq_getElem hjl]; rfl)
      have HD := Lib.hid (show firstNZ (xs.drop j) = if xs[j] = 0 then firstNZ (xs.drop (j + 1)) else xs[j] by rw [List.drop_eq_getElem_cons hjl]; rfl)
      generalize xs[j] = c at hc HD
      by_cases h0 : c = 0
      · subst h0
        have HE := Lib.hid (show firstNZ (xs.drop j) = firstNZ (xs.drop (j + 1)) by rw [HD.out, if_pos rfl])
        clear HD
        go_wp2_with fail
        go_roundw
        case rel => exact ⟨j + 1, by omega, by go_num, by rw [HF.out, HE.out], trivial⟩
        case measure => simp [intOf]; omega
      · have HE := Lib.hid (show firstNZ (xs.drop j) = c by rw [HD.out, if_neg h0])
        have hq : (c == 0) = false := beq_eq_false_iff_ne.2 h0
        clear HD h0
        go_wp2_with fail
        go_ret
        exact ⟨by rw [HF.out, HE.out]; rfl, rfl⟩
    · have hjL : xs.drop j = [] := List.drop_eq_nil_of_le (by have := HL.out; omega)
      have HE := Lib.hid (show firstNZ xs = 0 by rw [HF.out, hjL]; rfl)
      clear hjL
      go_wp2_with fail
      go_ret
      exact ⟨by rw [HE.out]; rfl, rfl⟩

theorem cmpV_firstNZ (a b : V) : cmpV a b = firstNZ [cmpN a.k b.k, cmpN a.n b.n, cmpB a.s b.s] := by
  unfold cmpV
  simp only [firstNZ]
  by_cases hk : a.k = b.k
  · rw [if_pos hk, if_pos (cmpN_zero.2 hk)]
    by_cases hn : a.n = b.n
    · rw [if_pos hn, if_pos (cmpN_zero.2 hn)]
      split
      · assumption
      · rfl
    · rw [if_neg hn, if_neg (fun h => hn (cmpN_zero.1 h))]
  · rw [if_neg hk, if_neg (fun h => hk (cmpN_zero.1 h))]

set_option maxRecDepth 100000 in
set_option maxHeartbeats 1000000 in
theorem Compare_any (a b : V) (_ha : a.fits) (_hb : b.fits) (_hal : a.s.length ≤ 5000) (_hbl : b.s.length ≤ 5000) (w : World) :
    Calls Try.prog 50 #[a.val, b.val] w fun e w' => e = .returned (.int .i64 (cmpV a b)) ∧ Ext w w' := by
  rw [cmpV_firstNZ]
  clear _ha _hb _hal _hbl
  obtain ⟨k, n, s⟩ := a
  obtain ⟨k', n', s'⟩ := b
  unfold V.val
  simp only
  have H1 := Lib.hid (pCompare_u8 k k')
  have H2 := Lib.hid (pCompare_int n n')
  have H3 := Lib.hid (pCompare_text s s')
  generalize cmpN k k' = x1 at H1 ⊢
  generalize cmpN n n' = x2 at H2 ⊢
  generalize cmpB s s' = x3 at H3 ⊢
  go_enter Try.func50, Try.ntmps50
  go_wp2_with fail
  have HX := Lib.hid (ext_two w (.cells #[.int .u8 k, .int .i64 n, .string ⟨s.toArray⟩] 24) (.cells #[.int .u8 k', .int .i64 n', .string ⟨s'.toArray⟩] 24))
  have ha := cells_two0 w [.int .u8 k, .int .i64 n, .string ⟨s.toArray⟩] [.int .u8 k', .int .i64 n', .string ⟨s'.toArray⟩] 24
  have hb := cells_two1 w [.int .u8 k, .int .i64 n, .string ⟨s.toArray⟩] [.int .u8 k', .int .i64 n', .string ⟨s'.toArray⟩] 24
  generalize (w.alloc (.cells #[.int .u8 k, .int .i64 n, .string ⟨s.toArray⟩] 24)).alloc (.cells #[.int .u8 k', .int .i64 n', .string ⟨s'.toArray⟩] 24) = W at ha hb HX ⊢
  have ha0 := later_cell ha 0 _ rfl
  have ha1 := later_cell ha 1 _ rfl
  have ha2 := later_cell ha 2 _ rfl
  have hb0 := later_cell hb 0 _ rfl
  have hb1 := later_cell hb 1 _ rfl
  have hb2 := later_cell hb 2 _ rfl
  clear ha hb
  refine wp_region_segs Ext Ext.keeps [([0, 1, 2, 3, 5, 6, 7, 8, 10, 11, 12, 13], some 4), ([], some 9), ([], some 14), ([], some 15), ([], some 16), ([17], none)] (by kernel_rfl) (by kernel_rfl) (fun c a a' w e h => (by exact ⟨e ▸ h.1, h.2⟩)) ?_
  simp only [pickSegs, pickOps, List.map_cons, List.map_nil, Option.map_some, Option.map_none, Option.getD_some, List.getElem?_toArray, List.getElem?_cons_zero, List.getElem?_cons_succ]
  refine wpSegs_some fun K hK => ?_
  repeat go_big_quiet_step (fail)
  refine wpQuiet_nil ?_
  clear ha0 ha1 ha2 hb0 hb1 hb2
  go_wp2_with fail
  refine (H1.out _).mono ?_
  rintro e w2 ⟨rfl, rfl⟩
  go_wp2_with fail
  refine ⟨Ext.keeps.refl _, hK _ _ ?_⟩
  clear hK K
  refine wpSegs_some fun K hK => ?_
  refine wpQuiet_nil ?_
  go_wp2_with fail
  refine (H2.out _).mono ?_
  rintro e w2 ⟨rfl, rfl⟩
  go_wp2_with fail
  refine ⟨Ext.keeps.refl _, hK _ _ ?_⟩
  clear hK K
  refine wpSegs_some fun K hK => ?_
  refine wpQuiet_nil ?_
  go_wp2_with fail
  refine (H3.out _).mono ?_
  rintro e w2 ⟨rfl, rfl⟩
  go_wp2_with fail
  refine ⟨Ext.keeps.refl _, hK _ _ ?_⟩
  clear hK K
  refine wpSegs_some fun K hK => ?_
  refine wpQuiet_nil ?_
  go_wp2_with fail
  have HO := Lib.hid (pOr_any ⟨W.heap.size, 0, none⟩ [x1, x2, x3] 3 3 (W.drew.alloc (.cells #[.int .i64 x1, .int .i64 x2, .int .i64 x3] 3)) rfl (by decide) (by decide) (fun i u hu => by rw [add_at, Nat.zero_add]; exact new_cell W.drew [.int .i64 x1, .int .i64 x2, .int .i64 x3] 3 i u hu))
  have HY := Lib.hid (ext_one W.drew (.cells #[.int .i64 x1, .int .i64 x2, .int .i64 x3] 3))
  rw [show (W.alloc (.cells #[.int .i64 x1, .int .i64 x2, .int .i64 x3] 3)).drew = W.drew.alloc (.cells #[.int .i64 x1, .int .i64 x2, .int .i64 x3] 3) from rfl]
  rw [show (⟨W.heap.size, 0, none⟩ : Addr) = ⟨W.drew.heap.size, 0, none⟩ from rfl] at HO
  generalize W.drew.alloc (.cells #[.int .i64 x1, .int .i64 x2, .int .i64 x3] 3) = W2 at HY HO ⊢
  refine ⟨HY.out, hK _ _ ?_⟩
  clear hK K
  refine wpSegs_some fun K hK => ?_
  refine wpQuiet_nil ?_
  go_wp2_with fail
  refine HO.out.mono ?_
  rintro e w2 ⟨rfl, rfl⟩
  go_wp2_with fail
  refine ⟨Ext.keeps.refl _, hK _ _ ?_⟩
  clear hK K
  refine wpSegs_none ?_
  repeat go_big_quiet_step (fail)
  refine wpQuiet_nil (wpSegs_nil ?_)
  go_wp2_with fail
  go_ret
  exact ⟨rfl, Ext.trans HX.out (Ext.trans (Ext.drew _) HY.out)⟩

theorem pEitherNull_any (a b : V) (w : World) :
    Calls Try.prog 52 #[a.val, b.val] w fun e w' => e = .returned (.bool (decide (a.k = 0 ∨ b.k = 0))) ∧ Ext w w' := by
  obtain ⟨k, n, s⟩ := a
  obtain ⟨k', n', s'⟩ := b
  unfold V.val
  simp only
  by_cases h : k = 0
  · subst h
    rw [decide_eq_true (.inl rfl)]
    go_enter Try.func52, Try.ntmps52
    go_wp2_with fail
    go_ret
    exact ⟨rfl, ext_two w _ _⟩
  · have q : (k == 0) = false := beq_eq_false_iff_ne.2 h
    by_cases h' : k' = 0
    · subst h'
      rw [decide_eq_true (.inr rfl)]
      clear h
      go_enter Try.func52, Try.ntmps52
      go_wp2_with fail
      go_ret
      exact ⟨rfl, ext_two w _ _⟩
    · have q' : (k' == 0) = false := beq_eq_false_iff_ne.2 h'
      rw [decide_eq_false (by rintro (e | e) <;> contradiction)]
      clear h h'
      go_enter Try.func52, Try.ntmps52
      go_wp2_with fail
      go_ret
      exact ⟨rfl, ext_two w _ _⟩

theorem pTruth_any (b : Bool) (w : World) : Calls Try.prog 53 #[.bool b] w fun e w' => e = .returned (.int .u8 (if b = true then 2 else 0)) ∧ w' = w := by
  cases b with
  | true =>
    go_enter Try.func53, Try.ntmps53
    go_wp2_with fail
    go_ret
    exact ⟨rfl, rfl⟩
  | false =>
    go_enter Try.func53, Try.ntmps53
    go_wp2_with fail
    go_ret
    exact ⟨rfl, rfl⟩

set_option maxRecDepth 100000 in
theorem Equal_any (a b : V) (ha : a.fits) (hb : b.fits) (hal : a.s.length ≤ 5000) (hbl : b.s.length ≤ 5000) (w : World) :
    Calls Try.prog 28 #[a.val, b.val] w fun e w' => e = .returned (.int .u8 (equalT a b)) ∧ Ext w w' := by
  have HN := Lib.hid (pEitherNull_any a b)
  have HC := Lib.hid (fun w => Compare_any a b ha hb hal hbl w)
  have hT : equalT a b = if decide (a.k = 0 ∨ b.k = 0) = true then 1 else if decide (cmpV a b = 0) = true then 2 else 0 := by
    unfold equalT knownT
    simp only [decide_eq_true_eq]
  rw [hT]
  clear hT ha hb hal hbl
  generalize decide (a.k = 0 ∨ b.k = 0) = N at HN ⊢
  generalize cmpV a b = C at HC ⊢
  obtain ⟨k, n, s⟩ := a
  obtain ⟨k', n', s'⟩ := b
  unfold V.val at HN HC ⊢
  simp only at HN HC ⊢
  have HV0 := Lib.hid (cells_two0 w [.int .u8 k, .int .i64 n, .string ⟨s.toArray⟩] [.int .u8 k', .int .i64 n', .string ⟨s'.toArray⟩] 24)
  have HV1 := Lib.hid (cells_two1 w [.int .u8 k, .int .i64 n, .string ⟨s.toArray⟩] [.int .u8 k', .int .i64 n', .string ⟨s'.toArray⟩] 24)
  have HX := Lib.hid (ext_two w (.cells #[.int .u8 k, .int .i64 n, .string ⟨s.toArray⟩] 24) (.cells #[.int .u8 k', .int .i64 n', .string ⟨s'.toArray⟩] 24))
  cases N with
  | true =>
    rw [if_pos rfl]
    go_enter Try.func28, Try.ntmps28
    go_wp2_with fail
    refine (HN.out _).mono ?_
    rintro e w2 ⟨rfl, hb⟩
    have HB := Lib.hid (Ext.trans HX.out hb)
    have ha := kept_cell HV0.out hb
    have hb := kept_cell HV1.out hb
    have ha0 := ha 0 _ rfl
    have ha1 := ha 1 _ rfl
    have ha2 := ha 2 _ rfl
    have hb0 := hb 0 _ rfl
    have hb1 := hb 1 _ rfl
    have hb2 := hb 2 _ rfl
    clear ha hb
    go_wp2_with fail
    go_ret
    exact ⟨rfl, HB.out⟩
  | false =>
    rw [if_neg (by decide)]
    obtain ⟨B, hB⟩ : ∃ B, decide (C = 0) = B := ⟨_, rfl⟩
    rw [hB]
    have HT := Lib.hid (pTruth_any B)
    generalize (if B = true then 2 else 0 : Int) = R at HT ⊢
    have HBD := Lib.hid hB
    clear hB
    go_enter Try.func28, Try.ntmps28
    go_wp2_with fail
    refine (HN.out _).mono ?_
    rintro e w2 ⟨rfl, hb⟩
    have HB := Lib.hid (Ext.trans HX.out hb)
    have ha := kept_cell HV0.out hb
    have hb := kept_cell HV1.out hb
    have ha0 := ha 0 _ rfl
    have ha1 := ha 1 _ rfl
    have ha2 := ha 2 _ rfl
    have hb0 := hb 0 _ rfl
    have hb1 := hb 1 _ rfl
    have hb2 := hb 2 _ rfl
    clear ha hb
    go_wp2_with fail
    refine (HC.out _).mono ?_
    rintro e w3 ⟨rfl, hb⟩
    have HB3 := Lib.hid (Ext.trans HB.out hb)
    clear hb ha0 ha1 ha2 hb0 hb1 hb2
    have hB := HBD.out
    replace hB : (C == 0) = B := by rw [← hB]; rfl
    go_wp2_with fail
    refine (HT.out _).mono ?_
    rintro e w4 ⟨rfl, rfl⟩
    go_wp2_with fail
    go_ret
    exact ⟨rfl, HB3.out⟩

set_option maxRecDepth 100000 in
theorem Less_any (a b : V) (ha : a.fits) (hb : b.fits) (hal : a.s.length ≤ 5000) (hbl : b.s.length ≤ 5000) (w : World) :
    Calls Try.prog 29 #[a.val, b.val] w fun e w' => e = .returned (.int .u8 (lessT a b)) ∧ Ext w w' := by
  have HN := Lib.hid (pEitherNull_any a b)
  have HC := Lib.hid (fun w => Compare_any a b ha hb hal hbl w)
  have hT : lessT a b = if decide (a.k = 0 ∨ b.k = 0) = true then 1 else if decide (cmpV a b < 0) = true then 2 else 0 := by
    unfold lessT knownT
    simp only [decide_eq_true_eq]
  rw [hT]
  clear hT ha hb hal hbl
  generalize decide (a.k = 0 ∨ b.k = 0) = N at HN ⊢
  generalize cmpV a b = C at HC ⊢
  obtain ⟨k, n, s⟩ := a
  obtain ⟨k', n', s'⟩ := b
  unfold V.val at HN HC ⊢
  simp only at HN HC ⊢
  have HV0 := Lib.hid (cells_two0 w [.int .u8 k, .int .i64 n, .string ⟨s.toArray⟩] [.int .u8 k', .int .i64 n', .string ⟨s'.toArray⟩] 24)
  have HV1 := Lib.hid (cells_two1 w [.int .u8 k, .int .i64 n, .string ⟨s.toArray⟩] [.int .u8 k', .int .i64 n', .string ⟨s'.toArray⟩] 24)
  have HX := Lib.hid (ext_two w (.cells #[.int .u8 k, .int .i64 n, .string ⟨s.toArray⟩] 24) (.cells #[.int .u8 k', .int .i64 n', .string ⟨s'.toArray⟩] 24))
  cases N with
  | true =>
    rw [if_pos rfl]
    go_enter Try.func29, Try.ntmps29
    go_wp2_with fail
    refine (HN.out _).mono ?_
    rintro e w2 ⟨rfl, hb⟩
    have HB := Lib.hid (Ext.trans HX.out hb)
    have ha := kept_cell HV0.out hb
    have hb := kept_cell HV1.out hb
    have ha0 := ha 0 _ rfl
    have ha1 := ha 1 _ rfl
    have ha2 := ha 2 _ rfl
    have hb0 := hb 0 _ rfl
    have hb1 := hb 1 _ rfl
    have hb2 := hb 2 _ rfl
    clear ha hb
    go_wp2_with fail
    go_ret
    exact ⟨rfl, HB.out⟩
  | false =>
    rw [if_neg (by decide)]
    obtain ⟨B, hB⟩ : ∃ B, decide (C < 0) = B := ⟨_, rfl⟩
    rw [hB]
    have HT := Lib.hid (pTruth_any B)
    generalize (if B = true then 2 else 0 : Int) = R at HT ⊢
    have HBD := Lib.hid hB
    clear hB
    go_enter Try.func29, Try.ntmps29
    go_wp2_with fail
    refine (HN.out _).mono ?_
    rintro e w2 ⟨rfl, hb⟩
    have HB := Lib.hid (Ext.trans HX.out hb)
    have ha := kept_cell HV0.out hb
    have hb := kept_cell HV1.out hb
    have ha0 := ha 0 _ rfl
    have ha1 := ha 1 _ rfl
    have ha2 := ha 2 _ rfl
    have hb0 := hb 0 _ rfl
    have hb1 := hb 1 _ rfl
    have hb2 := hb 2 _ rfl
    clear ha hb
    go_wp2_with fail
    refine (HC.out _).mono ?_
    rintro e w3 ⟨rfl, hb⟩
    have HB3 := Lib.hid (Ext.trans HB.out hb)
    clear hb ha0 ha1 ha2 hb0 hb1 hb2
    have hB := HBD.out
    go_wp2_with fail
    refine (HT.out _).mono ?_
    rintro e w4 ⟨rfl, rfl⟩
    go_wp2_with fail
    go_ret
    exact ⟨rfl, HB3.out⟩

end Go.Proofs.Ytlbilmmjcfiokaa
