/-
  The contracts of the document's own words: begins, common, Find.
-/
import Derived.Test.YtcaidgdnneomaaaDictRef2
namespace Go.Proofs.Ytcaidgdnneomaaa
open Go.RowKit Go.BigFrame

theorem prefix_cut {s t : T8} : s.isPrefixOf t = (decide (s.length ≤ t.length) && (t.take s.length == s)) := by
  rw [Bool.eq_iff_iff, List.isPrefixOf_iff_prefix, List.prefix_iff_eq_take, Bool.and_eq_true, decide_eq_true_iff, beq_iff_eq]
  constructor
  · intro h
    refine ⟨?_, h.symm⟩
    have := congrArg List.length h
    rw [List.length_take] at this
    omega
  · exact fun h => h.2.symm

theorem refBegins_any (t s : T8) (w : World) (_ht : t.length ≤ 4611686018427387904) (_hs : s.length ≤ 4611686018427387904) :
    Calls Try.prog 41 #[.string ⟨t.toArray⟩, .string ⟨s.toArray⟩] w fun e w' => e = .returned (.bool (s.isPrefixOf t)) ∧ w = w' := by
  have HP := Lib.hid (prefix_cut (s := s) (t := t))
  by_cases h : s.length ≤ t.length
  · have d1 : decide (s.length ≤ t.length) = true := decide_eq_true h
    have d1' : decide ((s.length : Int) ≤ (t.length : Int)) = true := decide_eq_true (by omega)
    have hc := tcut_take t s.length
    have HPP := Lib.hid (show s.isPrefixOf t = (t.take s.length == s) by rw [HP.out, d1, Bool.true_and])
    generalize t.take s.length = x at hc HPP
    go_enter Try.func41, Try.ntmps41
    go_wp2_with fail
    go_ret
    exact ⟨by rw [HPP.out]; rfl, rfl⟩
  · have d1 : decide (s.length ≤ t.length) = false := decide_eq_false h
    have d1' : decide ((s.length : Int) ≤ (t.length : Int)) = false := decide_eq_false (by omega)
    have HPP := Lib.hid (show s.isPrefixOf t = false by rw [HP.out, d1, Bool.false_and])
    go_enter Try.func41, Try.ntmps41
    go_wp2_with fail
    go_ret
    exact ⟨by rw [HPP.out]; rfl, rfl⟩

theorem commonN_le (a b : T8) : commonN a b ≤ a.length ∧ commonN a b ≤ b.length := by
  induction a generalizing b with
  | nil => exact ⟨Nat.le_refl _, by simp [commonN]⟩
  | cons x a ih =>
    cases b with
    | nil => exact ⟨by simp [commonN], Nat.le_refl _⟩
    | cons y b =>
      unfold commonN
      split
      · have := ih b
        simp only [List.length_cons]
        omega
      · exact ⟨Nat.zero_le _, Nat.zero_le _⟩
/-- The number of bytes that both begin with, by its bounds. -/
theorem commonN_is {a b : T8} {n : Nat} (h1 : ∀ i, i < n → a[i]? = b[i]? ∧ a[i]? ≠ none) (h2 : n = a.length ∨ n = b.length ∨ a[n]? ≠ b[n]?) (ha : n ≤ a.length) (hb : n ≤ b.length) : commonN a b = n := by
  induction a generalizing b n with
  | nil =>
    have : n = 0 := by simpa using ha
    subst this
    cases b <;> rfl
  | cons x a ih =>
    cases b with
    | nil =>
      have : n = 0 := by simpa using hb
      subst this
      rfl
    | cons y b =>
      cases n with
      | zero =>
        have hne : x ≠ y := by
          rcases h2 with h2 | h2 | h2
          · simp at h2
          · simp at h2
          · simpa using h2
        unfold commonN
        rw [if_neg hne]
      | succ n =>
        have h0 := (h1 0 (by omega)).1
        simp only [List.getElem?_cons_zero, Option.some.injEq] at h0
        subst h0
        unfold commonN
        rw [if_pos rfl, ih (n := n) (fun i hi => by
          have := h1 (i + 1) (by omega)
          simpa using this) (by
          rcases h2 with h2 | h2 | h2
          · left; simpa using h2
          · right; left; simpa using h2
          · right; right; simpa using h2) (by simpa using ha) (by simpa using hb)]
        omega

set_option maxRecDepth 100000 in
theorem refCommon_any (a b : T8) (w : World) (_ha : a.length ≤ 4611686018427387904) (_hb : b.length ≤ 4611686018427387904) :
    Calls Try.prog 46 #[.string ⟨a.toArray⟩, .string ⟨b.toArray⟩] w fun e w' => e = .returned (.int .i64 (commonN a b)) ∧ Ext w w' := by
  go_enter Try.func46, Try.ntmps46
  go_wp2_with fail
  go_loopw [5] (fun i wr => ∃ n : Nat, n ≤ a.length ∧ n ≤ b.length ∧ i = .int .i64 n ∧ (∀ i, i < n → a[i]? = b[i]? ∧ a[i]? ≠ none) ∧ Ext w wr) (fun i _ => a.length - (intOf i).toNat)
  case atStart => exact ⟨0, Nat.zero_le _, Nat.zero_le _, rfl, fun i hi => by omega, Ext.keeps.refl _⟩
  case round =>
    obtain ⟨n, hna, hnb, rfl, hb1, hx⟩ := hrel
    have HB := Lib.hid hb1
    have HX := Lib.hid hx
    clear hb1 hx
    by_cases h1 : n < a.length
    · by_cases h2 : n < b.length
      · have d1 : decide (n < a.length) = true := decide_eq_true h1
        have d2 : decide (n < b.length) = true := decide_eq_true h2
        have HG := Lib.hid (show a[n]? = some a[n] ∧ b[n]? = some b[n] from ⟨List.getElem?_eq_getElem h1, List.getElem?_eq_getElem h2⟩)
        obtain ⟨x, hx⟩ : ∃ x, a[n] = x := ⟨_, rfl⟩
        obtain ⟨y, hy⟩ : ∃ y, b[n] = y := ⟨_, rfl⟩
        have hga : (⟨a.toArray⟩ : ByteArray)[n]'(by simpa [ByteArray.size] using h1) = x := by rw [← hx]; rfl
        have hgb : (⟨b.toArray⟩ : ByteArray)[n]'(by simpa [ByteArray.size] using h2) = y := by rw [← hy]; rfl
        rw [hx, hy] at HG
        clear hx hy
        by_cases hq : x = y
        · subst hq
          have hqq : ((x.toNat : Int) == (x.toNat : Int)) = true := beq_self_eq_true _
          go_wp2_with fail
          refine wp_region_segs Ext Ext.keeps [(List.range 19, none)] (by kernel_rfl) (by kernel_rfl) (fun c a a' w e h => (by exact ⟨e ▸ h.1, h.2⟩)) ?_
          simp only [List.range, List.range.loop, pickSegs, pickOps, List.map_cons, List.map_nil, Option.map_none, Option.getD_some, List.getElem?_toArray, List.getElem?_cons_zero, List.getElem?_cons_succ]
          refine wpSegs_none ?_
          repeat go_big_quiet_step (fail)
          refine wpQuiet_nil (wpSegs_nil ?_)
          clear hga hgb
          go_wp2_with fail
          go_roundw
          case rel => exact ⟨n + 1, by omega, by omega, by go_num, fun i hi => by
            by_cases e : i = n
            · subst e
              exact ⟨by rw [HG.out.1, HG.out.2], by rw [HG.out.1]; simp⟩
            · exact HB.out i (by omega), Ext.trans HX.out (Ext.drew wr)⟩
          case measure => simp [intOf]; omega
        · have hqq : ((x.toNat : Int) == (y.toNat : Int)) = false := by
            rw [beq_eq_false_iff_ne]
            intro h
            exact hq (UInt8.toNat_inj.1 (by omega))
          have HNO := Lib.hid (show commonN a b = n from commonN_is HB.out (.inr (.inr (by rw [HG.out.1, HG.out.2]; simpa using hq))) hna hnb)
          go_wp2_with fail
          refine wp_region_segs Ext Ext.keeps [(List.range 19, none)] (by kernel_rfl) (by kernel_rfl) (fun c a a' w e h => (by exact ⟨e ▸ h.1, h.2⟩)) ?_
          simp only [List.range, List.range.loop, pickSegs, pickOps, List.map_cons, List.map_nil, Option.map_none, Option.getD_some, List.getElem?_toArray, List.getElem?_cons_zero, List.getElem?_cons_succ]
          refine wpSegs_none ?_
          repeat go_big_quiet_step (fail)
          refine wpQuiet_nil (wpSegs_nil ?_)
          clear hga hgb
          go_wp2_with fail
          go_ret
          exact ⟨by rw [HNO.out]; rfl, Ext.trans HX.out (Ext.drew wr)⟩
      · have d1 : decide (n < a.length) = true := decide_eq_true h1
        have d2 : decide (n < b.length) = false := decide_eq_false h2
        have HNO := Lib.hid (show commonN a b = n from commonN_is HB.out (.inr (.inl (by omega))) hna hnb)
        go_wp2_with fail
        refine wp_region_segs Ext Ext.keeps [(List.range 19, none)] (by kernel_rfl) (by kernel_rfl) (fun c a a' w e h => (by exact ⟨e ▸ h.1, h.2⟩)) ?_
        simp only [List.range, List.range.loop, pickSegs, pickOps, List.map_cons, List.map_nil, Option.map_none, Option.getD_some, List.getElem?_toArray, List.getElem?_cons_zero, List.getElem?_cons_succ]
        refine wpSegs_none ?_
        repeat go_big_quiet_step (fail)
        refine wpQuiet_nil (wpSegs_nil ?_)
        go_wp2_with fail
        go_ret
        exact ⟨by rw [HNO.out]; rfl, Ext.trans HX.out (Ext.drew wr)⟩
    · have d1 : decide (n < a.length) = false := decide_eq_false h1
      have HNO := Lib.hid (show commonN a b = n from commonN_is HB.out (.inl (by omega)) hna hnb)
      go_wp2_with fail
      refine wp_region_segs Ext Ext.keeps [(List.range 19, none)] (by kernel_rfl) (by kernel_rfl) (fun c a a' w e h => (by exact ⟨e ▸ h.1, h.2⟩)) ?_
      simp only [List.range, List.range.loop, pickSegs, pickOps, List.map_cons, List.map_nil, Option.map_none, Option.getD_some, List.getElem?_toArray, List.getElem?_cons_zero, List.getElem?_cons_succ]
      refine wpSegs_none ?_
      repeat go_big_quiet_step (fail)
      refine wpQuiet_nil (wpSegs_nil ?_)
      go_wp2_with fail
      go_ret
      exact ⟨by rw [HNO.out]; rfl, Ext.trans HX.out (Ext.drew wr)⟩

theorem refFind_any (u : Value) (ws : List T8) (s : T8) (w : World) (hu : RdV w u (ws.map tv)) :
    Calls Try.prog 17 #[u, .string ⟨s.toArray⟩] w fun e w' => e = .returned (.tuple #[.int .i64 (findS ws s).1, .bool (findS ws s).2]) ∧ Ext w w' := by
  have HP := Lib.hid (refPlace_any u ws s w hu)
  have HR := Lib.hid (refRightW_any u ws w hu)
  have HN := Lib.hid (placeS_neg (ws := ws) (s := s))
  have HF := Lib.hid (show findS ws s = if rightW ws = true ∧ s ∈ ws then (placeS ws s, true) else (0, false) from rfl)
  obtain ⟨ao, cap, rfl, -, -, -⟩ := rd_words hu
  generalize ws.length = M at HP HR ⊢
  generalize placeS ws s = k at HP HN HF
  clear hu
  by_cases hk : k < 0
  · have d1 : decide (k < 0) = true := decide_eq_true hk
    have HNO := Lib.hid (show findS ws s = (0, false) by rw [HF.out, if_neg (fun h => HN.out.1 hk h.2)])
    rw [HNO.out]
    go_enter Try.func17, Try.ntmps17
    go_wp2_with fail
    refine HP.out.mono ?_
    rintro e w1 ⟨rfl, rfl⟩
    go_wp2_with fail
    go_ret2
    exact ⟨rfl, Ext.keeps.refl _⟩
  · have d1 : decide (k < 0) = false := decide_eq_false hk
    cases hr : rightW ws with
    | false =>
      have HNO := Lib.hid (show findS ws s = (0, false) by rw [HF.out, hr, if_neg (fun h => by cases h.1)])
      rw [HNO.out]
      rw [hr] at HR
      clear hr
      go_enter Try.func17, Try.ntmps17
      go_wp2_with fail
      refine HP.out.mono ?_
      rintro e w1 ⟨rfl, rfl⟩
      go_wp2_with fail
      refine HR.out.mono ?_
      rintro e w1 ⟨rfl, hx1⟩
      have HX1 := Lib.hid hx1
      clear hx1
      go_wp2_with fail
      go_ret2
      exact ⟨rfl, HX1.out⟩
    | true =>
      have HYES := Lib.hid (show findS ws s = (k, true) by rw [HF.out, if_pos ⟨hr, Classical.not_not.1 (fun h => hk (HN.out.2 h))⟩])
      rw [HYES.out]
      rw [hr] at HR
      clear hr
      go_enter Try.func17, Try.ntmps17
      go_wp2_with fail
      refine HP.out.mono ?_
      rintro e w1 ⟨rfl, rfl⟩
      go_wp2_with fail
      refine HR.out.mono ?_
      rintro e w1 ⟨rfl, hx1⟩
      have HX1 := Lib.hid hx1
      clear hx1
      go_wp2_with fail
      go_ret2
      exact ⟨rfl, HX1.out⟩

end Go.Proofs.Ytcaidgdnneomaaa
