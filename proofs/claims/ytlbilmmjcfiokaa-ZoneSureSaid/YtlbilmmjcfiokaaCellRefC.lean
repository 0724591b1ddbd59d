/-
  The contracts of the document's own Right, Compare, Equal, Less.
-/
import Derived.Test.YtlbilmmjcfiokaaProg
import Derived.Test.YtlbilmmjcfiokaaVal
import Derived.Test.YtlbilmmjcfiokaaCan
import Derived.Test.YtlbilmmjcfiokaaBase
import Derived.BigQuiet
namespace Go.Proofs.Ytlbilmmjcfiokaa
open Go.RowKit Go.BigFrame

theorem ext_one (w : World) (o : Obj) : Ext w (w.alloc o) := (Below.refl _ w).alloc (Nat.le_refl _) _

set_option maxRecDepth 100000 in
theorem refRight_any (v : V) (hv : v.fits) (hl : v.s.length ≤ 9223372036854775807) (w : World) :
    Calls Try.prog 61 #[v.val] w fun e w' => e = .returned (.bool (rightV v)) ∧ Ext w w' := by
  obtain ⟨k, n, s⟩ := v
  have hk0 : 0 ≤ k := hv.k0
  have hk1 : k ≤ 255 := hv.k1
  unfold rightV V.val
  simp only at hl ⊢
  clear hv
  by_cases h0 : k = 0
  · subst h0
    by_cases hn : n = 0
    · subst hn
      cases s with
      | nil =>
        go_enter Try.func61, Try.ntmps61
        go_wp2_with fail
        go_ret
        exact ⟨rfl, ext_one w _⟩
      | cons c t =>
        have hq : (c :: t == []) = false := rfl
        go_enter Try.func61, Try.ntmps61
        go_wp2_with fail
        go_ret
        exact ⟨rfl, ext_one w _⟩
    · have hq : (n == 0) = false := beq_eq_false_iff_ne.2 hn
      have hd : decide (n = 0) = false := decide_eq_false hn
      rw [hd]
      clear hn hd
      go_enter Try.func61, Try.ntmps61
      go_wp2_with fail
      go_ret
      exact ⟨by simp, ext_one w _⟩
  · by_cases h1 : k = 1
    · subst h1
      clear h0
      by_cases hn : n = 0
      · subst hn
        cases s with
        | nil =>
          go_enter Try.func61, Try.ntmps61
          go_wp2_with fail
          go_ret
          exact ⟨rfl, ext_one w _⟩
        | cons c t =>
          go_enter Try.func61, Try.ntmps61
          go_wp2_with fail
          go_ret
          exact ⟨rfl, ext_one w _⟩
      · by_cases hn1 : n = 1
        · subst hn1
          cases s with
          | nil =>
            go_enter Try.func61, Try.ntmps61
            go_wp2_with fail
            go_ret
            exact ⟨rfl, ext_one w _⟩
          | cons c t =>
            go_enter Try.func61, Try.ntmps61
            go_wp2_with fail
            go_ret
            exact ⟨rfl, ext_one w _⟩
        · have hq : (n == 0) = false := beq_eq_false_iff_ne.2 hn
          have hq1 : (n == 1) = false := beq_eq_false_iff_ne.2 hn1
          rw [decide_eq_false hn, decide_eq_false hn1]
          clear hn hn1
          go_enter Try.func61, Try.ntmps61
          go_wp2_with fail
          go_ret
          exact ⟨by simp, ext_one w _⟩
    · by_cases h2 : k = 2
      · subst h2
        clear h0 h1
        cases s with
        | nil =>
          go_enter Try.func61, Try.ntmps61
          go_wp2_with fail
          go_ret
          exact ⟨rfl, ext_one w _⟩
        | cons c t =>
          go_enter Try.func61, Try.ntmps61
          go_wp2_with fail
          go_ret
          exact ⟨rfl, ext_one w _⟩
      · by_cases h3 : k = 3
        · subst h3
          clear h0 h1 h2
          by_cases hn : n = 0
          · subst hn
            have HD := Lib.hid (show decide ((s.length : Int) ≤ 1024) = decide (s.length ≤ 1024) from decide_eq_decide.2 (by omega))
            go_enter Try.func61, Try.ntmps61
            go_wp2_with fail
            go_ret
            refine ⟨?_, ext_one w _⟩
            show Ending.returned (Value.bool (decide ((s.length : Int) ≤ 1024))) = _
            rw [HD.out]
            simp
          · have hq : (n == 0) = false := beq_eq_false_iff_ne.2 hn
            rw [decide_eq_false hn]
            clear hn
            go_enter Try.func61, Try.ntmps61
            go_wp2_with fail
            go_ret
            exact ⟨by simp, ext_one w _⟩
        · have q0 : (k == 0) = false := beq_eq_false_iff_ne.2 h0
          have q1 : (k == 1) = false := beq_eq_false_iff_ne.2 h1
          have q2 : (k == 2) = false := beq_eq_false_iff_ne.2 h2
          have q3 : (k == 3) = false := beq_eq_false_iff_ne.2 h3
          rw [decide_eq_false h0, decide_eq_false h1, decide_eq_false h2, decide_eq_false h3]
          clear h0 h1 h2 h3
          go_enter Try.func61, Try.ntmps61
          go_wp2_with fail
          go_ret
          exact ⟨by simp, ext_one w _⟩

theorem ext_two (w : World) (o o' : Obj) : Ext w ((w.alloc o).alloc o') := ((Below.refl _ w).alloc (Nat.le_refl _) _).alloc (by simp) _

set_option maxRecDepth 100000 in
theorem refCompare_any (a b : V) (ha : a.fits) (hb : b.fits) (w : World) :
    Calls Try.prog 34 #[a.val, b.val] w fun e w' => e = .returned (.int .i64 (cmpV a b)) ∧ Ext w w' := by
  obtain ⟨k, n, s⟩ := a
  obtain ⟨k', n', s'⟩ := b
  unfold cmpV cmpN cmpB V.val
  simp only
  clear ha hb
  by_cases hk : k = k'
  · subst hk
    rw [if_pos rfl]
    by_cases hn : n = n'
    · subst hn
      rw [if_pos rfl]
      by_cases hs : s = s'
      · subst hs
        rw [if_pos rfl]
        go_enter Try.func34, Try.ntmps34
        go_wp2_with fail
        go_ret
        exact ⟨rfl, ext_two w _ _⟩
      · have q : (s == s') = false := beq_eq_false_iff_ne.2 hs
        rw [if_neg hs]
        clear hs
        by_cases hl : Op.bytesLess s s' = true
        · rw [if_pos hl]
          go_enter Try.func34, Try.ntmps34
          go_wp2_with fail
          go_ret
          exact ⟨rfl, ext_two w _ _⟩
        · have hl' : Op.bytesLess s s' = false := by simpa using hl
          rw [if_neg hl]
          clear hl
          go_enter Try.func34, Try.ntmps34
          go_wp2_with fail
          go_ret
          exact ⟨rfl, ext_two w _ _⟩
    · have q : (n == n') = false := beq_eq_false_iff_ne.2 hn
      rw [if_neg hn]
      by_cases hl : n < n'
      · rw [if_neg hn, if_pos hl]
        clear hn
        go_enter Try.func34, Try.ntmps34
        go_wp2_with fail
        go_ret
        exact ⟨rfl, ext_two w _ _⟩
      · rw [if_neg hn, if_neg hl]
        clear hn
        go_enter Try.func34, Try.ntmps34
        go_wp2_with fail
        go_ret
        exact ⟨rfl, ext_two w _ _⟩
  · have q : (k == k') = false := beq_eq_false_iff_ne.2 hk
    rw [if_neg hk]
    by_cases hl : k < k'
    · rw [if_neg hk, if_pos hl]
      clear hk
      by_cases hn : n = n'
      · subst hn
        go_enter Try.func34, Try.ntmps34
        go_wp2_with fail
        go_ret
        exact ⟨rfl, ext_two w _ _⟩
      · have qn : (n == n') = false := beq_eq_false_iff_ne.2 hn
        clear hn
        go_enter Try.func34, Try.ntmps34
        go_wp2_with fail
        go_ret
        exact ⟨rfl, ext_two w _ _⟩
    · rw [if_neg hk, if_neg hl]
      clear hk
      by_cases hn : n = n'
      · subst hn
        go_enter Try.func34, Try.ntmps34
        go_wp2_with fail
        go_ret
        exact ⟨rfl, ext_two w _ _⟩
      · have qn : (n == n') = false := beq_eq_false_iff_ne.2 hn
        clear hn
        go_enter Try.func34, Try.ntmps34
        go_wp2_with fail
        go_ret
        exact ⟨rfl, ext_two w _ _⟩

end Go.Proofs.Ytlbilmmjcfiokaa
