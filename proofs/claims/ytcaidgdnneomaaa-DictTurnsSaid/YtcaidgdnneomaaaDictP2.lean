/-
  The program's own words: Right, lesser, find, Find, From.
-/
import Derived.Test.YtcaidgdnneomaaaDictP1
import Derived.Test.YtcaidgdnneomaaaDictSort
namespace Go.Proofs.Ytcaidgdnneomaaa
open Go.RowKit Go.BigFrame Go.Shelf

theorem rightW_few {ws : List T8} (h : 200 < ws.length) : rightW ws = false := by
  cases hr : rightW ws with
  | false => rfl
  | true => have := (rightW_iff.1 hr).1; omega
theorem rightW_long {ws : List T8} (h : ws.any longT = true) : rightW ws = false := by
  cases hr : rightW ws with
  | false => rfl
  | true => exact absurd (rightW_iff.1 hr).2.1 (longT_some h)

set_option maxRecDepth 100000 in
set_option maxHeartbeats 1000000 in
theorem pRight10_any (u : Value) (l : List T8) (w : World) (hu : RdV w u (l.map tv)) (hl : l.length ≤ 100000) (hf : ∀ t ∈ l, t.length ≤ 1000000) :
    Calls Try.prog 18 #[u] w fun e w' => e = .returned (.bool (rightW l)) ∧ Ext w w' := by
  have HC := Lib.hid (anyLong10_any u l w hu (fun t ht => by have := hf t ht; omega))
  obtain ⟨ao, cap, rfl, h1, h2, hat⟩ := rd_words hu
  have HAT := Lib.hid hat
  obtain ⟨N, hN⟩ : ∃ N, l.length = N := ⟨_, rfl⟩
  have HN := Lib.hid hN
  unfold maxLen at h2
  rw [hN] at h1 hl HC ⊢
  clear hat hN hu hf
  by_cases hbig : 200 < N
  · have HNO := Lib.hid (rightW_few (ws := l) (by have := HN.out; omega))
    have d1 : decide (200 < N) = true := decide_eq_true hbig
    have d1' : decide ((200 : Int) < (N : Int)) = true := decide_eq_true (by omega)
    go_enter Try.func18, Try.ntmps18
    go_wp2_with fail
    go_ret
    exact ⟨by rw [HNO.out]; rfl, Ext.keeps.refl _⟩
  · have d1 : decide (200 < N) = false := decide_eq_false hbig
    have d1' : decide ((200 : Int) < (N : Int)) = false := decide_eq_false (by omega)
    cases hlong : l.any longT with
    | true =>
      rw [hlong] at HC
      have HNO := Lib.hid (rightW_long hlong)
      clear hlong
      go_enter Try.func18, Try.ntmps18
      go_wp2_with fail
      refine HC.out.mono ?_
      rintro e w1 ⟨rfl, rfl⟩
      go_wp2_with fail
      go_ret
      exact ⟨by rw [HNO.out]; rfl, Ext.keeps.refl _⟩
    | false =>
      rw [hlong] at HC
      have HLT := Lib.hid (longT_any hlong)
      clear hlong
      go_enter Try.func18, Try.ntmps18
      go_wp2_with fail
      refine HC.out.mono ?_
      rintro e w1 ⟨rfl, rfl⟩
      go_wp2_with fail
      go_loopw [3] (fun i wr => ∃ j : Nat, j ≤ N + 1 ∧ 1 ≤ j ∧ i = .int .i64 j ∧ (∀ k, (hk : k < l.length) → k < j → okW l k hk) ∧ Ext w wr) (fun i _ => N - (intOf i).toNat)
      case atStart => exact ⟨1, by omega, Nat.le_refl _, rfl, fun k hk hkj => ⟨HLT.out _ (List.getElem_mem hk), fun h => by omega⟩, Ext.keeps.refl _⟩
      case round =>
        obtain ⟨j, hj, hj1, rfl, hb, hx⟩ := hrel
        obtain ⟨J, rfl⟩ : ∃ J, j = J + 1 := ⟨j - 1, by omega⟩
        have HB := Lib.hid hb
        have HX := Lib.hid hx
        clear hb hx
        by_cases hlt : J + 1 < N
        · have hjl : J + 1 < l.length := by have := HN.out; omega
          have hJl : J < l.length := by omega
          obtain ⟨g, off, rfl, hcx⟩ := HAT.out (J + 1) hjl
          obtain ⟨g', off', he, hcy⟩ := HAT.out J hJl
          simp only [Option.some.injEq, Addr.mk.injEq, and_true] at he
          obtain ⟨rfl, rfl⟩ := he
          have hz0 := (HX.out.cell (lt_of_cell hcx)).trans hcx
          have hz2 := (HX.out.cell (lt_of_cell hcy)).trans hcy
          have HOK := Lib.hid (show l[J] < l[J + 1] → ∀ k, (hk : k < l.length) → k < J + 1 + 1 → okW l k hk from fun h k hk hkj => by
            by_cases e : k = J + 1
            · subst e; exact ⟨HLT.out _ (List.getElem_mem hk), fun _ => h⟩
            · exact HB.out k hk (by omega))
          have HBAD := Lib.hid (show ¬ l[J] < l[J + 1] → rightW l = false from fun h => rightW_bad (hj := hjl) (fun hok => h (hok.2 (Nat.succ_pos _))))
          have e1 : (((J + 1 : Nat) : Int) - 1) = (J : Int) := by omega
          generalize l[J + 1] = c at hz0 HOK HBAD
          generalize l[J] = p at hz2 HOK HBAD
          clear hcx hcy
          by_cases hpc : p < c
          · have HGOOD := Lib.hid (HOK.out hpc)
            have d2 : Op.bytesLess p c = true := (tless_iff p c).2 hpc
            clear hpc
            go_wp2_with fail
            go_region
            go_wp2_with fail
            go_roundw
            case rel => exact ⟨J + 1 + 1, by omega, by omega, by go_num, HGOOD.out, Ext.trans HX.out (Ext.drew wr)⟩
            case measure => simp [intOf]; omega
          · have HNO := Lib.hid (HBAD.out hpc)
            have d2 : Op.bytesLess p c = false := by rw [tless_dec]; exact decide_eq_false hpc
            clear hpc
            go_wp2_with fail
            go_region
            go_wp2_with fail
            go_ret
            exact ⟨by rw [HNO.out]; rfl, Ext.trans HX.out (Ext.drew wr)⟩
        · have HYES := Lib.hid (show rightW l = true from rightW_iff.2 (good_of_ok (by have := HN.out; omega) (fun k hk => HB.out k hk (by have := HN.out; omega))))
          go_wp2_with fail
          go_ret
          exact ⟨by rw [HYES.out]; rfl, HX.out⟩

theorem enters_lesser10 : ∀ args w, (callFunc 58 args).run Try.prog w = .ok (.enter 58 args) w := enters_of Try.func58 (by kernel_rfl) rfl

set_option maxRecDepth 100000 in
theorem lesserAt10_any (v : Value) (ws : List T8) (s : T8) (i : Nat) (hi : i < ws.length) (g g2 : Nat) (W : World) (hrd : RdV W v (ws.map tv)) (hp : W.cell? ⟨g, 0, none⟩ = some v) (hq : W.cell? ⟨g2, 0, none⟩ = some (.string ⟨s.toArray⟩)) :
    Calls Try.prog 58 #[.int .i64 i, .pointer (some ⟨g, 0, none⟩), .pointer (some ⟨g2, 0, none⟩)] W fun e w' => e = .returned (.bool (decide (¬ ws[i] < s))) ∧ Ext W w' := by
  obtain ⟨ao, cap, rfl, h1, h2, hat⟩ := rd_words hrd
  obtain ⟨g', off, rfl, hc⟩ := hat i hi
  unfold maxLen at h2
  clear hat hrd
  generalize ws[i] = c at hc ⊢
  generalize ws.length = N at h1 hi hp
  by_cases hcs : c < s
  · have d1 : Op.bytesLess c s = true := (tless_iff c s).2 hcs
    rw [show decide (¬ c < s) = false from decide_eq_false (fun h => h hcs)]
    clear hcs
    go_enter Try.func58, Try.ntmps58
    go_wp2_with fail
    go_region
    go_wp2_with fail
    go_ret
    exact ⟨rfl, Ext.drew W⟩
  · have d1 : Op.bytesLess c s = false := by rw [tless_dec]; exact decide_eq_false hcs
    rw [show decide (¬ c < s) = true from decide_eq_true hcs]
    clear hcs
    go_enter Try.func58, Try.ntmps58
    go_wp2_with fail
    go_region
    go_wp2_with fail
    go_ret
    exact ⟨rfl, Ext.drew W⟩

set_option maxRecDepth 100000 in
theorem lesser10_any (u : Value) (ws : List T8) (s : T8) (w : World) (hu : RdV w u (ws.map tv)) (hl : ws.length ≤ 1000000) (hr : Rising ws) :
    Calls Try.prog 35 #[u, .string ⟨s.toArray⟩] w fun e w' => e = .returned (.int .i64 (lessN ws s)) ∧ Ext w w' := by
  have HU := Lib.hid hu
  have HR := Lib.hid hr
  obtain ⟨ao, cap, rfl, h1, h2, -⟩ := rd_words hu
  obtain ⟨N, hN⟩ : ∃ N, ws.length = N := ⟨_, rfl⟩
  have HN := Lib.hid hN
  unfold maxLen at h2
  rw [hN] at h1 HU hl ⊢
  have hmf : ∀ (fn : Fn) (first cap : Array Value) (w : World), (Instr.makeFunc fn first cap).run Try.prog w = .ok (.func fn first cap) w := fun _ _ _ _ => rfl
  have HB1 := Lib.hid (ext_new w (.cells #[.slice ao N cap] 22))
  have HB2 := Lib.hid (ext_new (w.alloc (.cells #[.slice ao N cap] 22)) (.cells #[.string ⟨s.toArray⟩] 9))
  have HC1 := Lib.hid (row_new w [.slice ao N cap] 22 0 _ rfl)
  have HC2 := Lib.hid (row_new (w.alloc (.cells #[.slice ao N cap] 22)) [.string ⟨s.toArray⟩] 9 0 _ rfl)
  have HX := Lib.hid (Ext.trans HB1.out HB2.out)
  have hp1 : ((w.alloc (.cells #[.slice ao N cap] 22)).alloc (.cells #[.string ⟨s.toArray⟩] 9)).cell? ⟨w.heap.size, 0, none⟩ = some (.slice ao N cap) := (HB2.out.cell (lt_of_cell HC1.out)).trans HC1.out
  have hq1 : ((w.alloc (.cells #[.slice ao N cap] 22)).alloc (.cells #[.string ⟨s.toArray⟩] 9)).cell? ⟨w.heap.size + 1, 0, none⟩ = some (.string ⟨s.toArray⟩) := by
    have h := HC2.out
    rw [add_at] at h
    simp at h ⊢
  have HP1 := Lib.hid hp1
  have HQ1 := Lib.hid hq1
  have HS := Lib.hid (search_any 58 (.pointer (some ⟨w.heap.size, 0, none⟩)) (.pointer (some ⟨w.heap.size + 1, 0, none⟩)) N (fun i => if h : i < ws.length then decide (¬ ws[i] < s) else true) _ hl enters_lesser10 (fun i W hi hW => by
    have hi' : i < ws.length := by have := HN.out; omega
    rw [dif_pos hi']
    exact lesserAt10_any _ ws s i hi' w.heap.size (w.heap.size + 1) W (HU.out.mono (Ext.trans HX.out hW)) ((hW.cell (lt_of_cell HP1.out)).trans HP1.out) ((hW.cell (lt_of_cell HQ1.out)).trans HQ1.out)))
  clear hu hN hr
  go_enter Try.func35, Try.ntmps35
  go_wp2_with fail
  refine HS.out.mono ?_
  rintro e w2 ⟨⟨r, rfl, hr, hr0, hr1⟩, hx2⟩
  have HX2 := Lib.hid (Ext.trans HX.out hx2)
  have HF := Lib.hid (less_found HR.out (s := s) (r := r) (by have := HN.out; omega) (fun h0 => by
    have h := hr0 h0
    have hi : r - 1 < ws.length := by have := HN.out; omega
    rw [dif_pos hi] at h
    exact ⟨hi, Classical.not_not.1 (of_decide_eq_false h)⟩) (fun hi => by
    have h := hr1 (by have := HN.out; omega)
    rw [dif_pos hi] at h
    exact of_decide_eq_true h))
  clear hr0 hr1 hp1 hq1 hx2
  go_wp2_with fail
  go_ret
  exact ⟨by rw [HF.out]; rfl, HX2.out⟩

set_option maxRecDepth 100000 in
set_option maxHeartbeats 1000000 in
theorem find10_any (u : Value) (ws : List T8) (s : T8) (w : World) (hu : RdV w u (ws.map tv)) (hl : ws.length ≤ 1000000) (hr : Rising ws) :
    Calls Try.prog 37 #[u, .string ⟨s.toArray⟩] w fun e w' => (∃ p b, e = .returned (.tuple #[.int .i64 p, .bool b]) ∧ (s ∈ ws → p = placeS ws s ∧ b = true) ∧ (s ∉ ws → p = 0 ∧ b = false)) ∧ Ext w w' := by
  have HL := Lib.hid (lesser10_any u ws s w hu hl hr)
  have HLP := Lib.hid (less_stands hr s)
  have HPL := Lib.hid (fun (hm : s ∈ ws) => place_stands hr hm)
  have HLE := Lib.hid (show lessN ws s ≤ ws.length from List.length_filter_le _ _)
  obtain ⟨ao, cap, rfl, h1, h2, hat⟩ := rd_words hu
  have HAT := Lib.hid hat
  obtain ⟨N, hN⟩ : ∃ N, ws.length = N := ⟨_, rfl⟩
  have HN := Lib.hid hN
  unfold maxLen at h2
  rw [hN] at h1 HL hl ⊢
  clear hu hN hr hat
  generalize lessN ws s = r at HL HLP HPL HLE
  have hle : r ≤ N := by have := HLE.out; have := HN.out; omega
  by_cases hrN : r < N
  · have hrl : r < ws.length := by have := HN.out; omega
    obtain ⟨g, off, rfl, hc⟩ := HAT.out r hrl
    have HC := Lib.hid (fun W (h : Ext w W) => (h.cell (lt_of_cell hc)).trans hc)
    have HYES := Lib.hid (show ws[r] = s → s ∈ ws from fun e => HLP.out.1 ⟨hrl, e⟩)
    have HNO := Lib.hid (show ws[r] ≠ s → s ∉ ws from fun e hm => by
      obtain ⟨_, h⟩ := HLP.out.2 hm
      exact e h)
    have q1 : ((r : Int) == (N : Int)) = false := beq_eq_false_iff_ne.2 (by omega)
    generalize ws[r] = c at HC HYES HNO
    clear hc hrl
    by_cases hcs : c = s
    · subst hcs
      have HM := Lib.hid (HYES.out rfl)
      have q2 : (c == c) = true := beq_self_eq_true _
      have q3 : (c != c) = false := by simp
      go_enter Try.func37, Try.ntmps37
      go_wp2_with fail
      refine HL.out.mono ?_
      rintro e w1 ⟨rfl, hx1⟩
      have hc1 := HC.out w1 hx1
      have HX1 := Lib.hid hx1
      clear hx1
      go_wp2_with fail
      go_ret2
      exact ⟨⟨_, _, rfl, fun _ => ⟨(HPL.out HM.out).symm, rfl⟩, fun h => absurd HM.out h⟩, HX1.out⟩
    · have HM := Lib.hid (HNO.out hcs)
      have q2 : (c == s) = false := beq_eq_false_iff_ne.2 hcs
      have q3 : (c != s) = true := by simpa using hcs
      clear hcs
      go_enter Try.func37, Try.ntmps37
      go_wp2_with fail
      refine HL.out.mono ?_
      rintro e w1 ⟨rfl, hx1⟩
      have hc1 := HC.out w1 hx1
      have HX1 := Lib.hid hx1
      clear hx1
      go_wp2_with fail
      go_ret2
      exact ⟨⟨_, _, rfl, fun h => absurd h HM.out, fun _ => ⟨rfl, rfl⟩⟩, HX1.out⟩
  · have HM := Lib.hid (show s ∉ ws from fun hm => by
      obtain ⟨h, _⟩ := HLP.out.2 hm
      have := HN.out
      omega)
    obtain rfl : r = N := by omega
    have q1 : ((r : Int) == (r : Int)) = true := beq_self_eq_true _
    clear hrN hle
    go_enter Try.func37, Try.ntmps37
    go_wp2_with fail
    refine HL.out.mono ?_
    rintro e w1 ⟨rfl, hx1⟩
    have HX1 := Lib.hid hx1
    clear hx1
    go_wp2_with fail
    go_ret2
    exact ⟨⟨_, _, rfl, fun h => absurd h HM.out, fun _ => ⟨rfl, rfl⟩⟩, HX1.out⟩

theorem pFind10_any (u : Value) (l : List T8) (s : T8) (w : World) (hu : RdV w u (l.map tv)) (hl : l.length ≤ 100000) (hf : ∀ t ∈ l, t.length ≤ 1000000) (_hs : s.length ≤ 1000000) :
    Calls Try.prog 16 #[u, .string ⟨s.toArray⟩] w fun e w' => e = .returned (.tuple #[.int .i64 (findS l s).1, .bool (findS l s).2]) ∧ Ext w w' := by
  have HRT := Lib.hid (pRight10_any u l w hu hl hf)
  have HFI := Lib.hid (fun W (h : Ext w W) => find10_any u l s W (hu.mono h) (by omega))
  have HFS := Lib.hid (show findS l s = if rightW l = true ∧ s ∈ l then (placeS l s, true) else (0, false) from rfl)
  obtain ⟨ao, cap, rfl, -, -, -⟩ := rd_words hu
  generalize l.length = N at HRT HFI ⊢
  clear hu hf
  cases hr : rightW l with
  | false =>
    rw [hr] at HRT
    have HNO := Lib.hid (show findS l s = (0, false) by rw [HFS.out, hr, if_neg (fun h => by cases h.1)])
    rw [HNO.out]
    clear hr
    go_enter Try.func16, Try.ntmps16
    go_wp2_with fail
    refine HRT.out.mono ?_
    rintro e w1 ⟨rfl, hx1⟩
    have HX1 := Lib.hid hx1
    clear hx1
    go_wp2_with fail
    go_ret2
    exact ⟨rfl, HX1.out⟩
  | true =>
    rw [hr] at HRT
    have HRI := Lib.hid (rightW_iff.1 hr).2.2
    have HYES := Lib.hid (show findS l s = if s ∈ l then (placeS l s, true) else (0, false) by rw [HFS.out, hr]; simp)
    clear hr
    go_enter Try.func16, Try.ntmps16
    go_wp2_with fail
    refine HRT.out.mono ?_
    rintro e w1 ⟨rfl, hx1⟩
    have HX1 := Lib.hid hx1
    clear hx1
    go_wp2_with fail
    refine (HFI.out w1 HX1.out HRI.out).mono ?_
    rintro e w2 ⟨⟨p, b, rfl, hy, hn⟩, hx2⟩
    have HX2 := Lib.hid (Ext.trans HX1.out hx2)
    have HPB := Lib.hid (show findS l s = (p, b) by
      rw [HYES.out]
      by_cases hm : s ∈ l
      · obtain ⟨rfl, rfl⟩ := hy hm
        rw [if_pos hm]
      · obtain ⟨rfl, rfl⟩ := hn hm
        rw [if_neg hm])
    clear hy hn hx2
    go_wp2_with fail
    go_ret2
    exact ⟨by rw [HPB.out]; rfl, HX2.out⟩

theorem pFrom10_any (u : Value) (l : List T8) (s : T8) (w : World) (hu : RdV w u (l.map tv)) (hl : l.length ≤ 100000) (hf : ∀ t ∈ l, t.length ≤ 1000000) (_hs : s.length ≤ 1000000) :
    Calls Try.prog 20 #[u, .string ⟨s.toArray⟩] w fun e w' => e = .returned (.int .i64 (fromS l s)) ∧ Ext w w' := by
  have HRT := Lib.hid (pRight10_any u l w hu hl hf)
  have HFI := Lib.hid (fun W (h : Ext w W) => lesser10_any u l s W (hu.mono h) (by omega))
  have HFS := Lib.hid (show fromS l s = if rightW l = true then (lessN l s : Int) else 0 from rfl)
  obtain ⟨ao, cap, rfl, -, -, -⟩ := rd_words hu
  generalize l.length = N at HRT HFI ⊢
  clear hu hf
  cases hr : rightW l with
  | false =>
    rw [hr] at HRT HFS
    rw [HFS.out, if_neg (by decide)]
    clear hr
    go_enter Try.func20, Try.ntmps20
    go_wp2_with fail
    refine HRT.out.mono ?_
    rintro e w1 ⟨rfl, hx1⟩
    have HX1 := Lib.hid hx1
    clear hx1
    go_wp2_with fail
    go_ret
    exact ⟨rfl, HX1.out⟩
  | true =>
    rw [hr] at HRT HFS
    have HRI := Lib.hid (rightW_iff.1 hr).2.2
    rw [HFS.out, if_pos rfl]
    clear hr
    go_enter Try.func20, Try.ntmps20
    go_wp2_with fail
    refine HRT.out.mono ?_
    rintro e w1 ⟨rfl, hx1⟩
    have HX1 := Lib.hid hx1
    clear hx1
    go_wp2_with fail
    refine (HFI.out w1 HX1.out HRI.out).mono ?_
    rintro e w2 ⟨rfl, hx2⟩
    have HX2 := Lib.hid (Ext.trans HX1.out hx2)
    clear hx2
    go_wp2_with fail
    go_ret
    exact ⟨rfl, HX2.out⟩

end Go.Proofs.Ytcaidgdnneomaaa
