/-
  The program's own words: HasPrefix, Behind, common, Turn.
-/
import Derived.Test.YtcaidgdnneomaaaDictP2
import Derived.Test.YtcaidgdnneomaaaDictRef3
import Derived.Test.YtcaidgdnneomaaaHead
namespace Go.Proofs.Ytcaidgdnneomaaa
open Go.RowKit Go.BigFrame Go.Shelf

theorem liteHas10_any (t s : T8) (w : World) (_ht : t.length ≤ 4611686018427387904) (_hs : s.length ≤ 4611686018427387904) :
    Calls Try.prog 59 #[.string ⟨t.toArray⟩, .string ⟨s.toArray⟩] w fun e w' => e = .returned (.bool (s.isPrefixOf t)) ∧ w = w' := by
  have HP := Lib.hid (prefix_cut (s := s) (t := t))
  by_cases h : s.length ≤ t.length
  · have d1 : decide (s.length ≤ t.length) = true := decide_eq_true h
    have d1' : decide ((s.length : Int) ≤ (t.length : Int)) = true := decide_eq_true (by omega)
    have hc := tcut_take t s.length
    have HPP := Lib.hid (show s.isPrefixOf t = (t.take s.length == s) by rw [HP.out, d1, Bool.true_and])
    generalize t.take s.length = x at hc HPP
    go_enter Try.func59, Try.ntmps59
    go_wp2_with fail
    go_ret
    exact ⟨by rw [HPP.out]; rfl, rfl⟩
  · have d1 : decide (s.length ≤ t.length) = false := decide_eq_false h
    have d1' : decide ((s.length : Int) ≤ (t.length : Int)) = false := decide_eq_false (by omega)
    have HPP := Lib.hid (show s.isPrefixOf t = false by rw [HP.out, d1, Bool.false_and])
    go_enter Try.func59, Try.ntmps59
    go_wp2_with fail
    go_ret
    exact ⟨by rw [HPP.out]; rfl, rfl⟩
theorem hasPrefix10_any (t s : T8) (w : World) (ht : t.length ≤ 4611686018427387904) (hs : s.length ≤ 4611686018427387904) :
    Calls Try.prog 40 #[.string ⟨t.toArray⟩, .string ⟨s.toArray⟩] w fun e w' => e = .returned (.bool (s.isPrefixOf t)) ∧ w = w' := by
  go_enter Try.func40, Try.ntmps40
  go_wp2_with fail
  refine (liteHas10_any t s w ht hs).mono ?_
  rintro e w1 ⟨rfl, rfl⟩
  go_wp2_with fail
  go_ret
  exact ⟨rfl, rfl⟩

/-- A word stands behind a text: it neither is less, nor begins with it. -/
def isBehind (c s : T8) : Bool := decide (¬ (c < s ∨ s.isPrefixOf c = true))
theorem isBehind_no {c s : T8} (h : ¬ s < c) : isBehind c s = false := decide_eq_false fun hn => by
  rcases tless_three c s with g | g | g
  · exact hn (.inl g)
  · subst g
    exact hn (.inr (by rw [List.isPrefixOf_iff_prefix]; exact List.prefix_refl _))
  · exact h g
theorem isBehind_yes {c s : T8} (h : s < c) : isBehind c s = !(s.isPrefixOf c) := by
  unfold isBehind
  cases hp : s.isPrefixOf c with
  | true => exact decide_eq_false fun hn => hn (.inr rfl)
  | false => exact decide_eq_true fun hn => hn.elim (tless_asymm h) (fun h => by cases h)

theorem enters_behind10 : ∀ args w, (callFunc 39 args).run Try.prog w = .ok (.enter 39 args) w := enters_of Try.func39 (by kernel_rfl) rfl

set_option maxRecDepth 100000 in
set_option maxHeartbeats 1000000 in
theorem behindAt10_any (v : Value) (ws : List T8) (s : T8) (i : Nat) (hi : i < ws.length) (g g2 : Nat) (W : World) (hrd : RdV W v (ws.map tv)) (hp : W.cell? ⟨g, 0, none⟩ = some v) (hq : W.cell? ⟨g2, 0, none⟩ = some (.string ⟨s.toArray⟩)) (hf : ∀ t ∈ ws, t.length ≤ 1000000) (hs : s.length ≤ 1000000) :
    Calls Try.prog 39 #[.int .i64 i, .pointer (some ⟨g, 0, none⟩), .pointer (some ⟨g2, 0, none⟩)] W fun e w' => e = .returned (.bool (isBehind ws[i] s)) ∧ Ext W w' := by
  obtain ⟨ao, cap, rfl, h1, h2, hat⟩ := rd_words hrd
  obtain ⟨g', off, rfl, hc⟩ := hat i hi
  unfold maxLen at h2
  have hzp : ∀ z : Later Ext W.drew, z.val.cell? ⟨g, 0, none⟩ = some (.slice (some ⟨g', off, none⟩) ws.length cap) := fun z => ((Ext.trans (Ext.drew W) z.ext).cell (lt_of_cell hp)).trans hp
  have hzq : ∀ z : Later Ext W.drew, z.val.cell? ⟨g2, 0, none⟩ = some (.string ⟨s.toArray⟩) := fun z => ((Ext.trans (Ext.drew W) z.ext).cell (lt_of_cell hq)).trans hq
  have hzc : ∀ z : Later Ext W.drew, z.val.cell? ⟨g', off + i, none⟩ = some (.string ⟨ws[i].toArray⟩) := fun z => ((Ext.trans (Ext.drew W) z.ext).cell (lt_of_cell hc)).trans hc
  have HLC := Lib.hid (hf _ (List.getElem_mem hi))
  clear hat hrd hf hc hp hq
  generalize ws[i] = c at hzc HLC ⊢
  generalize ws.length = N at h1 hi hzp
  have HPF := Lib.hid (fun W => hasPrefix10_any c s W (by have := HLC.out; omega) (by omega))
  by_cases hcs : s < c
  · have d1 : Op.bytesLess c s = false := by rw [tless_dec]; exact decide_eq_false (tless_asymm hcs)
    have d2 : (c == s) = false := beq_eq_false_iff_ne.2 (fun e => by subst e; exact tless_irrefl _ hcs)
    rw [isBehind_yes hcs]
    clear hcs
    generalize s.isPrefixOf c = b at HPF ⊢
    go_enter Try.func39, Try.ntmps39
    go_wp2_with fail
    refine wp_region_segs Ext Ext.keeps [([0, 1, 2, 3, 4, 5, 6, 7, 8, 9, 10, 11], some 12), ([13, 14, 15], none)] (by kernel_rfl) (by kernel_rfl) (fun c a a' w e h => (by exact ⟨e ▸ h.1, h.2⟩)) ?_
    simp only [pickSegs, pickOps, List.map_cons, List.map_nil, Option.map_some, Option.map_none, Option.getD_some, List.getElem?_toArray, List.getElem?_cons_zero, List.getElem?_cons_succ]
    refine wpSegs_some fun K' hK' => ?_
    repeat go_big_quiet_step (fail)
    refine wpQuiet_nil ?_
    clear hzp hzq hzc
    go_wp2_with fail
    refine (HPF.out _).mono ?_
    rintro e w3 ⟨rfl, rfl⟩
    go_wp2_with fail
    refine ⟨Ext.keeps.refl _, hK' _ _ ?_⟩
    clear hK' K'
    refine wpSegs_none ?_
    repeat go_big_quiet_step (fail)
    refine wpQuiet_nil (wpSegs_nil ?_)
    go_wp2_with fail
    go_ret
    exact ⟨rfl, Ext.drew W⟩
  · rw [isBehind_no hcs]
    rcases tless_three c s with hl | rfl | hg
    · have d1 : Op.bytesLess c s = true := (tless_iff c s).2 hl
      clear hcs hl
      go_enter Try.func39, Try.ntmps39
      go_wp2_with fail
      refine wp_region_segs Ext Ext.keeps [([0, 1, 2, 3, 4, 5, 6, 7, 8, 9, 10, 11], some 12), ([13, 14, 15], none)] (by kernel_rfl) (by kernel_rfl) (fun c a a' w e h => (by exact ⟨e ▸ h.1, h.2⟩)) ?_
      simp only [pickSegs, pickOps, List.map_cons, List.map_nil, Option.map_some, Option.map_none, Option.getD_some, List.getElem?_toArray, List.getElem?_cons_zero, List.getElem?_cons_succ]
      refine wpSegs_some fun K' hK' => ?_
      repeat go_big_quiet_step (fail)
      refine wpQuiet_nil ?_
      clear hzp hzq hzc
      go_wp2_with fail
      refine ⟨Ext.keeps.refl _, hK' _ _ ?_⟩
      clear hK' K'
      refine wpSegs_none ?_
      repeat go_big_quiet_step (fail)
      refine wpQuiet_nil (wpSegs_nil ?_)
      go_wp2_with fail
      go_ret
      exact ⟨rfl, Ext.drew W⟩
    · have d1 : Op.bytesLess c c = false := by rw [tless_dec]; exact decide_eq_false (tless_irrefl c)
      have d2 : (c == c) = true := beq_self_eq_true c
      clear hcs
      go_enter Try.func39, Try.ntmps39
      go_wp2_with fail
      refine wp_region_segs Ext Ext.keeps [([0, 1, 2, 3, 4, 5, 6, 7, 8, 9, 10, 11], some 12), ([13, 14, 15], none)] (by kernel_rfl) (by kernel_rfl) (fun c a a' w e h => (by exact ⟨e ▸ h.1, h.2⟩)) ?_
      simp only [pickSegs, pickOps, List.map_cons, List.map_nil, Option.map_some, Option.map_none, Option.getD_some, List.getElem?_toArray, List.getElem?_cons_zero, List.getElem?_cons_succ]
      refine wpSegs_some fun K' hK' => ?_
      repeat go_big_quiet_step (fail)
      refine wpQuiet_nil ?_
      clear hzp hzq hzc
      go_wp2_with fail
      refine ⟨Ext.keeps.refl _, hK' _ _ ?_⟩
      clear hK' K'
      refine wpSegs_none ?_
      repeat go_big_quiet_step (fail)
      refine wpQuiet_nil (wpSegs_nil ?_)
      go_wp2_with fail
      go_ret
      exact ⟨rfl, Ext.drew W⟩
    · exact absurd hg hcs

set_option maxRecDepth 100000 in
set_option maxHeartbeats 1000000 in
theorem pBehind10_any (u : Value) (l : List T8) (s : T8) (w : World) (hu : RdV w u (l.map tv)) (hl : l.length ≤ 100000) (hf : ∀ t ∈ l, t.length ≤ 1000000) (hs : s.length ≤ 1000000) :
    Calls Try.prog 22 #[u, .string ⟨s.toArray⟩] w fun e w' => e = .returned (.int .i64 (behindS l s)) ∧ Ext w w' := by
  have HRT := Lib.hid (fun W (h : Ext w W) => pRight10_any u l W (hu.mono h) hl hf)
  have HU := Lib.hid hu
  have HFT := Lib.hid hf
  have HS := Lib.hid hs
  have HFS := Lib.hid (show behindS l s = if rightW l = true then (behindN l s : Int) else 0 from rfl)
  obtain ⟨ao, cap, rfl, h1, h2, -⟩ := rd_words hu
  obtain ⟨N, hN⟩ : ∃ N, l.length = N := ⟨_, rfl⟩
  have HN := Lib.hid hN
  unfold maxLen at h2
  rw [hN] at h1 HU hl HRT ⊢
  have hmf : ∀ (fn : Fn) (first cap : Array Value) (w : World), (Instr.makeFunc fn first cap).run Try.prog w = .ok (.func fn first cap) w := fun _ _ _ _ => rfl
  have HB1 := Lib.hid (ext_new w (.cells #[.slice ao N cap] 22))
  have HB2 := Lib.hid (ext_new (w.alloc (.cells #[.slice ao N cap] 22)) (.cells #[.string ⟨s.toArray⟩] 9))
  have HC1 := Lib.hid (row_new w [.slice ao N cap] 22 0 _ rfl)
  have HC2 := Lib.hid (row_new (w.alloc (.cells #[.slice ao N cap] 22)) [.string ⟨s.toArray⟩] 9 0 _ rfl)
  have HX := Lib.hid (Ext.trans HB1.out HB2.out)
  have hp1 : ((w.alloc (.cells #[.slice ao N cap] 22)).alloc (.cells #[.string ⟨s.toArray⟩] 9)).cell? ⟨w.heap.size, 0, none⟩ = some (.slice ao N cap) := (HB2.out.cell (lt_of_cell HC1.out)).trans HC1.out
  have hq1 : ((w.alloc (.cells #[.slice ao N cap] 22)).alloc (.cells #[.string ⟨s.toArray⟩] 9)).cell? ⟨w.heap.size + 1, 0, none⟩ = some (.string ⟨s.toArray⟩) := by
    have h := HC2.out
    rw [add_at] at h
    simp at h ⊢
  have HP1 := Lib.hid hp1
  have HQ1 := Lib.hid hq1
  have HRT1 := Lib.hid (HRT.out _ HX.out)
  clear hu hN hf hs
  cases hr : rightW l with
  | false =>
    rw [hr] at HRT1 HFS
    rw [HFS.out, if_neg (by decide)]
    clear hr
    go_enter Try.func22, Try.ntmps22
    go_wp2_with fail
    refine HRT1.out.mono ?_
    rintro e w1 ⟨rfl, hx1⟩
    have HX1 := Lib.hid (Ext.trans HX.out hx1)
    clear hx1 hp1 hq1
    go_wp2_with fail
    go_ret
    exact ⟨rfl, HX1.out⟩
  | true =>
    rw [hr] at HRT1 HFS
    have HRI := Lib.hid (rightW_iff.1 hr).2.2
    rw [HFS.out, if_pos rfl]
    clear hr
    go_enter Try.func22, Try.ntmps22
    go_wp2_with fail
    refine HRT1.out.mono ?_
    rintro e w1 ⟨rfl, hx1⟩
    have HX1 := Lib.hid (Ext.trans HX.out hx1)
    have hp2 := (hx1.cell (lt_of_cell HP1.out)).trans HP1.out
    have HP2 := Lib.hid hp2
    have HQ2 := Lib.hid ((hx1.cell (lt_of_cell HQ1.out)).trans HQ1.out)
    have HSE := Lib.hid (search_any 39 (.pointer (some ⟨w.heap.size, 0, none⟩)) (.pointer (some ⟨w.heap.size + 1, 0, none⟩)) N (fun i => if h : i < l.length then isBehind l[i] s else true) w1 (by omega) enters_behind10 (fun i W hi hW => by
      have hi' : i < l.length := by have := HN.out; omega
      rw [dif_pos hi']
      exact behindAt10_any _ l s i hi' w.heap.size (w.heap.size + 1) W (HU.out.mono (Ext.trans HX1.out hW)) ((hW.cell (lt_of_cell HP2.out)).trans HP2.out) ((hW.cell (lt_of_cell HQ2.out)).trans HQ2.out) HFT.out HS.out))
    clear hx1 hp1 hq1
    go_wp2_with fail
    refine HSE.out.mono ?_
    rintro e w2 ⟨⟨r, rfl, hr, hr0, hr1⟩, hx2⟩
    have HX2 := Lib.hid (Ext.trans HX1.out hx2)
    have HF := Lib.hid (behind_found HRI.out (s := s) (r := r) (by have := HN.out; omega) (fun h0 => by
      have h := hr0 h0
      have hi : r - 1 < l.length := by have := HN.out; omega
      rw [dif_pos hi] at h
      exact ⟨hi, Classical.not_not.1 (of_decide_eq_false h)⟩) (fun hi => by
      have h := hr1 (by have := HN.out; omega)
      rw [dif_pos hi] at h
      exact of_decide_eq_true h))
    clear hr0 hr1 hx2 hp2
    go_wp2_with fail
    go_ret
    exact ⟨by rw [HF.out]; rfl, HX2.out⟩

set_option maxRecDepth 100000 in
set_option maxHeartbeats 1000000 in
theorem common10_any (a b : T8) (w : World) (_ha : a.length ≤ 4611686018427387904) (_hb : b.length ≤ 4611686018427387904) :
    Calls Try.prog 43 #[.string ⟨a.toArray⟩, .string ⟨b.toArray⟩] w fun e w' => e = .returned (.int .i64 (commonN a b)) ∧ Ext w w' := by
  obtain ⟨M, hm1, hm2, hM1, hM2, hM3⟩ := min_firstN a.length b.length
  have HM := Lib.hid hM3
  clear hM3
  go_enter Try.func43, Try.ntmps43
  go_wp2_with fail
  go_loopw [5] (fun i wr => ∃ n : Nat, n ≤ M ∧ i = .int .i64 n ∧ (∀ i, i < n → a[i]? = b[i]? ∧ a[i]? ≠ none) ∧ Ext w wr) (fun i _ => M - (intOf i).toNat)
  case atStart => exact ⟨0, Nat.zero_le _, rfl, fun i hi => by omega, Ext.keeps.refl _⟩
  case round =>
    obtain ⟨n, hn, rfl, hb1, hx⟩ := hrel
    have HB := Lib.hid hb1
    have HX := Lib.hid hx
    clear hb1 hx
    by_cases h0 : n < M
    · have h1 : n < a.length := by omega
      have h2 : n < b.length := by omega
      have d1 : decide (n < M) = true := decide_eq_true h0
      have d1' : decide ((n : Int) < (M : Int)) = true := decide_eq_true (by omega)
      have HG := Lib.hid (show a[n]? = some a[n] ∧ b[n]? = some b[n] from ⟨List.getElem?_eq_getElem h1, List.getElem?_eq_getElem h2⟩)
      obtain ⟨x, hx⟩ : ∃ x, a[n] = x := ⟨_, rfl⟩
      obtain ⟨y, hy⟩ : ∃ y, b[n] = y := ⟨_, rfl⟩
      have hga : (⟨a.toArray⟩ : ByteArray)[n]'(by simpa [ByteArray.size] using h1) = x := by rw [← hx]; rfl
      have hgb : (⟨b.toArray⟩ : ByteArray)[n]'(by simpa [ByteArray.size] using h2) = y := by rw [← hy]; rfl
      rw [hx, hy] at HG
      clear hx hy
      by_cases hq : x = y
      · subst hq
        have hqq : ((x.toNat : Int) == (x.toNat : Int)) = true := beq_self_eq_true _
        go_wp2_with fail
        refine wp_region_segs Ext Ext.keeps [(List.range 16, none)] (by kernel_rfl) (by kernel_rfl) (fun c a a' w e h => (by exact ⟨e ▸ h.1, h.2⟩)) ?_
        simp only [List.range, List.range.loop, pickSegs, pickOps, List.map_cons, List.map_nil, Option.map_none, Option.getD_some, List.getElem?_toArray, List.getElem?_cons_zero, List.getElem?_cons_succ]
        refine wpSegs_none ?_
        repeat go_big_quiet_step (fail)
        refine wpQuiet_nil (wpSegs_nil ?_)
        clear hga hgb
        go_wp2_with fail
        go_roundw
        case rel => exact ⟨n + 1, by omega, by go_num, fun i hi => by
          by_cases e : i = n
          · subst e
            exact ⟨by rw [HG.out.1, HG.out.2], by rw [HG.out.1]; simp⟩
          · exact HB.out i (by omega), Ext.trans HX.out (Ext.drew wr)⟩
        case measure => simp [intOf]; omega
      · have hqq : ((x.toNat : Int) == (y.toNat : Int)) = false := by
          rw [beq_eq_false_iff_ne]
          intro h
          exact hq (UInt8.toNat_inj.1 (by omega))
        have HNO := Lib.hid (show commonN a b = n from commonN_is HB.out (.inr (.inr (by rw [HG.out.1, HG.out.2]; simpa using hq))) (by omega) (by omega))
        go_wp2_with fail
        refine wp_region_segs Ext Ext.keeps [(List.range 16, none)] (by kernel_rfl) (by kernel_rfl) (fun c a a' w e h => (by exact ⟨e ▸ h.1, h.2⟩)) ?_
        simp only [List.range, List.range.loop, pickSegs, pickOps, List.map_cons, List.map_nil, Option.map_none, Option.getD_some, List.getElem?_toArray, List.getElem?_cons_zero, List.getElem?_cons_succ]
        refine wpSegs_none ?_
        repeat go_big_quiet_step (fail)
        refine wpQuiet_nil (wpSegs_nil ?_)
        clear hga hgb
        go_wp2_with fail
        go_ret
        exact ⟨by rw [HNO.out]; rfl, Ext.trans HX.out (Ext.drew wr)⟩
    · have d1 : decide (n < M) = false := decide_eq_false h0
      have d1' : decide ((n : Int) < (M : Int)) = false := decide_eq_false (by omega)
      have HNO := Lib.hid (show commonN a b = n from commonN_is HB.out (by have := HM.out; omega) (by omega) (by omega))
      go_wp2_with fail
      refine wp_region_segs Ext Ext.keeps [(List.range 16, none)] (by kernel_rfl) (by kernel_rfl) (fun c a a' w e h => (by exact ⟨e ▸ h.1, h.2⟩)) ?_
      simp only [List.range, List.range.loop, pickSegs, pickOps, List.map_cons, List.map_nil, Option.map_none, Option.getD_some, List.getElem?_toArray, List.getElem?_cons_zero, List.getElem?_cons_succ]
      refine wpSegs_none ?_
      repeat go_big_quiet_step (fail)
      refine wpQuiet_nil (wpSegs_nil ?_)
      go_wp2_with fail
      go_ret
      exact ⟨by rw [HNO.out]; rfl, Ext.trans HX.out (Ext.drew wr)⟩

set_option maxRecDepth 100000 in
set_option maxHeartbeats 1000000 in
theorem pTurn10_any (u v : Value) (l m : List T8) (w : World) (hu : RdV w u (l.map tv)) (hv : RdV w v (m.map tv)) (hl : l.length ≤ 100000) (hm : m.length ≤ 100000) (hf : ∀ t ∈ l, t.length ≤ 1000000) (hg : ∀ t ∈ m, t.length ≤ 1000000) :
    Calls Try.prog 28 #[u, v] w fun e w' => AnsI w (turnS l m) e w' := by
  obtain ⟨i2, hi2, hx0, hx1, hx2⟩ := info_parts Try.info_int8
  have HR1 := Lib.hid (pRight10_any u l w hu hl hf)
  have HR2 := Lib.hid (fun W (h : Ext w W) => pRight10_any v m W (hv.mono h) hm hg)
  have HFI := Lib.hid (fun s W (h : Ext w W) (hr : Rising m) => find10_any v m s W (hv.mono h) (by omega) hr)
  obtain ⟨ao, cap, rfl, h1, h2, hat⟩ := rd_words hu
  obtain ⟨bo, bcap, rfl, -, -, -⟩ := rd_words hv
  have HAT := Lib.hid hat
  have HPB := Lib.hid (fun s => placeS_bounds m s (by omega))
  obtain ⟨N, hN⟩ : ∃ N, l.length = N := ⟨_, rfl⟩
  have HN := Lib.hid hN
  unfold maxLen at h2
  rw [hN] at h1 HR1 hl ⊢
  generalize m.length = M at HR2 HFI ⊢
  clear hat hN hu hv hf hg hm
  cases hra : rightW l with
  | false =>
    rw [hra] at HR1
    have HNO := Lib.hid (show turnS l m = ([], 1) from if_neg (fun h => by rw [hra] at h; cases h.1))
    rw [HNO.out]
    clear hra
    go_enter Try.func28, Try.ntmps28
    go_wp2_with fail
    refine HR1.out.mono ?_
    rintro e w1 ⟨rfl, hx⟩
    have HX := Lib.hid hx
    clear hx
    go_wp2_with fail
    go_ret2
    exact ⟨_, rfl, owns_nil _ _ _ _, HX.out⟩
  | true =>
    rw [hra] at HR1
    cases hrb : rightW m with
    | false =>
      rw [hrb] at HR2
      have HNO := Lib.hid (show turnS l m = ([], 1) from if_neg (fun h => by rw [hrb] at h; cases h.2))
      rw [HNO.out]
      clear hra hrb
      go_enter Try.func28, Try.ntmps28
      go_wp2_with fail
      refine HR1.out.mono ?_
      rintro e w1 ⟨rfl, hx⟩
      have HX := Lib.hid hx
      clear hx
      go_wp2_with fail
      refine (HR2.out _ HX.out).mono ?_
      rintro e w2 ⟨rfl, hx⟩
      have HX2 := Lib.hid (Ext.trans HX.out hx)
      clear hx
      go_wp2_with fail
      go_ret2
      exact ⟨_, rfl, owns_nil _ _ _ _, HX2.out⟩
    | true =>
      rw [hrb] at HR2
      have HRI := Lib.hid (rightW_iff.1 hrb).2.2
      have HYES := Lib.hid (show turnS l m = (l.map (placeS m), 0) from if_pos ⟨hra, hrb⟩)
      have HNS := Lib.hid (show N ≤ 200 by have := (rightW_iff.1 hra).1; have := HN.out; omega)
      rw [HYES.out]
      clear hra hrb
      go_enter Try.func28, Try.ntmps28
      go_wp2_with fail
      refine HR1.out.mono ?_
      rintro e w1 ⟨rfl, hx⟩
      have HX := Lib.hid hx
      clear hx
      go_wp2_with fail
      refine (HR2.out _ HX.out).mono ?_
      rintro e w2 ⟨rfl, hx⟩
      have HX2 := Lib.hid (Ext.trans HX.out hx)
      clear hx
      go_wp2_with fail
      go_loopw [6, 8, 9, 10, 21] (fun r _ _ _ i wr => ∃ j : Nat, j ≤ N ∧ i = .int .i64 j ∧ wr.ownsRow w.heap.size 3 1 r ((l.take j).map (placeS m)).length (((l.take j).map (placeS m)).map (Value.int .i64)) ∧ Below w.heap.size w wr) (fun _ _ _ _ i _ => N - (intOf i).toNat)
      case atStart => exact ⟨0, Nat.zero_le _, rfl, owns_nil _ _ _ _, HX2.out⟩
      case round =>
        obtain ⟨j, hj, rfl, hown, hx⟩ := hrel
        have HO := Lib.hid hown
        have HX3 := Lib.hid hx
        clear hown hx
        by_cases hlt : j < N
        · have hjl : j < l.length := by have := HN.out; omega
          obtain ⟨g, off, rfl, hcx⟩ := HAT.out j hjl
          have hc := (HX3.out.cell (lt_of_cell hcx)).trans hcx
          have HS := Lib.hid (List.take_succ_eq_append_getElem hjl)
          have HLEN := Lib.hid (show ((l.take j).map (placeS m)).length ≤ 200 by rw [List.length_map, List.length_take]; have := HNS.out; omega)
          generalize l[j] = c at hc HS
          have HFC := Lib.hid (HFI.out c wr HX3.out HRI.out)
          clear hcx hjl
          go_wp2_with fail
          refine HFC.out.mono ?_
          rintro e w3 ⟨⟨p, b, rfl, hy, hn⟩, hx3⟩
          have HX4 := Lib.hid (Ext.trans HX3.out hx3)
          have HO4 := Lib.hid (owns_ext HO.out hx3)
          have HSZ := Lib.hid HX4.out.size
          cases b with
          | true =>
            have HPC := Lib.hid (show placeS m c = p from by
              by_cases hm : c ∈ m
              · exact (hy hm).1.symm
              · exact absurd (hn hm).2 (by decide))
            clear hy hn hx3
            go_wp2_with (at_builtin; go_must (refine wpList_append_own _ rfl (.tmp 33) (.tmp 35) 23 rfl w.heap.size 3 i2 (.int .i64 0) 1 8 Try.underlying23 hi2 hx0 hx1 hx2 rfl (by decide) _ _ _ rfl (HO4.out.alloc _) ⟨w3.heap.size, 0, none⟩ 1 1 [_] rfl rfl (row_new _ _ _) (by simp [Value.oneCell']) (by have := HLEN.out; unfold maxLen; omega) (by have := HLEN.out; omega) (by have := HSZ.out; simp; omega) ?_); intro v4 w4 hown4 hgrow4 _; have HO5 := Lib.hid hown4; have HB5 := Lib.hid (((Below.refl w.heap.size w3).alloc HSZ.out _).grown hgrow4 (by simp; have := HSZ.out; omega) (fun b hb => (HO4.out.lt b hb).1)); clear hown4 hgrow4)
            go_roundw
            case rel =>
              refine ⟨j + 1, by omega, by go_num, ?_, (show Below w.heap.size w w3 from HX4.out).trans HB5.out⟩
              rw [HS.out, List.map_append, List.map_append, List.length_append]
              have h := HO5.out
              rw [← HPC.out] at h
              exact h
            case measure => simp [intOf]; omega
          | false =>
            have HPC := Lib.hid (show placeS m c = -1 from by
              by_cases hm : c ∈ m
              · exact absurd (hy hm).2 (by decide)
              · exact if_neg hm)
            clear hy hn hx3
            go_wp2_with (at_builtin; go_must (refine wpList_append_own _ rfl (.tmp 33) (.tmp 35) 23 rfl w.heap.size 3 i2 (.int .i64 0) 1 8 Try.underlying23 hi2 hx0 hx1 hx2 rfl (by decide) _ _ _ rfl (HO4.out.alloc _) ⟨w3.heap.size, 0, none⟩ 1 1 [_] rfl rfl (row_new _ _ _) (by simp [Value.oneCell']) (by have := HLEN.out; unfold maxLen; omega) (by have := HLEN.out; omega) (by have := HSZ.out; simp; omega) ?_); intro v4 w4 hown4 hgrow4 _; have HO5 := Lib.hid hown4; have HB5 := Lib.hid (((Below.refl w.heap.size w3).alloc HSZ.out _).grown hgrow4 (by simp; have := HSZ.out; omega) (fun b hb => (HO4.out.lt b hb).1)); clear hown4 hgrow4)
            go_roundw
            case rel =>
              refine ⟨j + 1, by omega, by go_num, ?_, (show Below w.heap.size w w3 from HX4.out).trans HB5.out⟩
              rw [HS.out, List.map_append, List.map_append, List.length_append]
              have h := HO5.out
              rw [← HPC.out] at h
              exact h
            case measure => simp [intOf]; omega
        · have HALL := Lib.hid (show l.take j = l from List.take_of_length_le (by have := HN.out; omega))
          go_wp2_with fail
          go_ret2
          have h := HO.out
          rw [HALL.out] at h
          exact ⟨_, rfl, h, HX3.out⟩

end Go.Proofs.Ytcaidgdnneomaaa
