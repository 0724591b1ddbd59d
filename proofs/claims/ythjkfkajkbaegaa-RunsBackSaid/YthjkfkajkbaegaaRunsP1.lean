/-
  The program's own runs: search, fault.
-/
import Derived.RegionTactic
import Derived.ChangeAlike
import Derived.Shelf.Abstract
import Derived.Test.YthjkfkajkbaegaaRunsAns
import Derived.Test.YthjkfkajkbaegaaRunsAt
namespace Go.Proofs.Ythjkfkajkbaegaa
open Go.RowKit Go.BigFrame Go.Shelf

set_option maxRecDepth 100000 in
/-- search: one index after another, up to the first that is wrong; I tells the world ahead of an index, J the world behind a wrong one. -/
theorem search9_any (G : Nat) (caps : Array Value) (I : Nat → World → Prop) (J : World → Prop) (bad : Nat → Bool) (u : Value) (rs : List Sp) (w : World) (hu : RdSp w u rs)
    (he : ∀ args w, (callFunc G args).run Try.prog w = .ok (.enter G args) w) (h0 : I 0 w)
    (hf : ∀ (i : Nat) (W : World), i < rs.length → I i W → Calls Try.prog G (#[.int .i64 i] ++ caps) W fun e w' => e = .returned (.bool (bad i)) ∧ (bad i = false → I (i + 1) w') ∧ (bad i = true → J w')) :
    Calls Try.prog 31 #[u, .func (.func G) #[] caps] w fun e w' => ∃ b, e = .returned (.bool b) ∧ (b = true → (∃ i, i < rs.length ∧ bad i = true) ∧ J w') ∧ (b = false → (∀ i, i < rs.length → bad i = false) ∧ I rs.length w') := by
  have HF := Lib.hid hf
  have H0 := Lib.hid h0
  obtain ⟨ao, cap, rfl, h1, h2, -, -⟩ := hu
  unfold maxLen at h2
  clear hf h0
  generalize rs.length = N at HF h1 ⊢
  go_enter Try.func31, Try.ntmps31
  go_wp2_with fail
  go_loopw [5, 8] (fun _ i wr => ∃ j : Nat, j ≤ N ∧ i = .int .i64 j ∧ (∀ k, k < j → bad k = false) ∧ I j wr) (fun _ i _ => N - (intOf i).toNat)
  case atStart => exact ⟨0, Nat.zero_le _, rfl, fun k hk => absurd hk (Nat.not_lt_zero k), H0.out⟩
  case round =>
    obtain ⟨j, hj, rfl, hno, hI⟩ := hrel
    have HNO := Lib.hid hno
    have HI := Lib.hid hI
    clear hno hI
    by_cases hlt : j < N
    · have HFC := Lib.hid (HF.out j wr hlt HI.out)
      cases hb : bad j with
      | true =>
        rw [hb] at HFC
        have HB := Lib.hid hb
        clear hb
        have HEN := he
        go_wp2_with fail
        refine HFC.out.mono ?_
        rintro e w2 ⟨rfl, -, hJ⟩
        have HJ := Lib.hid (hJ trivial)
        clear hJ
        go_wp2_with fail
        go_ret
        exact ⟨true, rfl, fun _ => ⟨⟨j, hlt, HB.out⟩, HJ.out⟩, fun h => (by cases h)⟩
      | false =>
        rw [hb] at HFC
        have HB := Lib.hid hb
        clear hb
        have HEN := he
        go_wp2_with fail
        refine HFC.out.mono ?_
        rintro e w2 ⟨rfl, hI, -⟩
        have HI2 := Lib.hid (hI trivial)
        clear hI
        go_wp2_with fail
        go_roundw
        case rel =>
          refine ⟨j + 1, by omega, by go_num, fun k hk => ?_, HI2.out⟩
          by_cases hkj : k < j
          · exact HNO.out k hkj
          · have : k = j := by omega
            rw [this]; exact HB.out
        case measure => simp [intOf]; omega
    · have e : j = N := by omega
      subst e
      clear hlt hj
      go_wp2_with fail
      go_ret
      exact ⟨false, rfl, fun h => (by cases h), fun _ => ⟨HNO.out, HI.out⟩⟩

set_option maxRecDepth 100000 in
theorem fault9_few (g N cap : Nat) (ao : Option Addr) (g' off i : Nat) (t : Int) (W : World) (hb : W.cell? ⟨g, 0, none⟩ = some (.slice ao N cap)) (hi : i < N) (_hN : N ≤ cap) (_hc : cap ≤ maxLen) (ha : ao = some ⟨g', off, none⟩) (ht : W.cell? ⟨g', off + i * 2 + 1, none⟩ = some (.int .i64 t)) :
    Calls Try.prog 40 #[.int .i64 i, .pointer (some ⟨g, 0, none⟩)] W fun e w' => e = .returned (.bool (decide (t < 1))) ∧ W = w' := by
  subst ha
  unfold maxLen at _hc
  go_enter Try.func40, Try.ntmps40
  go_wp2_with fail
  go_ret
  exact ⟨rfl, rfl⟩

set_option maxRecDepth 100000 in
theorem fault9_left (h g N cap : Nat) (ao : Option Addr) (g' off i : Nat) (t L : Int) (W : World) (hh : W.heap[h]? = some (.cells #[.int .i64 L] 3 (0, 0))) (hb : W.cell? ⟨g, 0, none⟩ = some (.slice ao N cap)) (hi : i < N) (_hN : N ≤ cap) (_hc : cap ≤ maxLen) (ha : ao = some ⟨g', off, none⟩) (ht : W.cell? ⟨g', off + i * 2 + 1, none⟩ = some (.int .i64 t)) (hL : 0 ≤ L ∧ L ≤ 4096) (h1 : 0 ≤ t ∧ t ≤ 9223372036854775807) :
    Calls Try.prog 41 #[.int .i64 i, .pointer (some ⟨h, 0, none⟩), .pointer (some ⟨g, 0, none⟩)] W fun e w' => e = .returned (.bool (decide (L - t < 0))) ∧ w'.heap[h]? = some (.cells #[.int .i64 (L - t)] 3 (0, 0)) ∧ OnlyP h W w' := by
  subst ha
  unfold maxLen at _hc
  have hk : W.cell? ⟨h, 0, none⟩ = some (.int .i64 L) := by simp [World.cell?, hh]
  have hfr : W.frozen? ⟨h, 0, none⟩ = false := by simp [World.frozen?, hh]
  have HH := Lib.hid hh
  clear hh
  go_enter Try.func41, Try.ntmps41
  go_wp2_with fail
  go_region
  go_wp2_with fail
  go_ret
  refine ⟨rfl, ?_, OnlyP.trans (OnlyP.set h 0 W (.int .i64 (L - t))) (OnlyP.of_ext (Ext.drew _))⟩
  show (W.setCell ⟨h, 0, none⟩ (.int .i64 (L - t))).heap[h]? = _
  simp [World.setCell, Array.getElem?_modify, HH.out]

theorem enters_few9 : ∀ args w, (callFunc 40 args).run Try.prog w = .ok (.enter 40 args) w := enters_of Try.func40 (by kernel_rfl) rfl
theorem enters_left9 : ∀ args w, (callFunc 41 args).run Try.prog w = .ok (.enter 41 args) w := enters_of Try.func41 (by kernel_rfl) rfl

/-- The run at an index (any run behind the last). -/
def runAt (rs : List Sp) (i : Nat) : Sp := rs.getD i ⟨0, 0⟩
theorem runAt_eq {rs : List Sp} {i : Nat} (h : i < rs.length) : runAt rs i = rs[i] := by
  unfold runAt
  rw [List.getD_eq_getElem?_getD, List.getElem?_eq_getElem h]
  rfl
theorem good_of {rs : List Sp} (h : ∀ i, i < rs.length → decide ((runAt rs i).t < 1) = false) : goodR rs := fun s hs => by
  obtain ⟨i, hi, rfl⟩ := List.getElem_of_mem hs
  have h1 := of_decide_eq_false (h i hi)
  rw [runAt_eq hi] at h1
  omega

set_option maxRecDepth 100000 in
set_option maxHeartbeats 1000000 in
theorem fault9_any (u : Value) (rs : List Sp) (w : World) (hrd : RdSp w u rs) (hfit : ∀ s ∈ rs, s.fits) :
    Calls Try.prog 29 #[u] w fun e w' => e = .returned (.int .i64 (flatS rs).2) ∧ Ext w w' := by
  have HRD := Lib.hid hrd
  have HFIT := Lib.hid hfit
  obtain ⟨ao, cap, rfl, h1, h2, hat, -⟩ := hrd
  have HAT := Lib.hid hat
  have HC := Lib.hid h2
  have HL := Lib.hid h1
  unfold maxLen at h2
  obtain ⟨N, hN⟩ : ∃ N, rs.length = N := ⟨_, rfl⟩
  rw [hN] at h1 HRD HL ⊢
  have HN := Lib.hid hN
  clear hat hfit hN
  go_enter Try.func29, Try.ntmps29
  go_wp2_with fail
  have HX1 := Lib.hid (ext_new w (.cells #[.slice ao N cap] 30))
  have HG1 := Lib.hid (show (w.alloc (.cells #[.slice ao N cap] 30)).heap[w.heap.size]? = some (.cells #[.slice ao N cap] 30 (0, 0)) from heap_alloc_new _ _)
  have HSZ1 := Lib.hid (show (w.alloc (.cells #[.slice ao N cap] 30)).heap.size = w.heap.size + 1 by simp)
  generalize w.alloc (.cells #[.slice ao N cap] 30) = W1 at HX1 HG1 HSZ1 ⊢
  obtain ⟨g, hg⟩ : ∃ g, w.heap.size = g := ⟨_, rfl⟩
  have HG := Lib.hid hg
  rw [hg] at HG1 HSZ1 ⊢
  clear hg
  have hbox : W1.cell? ⟨g, 0, none⟩ = some (.slice ao N cap) := by have h := HG1.out; simp [World.cell?, h]
  have HBOX := Lib.hid hbox
  refine (search9_any 40 #[.pointer (some ⟨g, 0, none⟩)] (fun _ W => W1 = W) (fun W => W1 = W) (fun i => decide ((runAt rs i).t < 1)) (.slice ao N cap) rs W1 (HRD.out.mono HX1.out) enters_few9 rfl (fun i W hi hW => ?_)).mono ?_
  · subst hW
    obtain ⟨g', off, ha, hx0, hx1⟩ := HAT.out i hi
    rw [runAt_eq hi]
    exact (fault9_few g N cap ao g' off i _ W1 HBOX.out (by have := HN.out; omega) HL.out HC.out ha ((HX1.out.cell (lt_of_cell hx1)).trans hx1)).mono fun e w' h => ⟨h.1, fun _ => h.2, fun _ => h.2⟩
  rintro e w2 ⟨b, rfl, hb1, hb0⟩
  cases b with
  | true =>
    obtain ⟨⟨i, hi, hbad⟩, rfl⟩ := hb1 rfl
    have HF := Lib.hid (show flatS rs = ([], 1) from flatS_bad fun hg => by
      have h := of_decide_eq_true hbad
      rw [runAt_eq hi] at h
      have := hg _ (List.getElem_mem hi)
      omega)
    clear hb1 hb0 hbad hi
    go_wp2_with fail
    go_ret
    exact ⟨by rw [HF.out]; rfl, HX1.out⟩
  | false =>
    obtain ⟨hgd, rfl⟩ := hb0 rfl
    have HGD := Lib.hid (good_of (by rw [HN.out]; exact fun i hi => hgd i (by rw [HN.out]; exact hi)))
    clear hb1 hb0 hgd
    have hbox2 : (W1.alloc (.cells #[.int .i64 4096] 3)).cell? ⟨g, 0, none⟩ = some (.slice ao N cap) := ((ext_new W1 _).cell (lt_of_cell hbox)).trans hbox
    go_wp2_with fail
    have HX2 := Lib.hid (Ext.trans HX1.out (ext_new W1 (.cells #[.int .i64 4096] 3)))
    have HG2 := Lib.hid (show (W1.alloc (.cells #[.int .i64 4096] 3)).heap[g]? = some (.cells #[.slice ao N cap] 30 (0, 0)) from ((ext_new W1 _).block g (by have := HSZ1.out; omega)).trans HG1.out)
    have HH2 := Lib.hid (show (W1.alloc (.cells #[.int .i64 4096] 3)).heap[W1.heap.size]? = some (.cells #[.int .i64 4096] 3 (0, 0)) from heap_alloc_new _ _)
    clear hbox2
    generalize W1.alloc (.cells #[.int .i64 4096] 3) = W2 at HX2 HG2 HH2 ⊢
    obtain ⟨h, hh⟩ : ∃ h, W1.heap.size = h := ⟨_, rfl⟩
    have HHG := Lib.hid (show w.heap.size ≤ h ∧ g ≠ h by have := HSZ1.out; have := HG.out; omega)
    rw [hh] at HH2 ⊢
    clear hh hbox
    refine (search9_any 41 #[.pointer (some ⟨h, 0, none⟩), .pointer (some ⟨g, 0, none⟩)] (fun i W => W.heap[h]? = some (.cells #[.int .i64 (4096 - sumR (rs.take i))] 3 (0, 0)) ∧ W.heap[g]? = some (.cells #[.slice ao N cap] 30 (0, 0)) ∧ Ext w W ∧ sumR (rs.take i) ≤ 4096) (fun W => Ext w W) (fun i => decide (4096 - sumR (rs.take i) - (runAt rs i).t < 0)) (.slice ao N cap) rs W2 (HRD.out.mono HX2.out) enters_left9 ⟨HH2.out, HG2.out, HX2.out, by rw [List.take_zero]; decide⟩ (fun i W hi hI => ?_)).mono ?_
    · obtain ⟨i1, i2, i3, i4⟩ := hI
      obtain ⟨g', off, ha, hx0, hx1⟩ := HAT.out i hi
      have hs := sumR_take_succ hi
      have hnn := sumR_nonneg (goodR_take HGD.out i)
      have hti := HGD.out _ (List.getElem_mem hi)
      have htf := (HFIT.out _ (List.getElem_mem hi)).t
      rw [runAt_eq hi]
      refine (fault9_left h g N cap ao g' off i rs[i].t (4096 - sumR (rs.take i)) W i1 (by simp [World.cell?, i2]) (by have := HN.out; omega) HL.out HC.out ha ((i3.cell (lt_of_cell hx1)).trans hx1) (by omega) (by omega)).mono ?_
      rintro e w' ⟨h1, h2, h3⟩
      have hext : Ext w w' := Below.trans i3 ((OnlyS.of_onlyP (X := fun b => b = h) h3 rfl).below i3.size (fun b hb => by rw [hb]; exact HHG.out.1))
      refine ⟨h1, fun hb => ⟨?_, ?_, hext, ?_⟩, fun _ => hext⟩
      · rw [h2, hs, show 4096 - (sumR (rs.take i) + rs[i].t) = 4096 - sumR (rs.take i) - rs[i].t by omega]
      · rw [h3.block g (Array.getElem?_eq_some_iff.1 i2).1 (fun e => HHG.out.2 (by simpa using e))]
        exact i2
      · have := of_decide_eq_false hb
        omega
    rintro e w2 ⟨b, rfl, hb1, hb0⟩
    cases b with
    | true =>
      obtain ⟨⟨i, hi, hbad⟩, hx⟩ := hb1 rfl
      have HX := Lib.hid hx
      have HF := Lib.hid (show flatS rs = ([], 3) from flatS_long HGD.out (by
        have h := of_decide_eq_true hbad
        rw [runAt_eq hi] at h
        have h2 := sumR_take_succ hi
        have h3 := sumR_take_le HGD.out (i + 1)
        omega))
      clear hb1 hb0 hbad hi hx
      go_wp2_with fail
      go_ret
      exact ⟨by rw [HF.out]; rfl, HX.out⟩
    | false =>
      obtain ⟨-, -, -, hx, hs⟩ := hb0 rfl
      have HX := Lib.hid hx
      have HF := Lib.hid (show flatS rs = (flat rs, 0) from flatS_ok HGD.out (by rw [List.take_of_length_le (Nat.le_refl _)] at hs; exact hs))
      clear hb1 hb0 hx hs
      go_wp2_with fail
      go_ret
      exact ⟨by rw [HF.out]; rfl, HX.out⟩

end Go.Proofs.Ythjkfkajkbaegaa
