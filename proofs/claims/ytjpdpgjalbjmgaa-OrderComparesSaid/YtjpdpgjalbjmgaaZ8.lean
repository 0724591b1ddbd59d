/-
  Texts of this proof, merged: OrdQ2, OrdQ3, OrdQ4, IntSet.
-/
import Derived.Shelf.Abstract
import Derived.Laws.EntriesVeiled
import Derived.Lib.AppendZeros
import Derived.Maps.OwnSet
import Derived.Test.YtjpdpgjalbjmgaaZ7
import Derived.Test.YtjpdpgjalbjmgaaZ2
import Derived.Test.YtjpdpgjalbjmgaaZ5
import Derived.Test.YtjpdpgjalbjmgaaZ4
import Derived.Test.YtjpdpgjalbjmgaaZ1
import Derived.Test.YtjpdpgjalbjmgaaZ3
/-
  The program's contracts of layer 15: rows are copied, and sorted.
-/
namespace Go.Proofs.Ytjpdpgjalbjmgaa
open Go.RowKit Go.BigFrame

set_option maxRecDepth 100000 in
set_option maxHeartbeats 1000000 in
theorem cloneRow_any (v : Value) (r : List V) (w : World) (hr : RdVals w v r) (hl : r.length ≤ 1000000) :
    Calls Try.prog 40 #[v] w fun e w' => (∃ o, e = .returned o ∧ OwnV w.heap.size w' o r) ∧ Ext w w' := by
  obtain ⟨ao, cap, rfl, h1, h2⟩ := hr.shape
  cases ao with
  | none =>
    have hl0 : r = [] := by
      obtain ⟨-, -, -, hc⟩ := hr.plain
      cases r with
      | nil => rfl
      | cons b t => obtain ⟨g, off, e, _⟩ := hc 0 (by simp); cases e
    subst hl0
    have hq : ∀ w, (binOp BinOp.eql 33 (.slice none 0 cap) (.slice none 0 0)).run Try.prog w = .ok (.bool true) w := fun w => Lib.run_eql_slice_nil w _ _ none 0 cap 0 0 Try.underlying33
    clear hr
    go_enter Try.func40, Try.ntmps40
    go_wp2_with fail
    go_ret
    exact ⟨⟨_, rfl, .inr ⟨rfl, none, 0, rfl, by simp [maxLen]⟩⟩, Ext.keeps.refl _⟩
  | some x =>
    have hq : ∀ w, (binOp BinOp.eql 33 (.slice (some x) r.length cap) (.slice none 0 0)).run Try.prog w = .ok (.bool false) w := fun w => Lib.run_eql_slice_nil w _ _ (some x) _ _ 0 0 Try.underlying33
    have HR := Lib.hid (hr.mono (ext_new w (.cells #[] 35)))
    clear hr
    generalize hN : r.length = N at *
    have HN := Lib.hid hN
    clear hN
    go_enter Try.func40, Try.ntmps40
    go_wp2_with (at_builtin; first
      | (refine wpList_append_vals rfl (.tmp 5) (.tmp 6) 33 rfl Try.underlying33 w.heap.size _ ([] : List V) _ r rfl (empty_vals w) rfl HR.out (by rw [HN.out]; simp; omega) (by simp) ?_
         intro v2 w2 hown2 hbel2 _
         rw [List.nil_append] at hown2
         have HO2 := Lib.hid hown2
         have HB2 := Lib.hid hbel2
         clear hown2 hbel2))
    go_ret
    exact ⟨⟨_, rfl, .inl HO2.out⟩, (show Below w.heap.size w _ from ext_new w _).trans HB2.out⟩

theorem make_rows (w : World) (n : Nat) (hn : n ≤ 1000000) : ∃ w', (Instr.makeSlice 22 (.int .i64 (n : Int)) (.int .i64 (n : Int))).run Try.prog w = .ok (.slice (some ⟨w.heap.size, 0, none⟩) n n) w' ∧ w'.ownsRow w.heap.size 33 1 (.slice (some ⟨w.heap.size, 0, none⟩) n n) n (List.replicate n (.slice none 0 0)) ∧ Ext w w' := by
  obtain ⟨i0, hi, hz0, hz1, hz2⟩ := info_parts Try.info_row
  obtain ⟨w', hrun, hown, hgrow⟩ := run_makeSlice_full (P := Try.prog) w w.heap.size 22 33 i0 (.slice none 0 0) 1 Try.underlying22 hi hz0 hz1 .i64 .i64 n (by omega) (by rw [hz2]; omega) (by unfold maxLen; omega) (Nat.le_refl _)
  refine ⟨w', hrun, ?_, ⟨hgrow.os, hgrow.tape, hgrow.output, hgrow.size, fun k hk => hgrow.block k hk (by simp)⟩⟩
  have e : (madeCells (Value.slice none 0 0).cells (n * 1)).toList = List.replicate n (.slice none 0 0) := by
    rw [Nat.mul_one]
    exact toList_madeCells_one _ _
  rwa [e] at hown

theorem set_made {ch : List Value} {j N : Nat} (hj : j < N) (hl : ch.length = j) (v : Value) : (ch ++ List.replicate (N - j) (Value.slice none 0 0)).set j v = (ch ++ [v]) ++ List.replicate (N - (j + 1)) (.slice none 0 0) := by
  obtain ⟨m, hm⟩ : ∃ m, N - j = m + 1 := ⟨N - j - 1, by omega⟩
  rw [hm, show N - (j + 1) = m by omega, List.replicate_succ, List.set_append_right _ _ (by omega), hl, Nat.sub_self, List.set_cons_zero, List.append_assoc]
  rfl


/-- Rows of one's own, copied. -/
def CpOwn (base : Nat) (w : World) (u : Value) (rs : List (List V)) : Prop := ∃ g N ch, base ≤ g ∧ u = .slice (some ⟨g, 0, none⟩) N N ∧ N = rs.length ∧ ch.length = N ∧ w.ownsRow g 33 1 u N ch ∧ CopyRows g w ch rs

set_option maxRecDepth 100000 in
set_option maxHeartbeats 4000000 in
theorem pCopied15_any (u : Value) (rs : List (List V)) (w : World) (hu : RdRV w u rs) (hrl : ∀ r ∈ rs, r.length ≤ 1000000) (hl : rs.length ≤ 200000) :
    Calls Try.prog 28 #[u] w fun e w' => (∃ o, e = .returned o ∧ CpOwn w.heap.size w' o rs) ∧ Ext w w' := by
  obtain ⟨ao, ca, rfl, -, -⟩ := hu.shape
  obtain ⟨fh, hfh, -, h1, h2, hat⟩ := hu.rd.heads
  have HAT := Lib.hid hat
  have HFH := Lib.hid hfh
  have HRL := Lib.hid hrl
  obtain ⟨N, hN⟩ : ∃ N, rs.length = N := ⟨_, rfl⟩
  have HN := Lib.hid hN
  rw [hN] at h1 hl ⊢
  unfold maxLen at h2
  have hmk := make_rows w N (by omega)
  obtain ⟨wm, hmr, hmo, hmx⟩ := hmk
  have HMO := Lib.hid hmo
  have HMX := Lib.hid hmx
  clear hu hat hfh hrl hN hmo hmx
  go_enter Try.func28, Try.ntmps28
  go_wp2_with fail
  clear hmr
  go_loopw [4, 5, 11] (fun _ _ i wr => ∃ (j : Nat) (ch : List Value), j ≤ N ∧ i = .int .i64 j ∧ ch.length = j ∧ wr.ownsRow w.heap.size 33 1 (.slice (some ⟨w.heap.size, 0, none⟩) N N) N (ch ++ List.replicate (N - j) (.slice none 0 0)) ∧ CopyRows w.heap.size wr ch (rs.take j) ∧ Ext w wr) (fun _ _ i _ => N - (intOf i).toNat)
  case atStart => exact ⟨0, [], Nat.zero_le _, rfl, rfl, HMO.out, CopyRows.nil _ _, HMX.out⟩
  case round =>
    obtain ⟨j, ch, hj, rfl, hcl, ho, hcr, hx⟩ := hrel
    have HCL := Lib.hid hcl
    have HO := Lib.hid ho
    have HCR := Lib.hid hcr
    have HX := Lib.hid hx
    clear hcl ho hcr hx
    by_cases hlt : j < N
    · have hjl : j < rs.length := by have := HN.out; omega
      obtain ⟨a1, a2, a3, ha, hra⟩ := HFH.out.get j hjl
      obtain ⟨g, off, rfl, c0⟩ := HAT.out j _ ha
      have x0 := (HX.out.cell (lt_of_cell c0)).trans c0
      have HTS := Lib.hid (List.take_succ_eq_append_getElem hjl)
      have HCLN := Lib.hid (cloneRow_any _ rs[j] wr (hra.mono HX.out) (HRL.out _ (List.getElem_mem hjl)))
      generalize rs[j] = r at HTS HCLN
      clear ha hra c0
      go_wp2_with fail
      refine HCLN.out.mono ?_
      rintro e w1 ⟨⟨o, rfl, ho⟩, x1⟩
      have HOV := Lib.hid ho
      have HX1 := Lib.hid x1
      obtain ⟨va, vc, hov⟩ : ∃ va vc, o = .slice va r.length vc := by
        obtain ⟨va, vc, e, -, -⟩ := ho.rd.shape
        exact ⟨va, vc, e⟩
      subst hov
      have HO1 := Lib.hid (owns_extS HO.out x1)
      have cG : ∃ q, w1.cell? ⟨w.heap.size, j, none⟩ = some q := ⟨_, (HO1.out.cellAt j (by omega)).trans (List.getElem?_eq_getElem (by rw [List.length_append, HCL.out, List.length_replicate]; omega))⟩
      obtain ⟨q, cG⟩ := cG
      have fG := HO1.out.frozenAt j
      have HSZ := Lib.hid HX.out.size
      have hGl : w.heap.size < w1.heap.size := (HO1.out.lt _ rfl).2
      have hwr : w.heap.size ≤ wr.heap.size := Nat.le_of_lt (HO.out.lt w.heap.size rfl).2
      have HST := Lib.hid ((HO1.out.stored j (.slice va r.length vc)).1)
      have HOS := Lib.hid (OnlyS.of_onlyP (X := fun k => (Value.slice (some ⟨w.heap.size, 0, none⟩) N N).ownBlock = some k) (OnlyP.set w.heap.size j w1 (.slice va r.length vc)) rfl)
      have HCR2 := Lib.hid ((((HCR.out.ext x1).append (CopyRows.one (HOV.out.base_le hwr))).beside HO1.out HOS.out))
      have HXF := Lib.hid (show Below w.heap.size w (w1.setCell ⟨w.heap.size, j, none⟩ (.slice va r.length vc)) from Below.setCell (show Below w.heap.size w w1 from Ext.trans HX.out x1) (Nat.le_refl _) _)
      rw [set_made hlt HCL.out] at HST
      rw [← HTS.out] at HCR2
      clear ho x1
      go_wp2_with fail
      go_roundw
      case rel => exact ⟨j + 1, _, by omega, by go_num, by rw [List.length_append, HCL.out]; rfl, HST.out, HCR2.out, HXF.out⟩
      case measure => simp [intOf]; omega
    · have hjN : j = N := by omega
      rw [hjN] at HO HCR HCL
      have HALL := Lib.hid (show rs.take N = rs from List.take_of_length_le (by have := HN.out; omega))
      rw [HALL.out] at HCR
      rw [Nat.sub_self, List.replicate_zero, List.append_nil] at HO
      rw [hjN]
      clear hjN HAT HFH
      go_wp2_with fail
      go_ret
      exact ⟨⟨_, rfl, w.heap.size, N, ch, Nat.le_refl _, rfl, HN.out.symm, HCL.out, HO.out, HCR.out⟩, HX.out⟩

theorem enters_sort1 : ∀ args w, (callFunc 30 args).run Try.prog w = .ok (.enter 30 args) w := enters_of Try.func30 (by kernel_rfl) rfl

theorem cmpRows_any (kb : Nat) (u v x : Value) (a b : List V) (ks : List Ky) (w : World) (hu : RdVals w u a) (hv : RdVals w v b) (hx : RdKs w x ks) (ha : FitR 5000 a) (hb : FitR 5000 b) (hk : w.cell? ⟨kb, 0, none⟩ = some x) :
    Calls Try.prog 30 #[u, v, .pointer (some ⟨kb, 0, none⟩)] w fun e w' => e = .returned (.int .i64 (cmpR ks a b)) ∧ Ext w w' := by
  have HC := Lib.hid (pCompareQ_any u v x a b ks w hu hv hx ha hb)
  obtain ⟨ko, kcap, rfl, -, -⟩ := hx.shape
  clear hu hv hx
  go_enter Try.func30, Try.ntmps30
  go_wp2_with fail
  refine HC.out.mono ?_
  rintro e w1 ⟨rfl, x1⟩
  have HX := Lib.hid x1
  clear x1
  go_wp2_with fail
  go_ret
  exact ⟨rfl, HX.out⟩

set_option maxRecDepth 100000 in
set_option maxHeartbeats 4000000 in
theorem pSortQ_any (u x : Value) (rs : List (List V)) (ks : List Ky) (w : World) (hu : RdRV w u rs) (hx : RdKs w x ks) (hf : FitL rs) (hl : rs.length ≤ 100000) :
    Calls Try.prog 13 #[u, x] w fun e w' => (∃ o, e = .returned o ∧ Cp w.heap.size w' o (sortS ks rs)) ∧ Ext w w' := by
  obtain ⟨ko, kcap, rfl, -, -⟩ := hx.shape
  have HKS := Lib.hid hx
  have HF := Lib.hid hf.1
  generalize ks.length = KN at HKS ⊢
  have HK0 := Lib.hid (row_new w [.slice ko KN kcap] 23 0 _ rfl)
  have HXK := Lib.hid (ext_new w (.cells #[.slice ko KN kcap] 23))
  have hGw : (w.alloc (.cells #[.slice ko KN kcap] 23)).heap.size = w.heap.size + 1 := by simp only [World.alloc, Array.size_push]
  have HCP := Lib.hid (pCopied15_any u rs (w.alloc (.cells #[.slice ko KN kcap] 23)) (hu.mono HXK.out) hf.2 (by omega))
  rw [hGw] at HCP
  have hmf : ∀ (fn : Fn) (first cap : Array Value) (w : World), (Instr.makeFunc fn first cap).run Try.prog w = .ok (.func fn first cap) w := fun _ _ _ _ => rfl
  clear hu hx hf hGw
  go_enter Try.func13, Try.ntmps13
  go_wp2_with fail
  refine HCP.out.mono ?_
  rintro e wr ⟨⟨o, rfl, g, N, ch, hg, rfl, hNr, hcl, ho, hcr⟩, x1⟩
  have HG := Lib.hid hg
  have HNR := Lib.hid hNr
  have HCL := Lib.hid hcl
  have HO := Lib.hid ho
  have HCR := Lib.hid hcr
  have HKB := Lib.hid ((x1.cell (lt_of_cell HK0.out)).trans HK0.out)
  have HX := Lib.hid (Ext.trans HXK.out x1)
  have hN : N ≤ 100000 := by omega
  clear hg hNr hcl ho hcr x1
  have HSORT := Lib.hid (sortStable_any 30 (.pointer (some ⟨w.heap.size, 0, none⟩)) (fun a b => cmpR ks (rowOf wr a) (rowOf wr b)) (fun a => a ∈ ch) g g N N wr
    ⟨(cmpR_pre ks).on (rowOf wr), enters_sort1, fun a b ha hb W hW => by
      obtain ⟨i, hi, rfl⟩ := List.mem_iff_getElem.1 ha
      obtain ⟨k, hk, rfl⟩ := List.mem_iff_getElem.1 hb
      have hir : i < rs.length := HCR.out.1 ▸ hi
      have hkr : k < rs.length := HCR.out.1 ▸ hk
      have p1 := HCR.out.2 i hi hir
      have p2 := HCR.out.2 k hk hkr
      rw [rowOf_eq p1.rd, rowOf_eq p2.rd]
      have hkW : W.cell? ⟨w.heap.size, 0, none⟩ = some (.slice ko KN kcap) := (OnlyS.of_onlyP (X := fun k => k = g) hW rfl).cell HKB.out (by have := HG.out; show ¬ w.heap.size = g; omega)
      have hkks : RdKs W (.slice ko KN kcap) ks := HKS.out.mono ((show Below w.heap.size w wr from HX.out).trans ((OnlyS.of_onlyP (X := fun k => k = g) hW rfl).below HX.out.size (fun b hb => by have := HG.out; omega)))
      exact cmpRows_any w.heap.size _ _ _ rs[i] rs[k] ks W (p1.onlyP HO.out rfl hW).rd (p2.onlyP HO.out rfl hW).rd hkks (HF.out _ (List.getElem_mem hir)) (HF.out _ (List.getElem_mem hkr)) hkW⟩ ch wr
    ⟨HCL.out, by omega, HO.out, OnlyP.refl _ _, fun a ha => ⟨ha, HCR.out.rd.shape a ha⟩⟩)
  go_wp2_with fail
  refine HSORT.out.mono ?_
  rintro e w2 ⟨rfl, s, hs, hst⟩
  have HCP2 := Lib.hid (show Cp w.heap.size w2 (.slice (some ⟨g, 0, none⟩) N N) (sortS ks rs) from by
    have hgb : w.heap.size ≤ g := by have := HG.out; omega
    have h4 := HCR.out.sorted HO.out rfl hst.only hs
    refine ⟨s, .inl ?_, h4.base_le hgb⟩
    have h6 := Joins.ownsRow_le hst.own hgb
    rw [hst.len]
    exact h6)
  have HXF := Lib.hid (show Below w.heap.size w w2 from (show Below w.heap.size w wr from HX.out).trans ((OnlyS.of_onlyP (X := fun k => k = g) hst.only rfl).below HX.out.size (fun b hb => by have := HG.out; omega)))
  clear hs hst
  go_wp2_with fail
  go_ret
  exact ⟨⟨_, rfl, HCP2.out⟩, HXF.out⟩

end Go.Proofs.Ytjpdpgjalbjmgaa

/-
  The program's contracts of layer 15: are rows in order.
-/
namespace Go.Proofs.Ytjpdpgjalbjmgaa
open Go.RowKit Go.BigFrame

theorem enters_sorted1 : ∀ args w, (callFunc 32 args).run Try.prog w = .ok (.enter 32 args) w := enters_of Try.func32 (by kernel_rfl) rfl

theorem cmpRowsS_any (kb : Nat) (u v x : Value) (a b : List V) (ks : List Ky) (w : World) (hu : RdVals w u a) (hv : RdVals w v b) (hx : RdKs w x ks) (ha : FitR 5000 a) (hb : FitR 5000 b) (hk : w.cell? ⟨kb, 0, none⟩ = some x) :
    Calls Try.prog 32 #[u, v, .pointer (some ⟨kb, 0, none⟩)] w fun e w' => e = .returned (.int .i64 (cmpR ks a b)) ∧ Ext w w' := by
  have HC := Lib.hid (pCompareQ_any u v x a b ks w hu hv hx ha hb)
  obtain ⟨ko, kcap, rfl, -, -⟩ := hx.shape
  clear hu hv hx
  go_enter Try.func32, Try.ntmps32
  go_wp2_with fail
  refine HC.out.mono ?_
  rintro e w1 ⟨rfl, x1⟩
  have HX := Lib.hid x1
  clear x1
  go_wp2_with fail
  go_ret
  exact ⟨rfl, HX.out⟩

set_option maxRecDepth 100000 in
set_option maxHeartbeats 2000000 in
theorem isSortedFunc_any (kb : Nat) (u x : Value) (rs : List (List V)) (ks : List Ky) (w : World) (hu : RdRV w u rs) (hx : RdKs w x ks) (hf : FitRs 5000 rs) (hk : w.cell? ⟨kb, 0, none⟩ = some x) :
    Calls Try.prog 31 #[u, .func (.func 32) #[] #[.pointer (some ⟨kb, 0, none⟩)]] w fun e w' => e = .returned (.bool (sortedR ks rs)) ∧ Ext w w' := by
  obtain ⟨ao, ca, rfl, -, -⟩ := hu.shape
  obtain ⟨as', ha1, -, h1, h2, hca⟩ := hu.rd.heads
  have HA := Lib.hid hca
  have HHA := Lib.hid ha1
  have HEN := enters_sorted1
  have HC := Lib.hid (fun a b u v W (h : Ext w W) (hu : RdVals W u a) (hv : RdVals W v b) (ha : a ∈ rs) (hb : b ∈ rs) => cmpRowsS_any kb u v x a b ks W hu hv (hx.mono h) (hf a ha) (hf b hb) ((h.cell (lt_of_cell hk)).trans hk))
  unfold maxLen at h2
  obtain ⟨N, hN⟩ : ∃ N, rs.length = N := ⟨_, rfl⟩
  have HN := Lib.hid hN
  rw [hN] at h1 ⊢
  clear hu hx hca ha1 hN hf hk
  by_cases h0 : N = 0
  · subst h0
    have HR := Lib.hid (show sortedR ks rs = true from by
      rw [List.eq_nil_of_length_eq_zero HN.out]
      exact decide_eq_true List.Pairwise.nil)
    go_enter Try.func31, Try.ntmps31
    go_wp2_with fail
    go_loopw [5] (fun i wr => i = .int .i64 (-1) ∧ wr = w) (fun _ _ => 0)
    case atStart => exact ⟨rfl, rfl⟩
    case round =>
      obtain ⟨rfl, rfl⟩ := hrel
      go_wp2_with fail
      go_ret
      exact ⟨by rw [HR.out]; rfl, Ext.keeps.refl _⟩
  · have e0 : (N : Int) - 1 = ((N - 1 : Nat) : Int) := by omega
    go_enter Try.func31, Try.ntmps31
    go_wp2_with fail
    go_loopw [5] (fun i wr => ∃ I : Nat, I < N ∧ i = .int .i64 I ∧ (∀ i, (h : i + 1 < rs.length) → I < i + 1 → cmpR ks (rs[i]'(by omega)) rs[i + 1] ≤ 0) ∧ Ext w wr) (fun i _ => (intOf i).toNat)
    case atStart => exact ⟨N - 1, by omega, by go_num, fun i h hi => by have := HN.out; omega, Ext.keeps.refl _⟩
    case round =>
      obtain ⟨I, hI, rfl, hs, hext⟩ := hrel
      have HS := Lib.hid hs
      have HE := Lib.hid hext
      clear hs hext e0
      by_cases hlt : 0 < I
      · have hil : I < rs.length := by have := HN.out; omega
        obtain ⟨a1, a2, a3, ha, hra⟩ := HHA.out.get (I - 1) (by omega)
        obtain ⟨b1, b2, b3, hb, hrb⟩ := HHA.out.get I hil
        obtain ⟨g, off, rfl, c0⟩ := HA.out (I - 1) _ ha
        obtain ⟨g', off', hgo, c1⟩ := HA.out I _ hb
        have hgo2 : g' = g ∧ off' = off := by simpa [eq_comm] using hgo
        obtain ⟨rfl, rfl⟩ := hgo2
        have e1 : (I : Int) - 1 = ((I - 1 : Nat) : Int) := by omega
        have d0 : decide ((I : Int) > 0) = true := decide_eq_true (by omega)
        have d0' : decide (I > 0) = true := decide_eq_true hlt
        have z0 : ∀ z : Later Ext wr.drew, z.val.cell? ⟨g', off' + (I - 1), none⟩ = some (.slice a1 a2 a3) := fun z => ((Ext.trans HE.out (Ext.trans (Ext.drew wr) z.ext)).cell (lt_of_cell c0)).trans c0
        have z1 : ∀ z : Later Ext wr.drew, z.val.cell? ⟨g', off' + I, none⟩ = some (.slice b1 b2 b3) := fun z => ((Ext.trans HE.out (Ext.trans (Ext.drew wr) z.ext)).cell (lt_of_cell c1)).trans c1
        have HCC := Lib.hid (HC.out _ _ _ _ wr.drew (Ext.trans HE.out (Ext.drew wr)) (hrb.mono (Ext.trans HE.out (Ext.drew wr))) (hra.mono (Ext.trans HE.out (Ext.drew wr))) (List.getElem_mem _) (List.getElem_mem _))
        have HNEG := Lib.hid (show cmpR ks (rs[I - 1]'(by omega)) rs[I] = -cmpR ks rs[I] (rs[I - 1]'(by omega)) from (cmpR_pre ks).neg _ _)
        have HNX := Lib.hid (show ¬ cmpR ks rs[I] (rs[I - 1]'(by omega)) < 0 → ∀ i, (h : i + 1 < rs.length) → I - 1 < i + 1 → cmpR ks (rs[i]'(by omega)) rs[i + 1] ≤ 0 from fun hc i h hi => by
          by_cases e : i + 1 = I
          · subst e
            have := HNEG.out
            simp only [Nat.add_sub_cancel] at hc this
            omega
          · exact HS.out i h (by omega))
        have HNO := Lib.hid (show cmpR ks rs[I] (rs[I - 1]'(by omega)) < 0 → sortedR ks rs = false from fun hc => decide_eq_false fun h => by
          have h := (OrdPure.rising_iff rs).1 h (I - 1) I (by omega) hil
          have := HNEG.out
          omega)
        generalize cmpR ks rs[I] (rs[I - 1]'(by omega)) = C at HCC HNX HNO
        clear hra hrb ha hb c0 c1 hgo HNEG
        by_cases hC : C < 0
        · have HR := Lib.hid (HNO.out hC)
          have d1 : decide (C < 0) = true := decide_eq_true hC
          clear hC
          go_wp2_with fail
          refine wp_region_segs Ext Ext.keeps [([0, 1, 2, 3, 4, 5, 6, 7, 8, 9], some 10), ([11], none)] (by kernel_rfl) (by kernel_rfl) (fun c a a' w e h => (by exact ⟨e ▸ h.1, h.2⟩)) ?_
          simp only [pickSegs, pickOps, List.map_cons, List.map_nil, Option.map_some, Option.map_none, Option.getD_some, List.getElem?_toArray, List.getElem?_cons_zero, List.getElem?_cons_succ]
          refine wpSegs_some fun K' hK' => ?_
          repeat go_big_quiet_step (fail)
          refine wpQuiet_nil ?_
          clear z0 z1
          go_wp2_with fail
          refine (HCC.out).mono ?_
          rintro e w3 ⟨rfl, hx3⟩
          have HX3 := Lib.hid hx3
          clear hx3
          go_wp2_with fail
          refine ⟨HX3.out, hK' _ _ ?_⟩
          clear hK' K'
          refine wpSegs_none ?_
          repeat go_big_quiet_step (fail)
          refine wpQuiet_nil (wpSegs_nil ?_)
          go_wp2_with fail
          go_ret
          exact ⟨by rw [HR.out]; rfl, Ext.trans HE.out (Ext.trans (Ext.drew wr) HX3.out)⟩
        · have HR := Lib.hid (HNX.out hC)
          have d1 : decide (C < 0) = false := decide_eq_false hC
          clear hC
          go_wp2_with fail
          refine wp_region_segs Ext Ext.keeps [([0, 1, 2, 3, 4, 5, 6, 7, 8, 9], some 10), ([11], none)] (by kernel_rfl) (by kernel_rfl) (fun c a a' w e h => (by exact ⟨e ▸ h.1, h.2⟩)) ?_
          simp only [pickSegs, pickOps, List.map_cons, List.map_nil, Option.map_some, Option.map_none, Option.getD_some, List.getElem?_toArray, List.getElem?_cons_zero, List.getElem?_cons_succ]
          refine wpSegs_some fun K' hK' => ?_
          repeat go_big_quiet_step (fail)
          refine wpQuiet_nil ?_
          clear z0 z1
          go_wp2_with fail
          refine (HCC.out).mono ?_
          rintro e w3 ⟨rfl, hx3⟩
          have HX3 := Lib.hid hx3
          clear hx3
          go_wp2_with fail
          refine ⟨HX3.out, hK' _ _ ?_⟩
          clear hK' K'
          refine wpSegs_none ?_
          repeat go_big_quiet_step (fail)
          refine wpQuiet_nil (wpSegs_nil ?_)
          go_wp2_with fail
          go_roundw
          case rel => exact ⟨I - 1, by omega, by go_num, HR.out, Ext.trans HE.out (Ext.trans (Ext.drew wr) HX3.out)⟩
          case measure => simp [intOf]; omega
      · have HR := Lib.hid (show sortedR ks rs = true from decide_eq_true ((sortedR_iff ks rs).2 fun i h => HS.out i h (by omega)))
        have d0 : decide ((I : Int) > 0) = false := decide_eq_false (by omega)
        have d0' : decide (I > 0) = false := decide_eq_false hlt
        go_wp2_with fail
        go_ret
        exact ⟨by rw [HR.out]; rfl, HE.out⟩

theorem pSortedQ_any (u x : Value) (rs : List (List V)) (ks : List Ky) (w : World) (hu : RdRV w u rs) (hx : RdKs w x ks) (hf : FitL rs) :
    Calls Try.prog 16 #[u, x] w fun e w' => e = .returned (.bool (sortedR ks rs)) ∧ Ext w w' := by
  obtain ⟨ko, kcap, rfl, -, -⟩ := hx.shape
  have HX := Lib.hid (ext_new w (.cells #[.slice ko ks.length kcap] 23))
  have HC := Lib.hid (isSortedFunc_any w.heap.size u _ rs ks (w.alloc (.cells #[.slice ko ks.length kcap] 23)) (hu.mono HX.out) (hx.mono HX.out) hf.1 (row_new w [.slice ko ks.length kcap] 23 0 _ rfl))
  have hmf : ∀ (fn : Fn) (first cap : Array Value) (w : World), (Instr.makeFunc fn first cap).run Try.prog w = .ok (.func fn first cap) w := fun _ _ _ _ => rfl
  generalize ks.length = KN at HX HC ⊢
  clear hu hx hf
  go_enter Try.func16, Try.ntmps16
  go_wp2_with fail
  refine HC.out.mono ?_
  rintro e w1 ⟨rfl, x1⟩
  have HX1 := Lib.hid (Ext.trans HX.out x1)
  clear x1
  go_wp2_with fail
  go_ret
  exact ⟨rfl, HX1.out⟩

end Go.Proofs.Ytjpdpgjalbjmgaa

/-
  The program's contracts of layer 15: two lists of rows as one.
-/
namespace Go.Proofs.Ytjpdpgjalbjmgaa
open Go.RowKit Go.BigFrame

theorem size_zeroHeads (n : Nat) : (Builtin.zeroCells #[Value.slice none 0 0] n).size = n := by
  simp [Builtin.zeroCells]

set_option maxRecDepth 100000 in
set_option maxHeartbeats 400000 in
theorem growRows_any (n : Nat) (w : World) (hn : n ≤ 1000000) :
    Calls Try.prog 42 #[.slice none 0 0, .int .i64 n] w fun e w' => (∃ v, e = .returned v ∧ w'.ownsRow w.heap.size 33 1 v 0 []) ∧ Ext w w' := by
  obtain ⟨i1, hi1, hy0, hy1, hy2⟩ := info_parts Try.info_row
  by_cases h0 : n = 0
  · subst h0
    go_enter Try.func42, Try.ntmps42
    go_wp2_with fail
    go_ret
    exact ⟨⟨_, rfl, owns_nil _ _ _ _⟩, Ext.keeps.refl _⟩
  · have hz := Lib.run_append_nil_zeros (P := Try.prog) w 22 3 22 33 i1 (.slice none 0 0) .i64 .i64 Try.underlying22 Try.underlying3 hi1 hy0 n (by omega) (by omega) (by omega) (by rw [hy2]; omega)
    have HZ := Lib.hid hz
    have hcap := Lib.hid (grownCap_ge w n 0 33)
    have hcap2 := Lib.hid (grownCap_le_maxLen w n 0 33 (by unfold maxLen; omega))
    have hpos : decide (0 < (n : Int)) = true := decide_eq_true (by omega)
    clear hz
    generalize grownCap w n 0 33 = C at HZ hcap hcap2
    go_enter Try.func42, Try.ntmps42
    go_wp2_with (at_builtin; go_loud (refine Lib.wpList_append_run _ rfl (.tmp 20) (.tmp 21) 22 3 rfl _ _ rfl rfl _ _ HZ.out ?_))
    go_ret
    have h1 := hcap.out
    refine ⟨⟨_, rfl, ?_⟩, Ext.trans (Ext.drew _) (ext_new _ _)⟩
    refine ⟨rfl, .inr ⟨w.heap.size, C, _, rfl, Nat.le_refl _, heap_alloc_new w.drew _, Nat.zero_le _, hcap2.out, ?_, by simp⟩⟩
    rw [Array.size_append, size_zeroHeads, size_zeroHeads]
    omega

/-- How many heads the first so many lists hold. -/
def totH (ls : List (List Value)) (k : Nat) : Nat := (ls.take k).flatten.length
theorem totH_step (ls : List (List Value)) (k : Nat) (h : k < ls.length) : totH ls (k + 1) = totH ls k + ls[k].length := by
  unfold totH
  rw [List.take_succ_eq_append_getElem h, List.flatten_append, List.length_append]
  simp
theorem flatH_step (ls : List (List Value)) (k : Nat) (h : k < ls.length) : (ls.take (k + 1)).flatten = (ls.take k).flatten ++ ls[k] := by
  rw [List.take_succ_eq_append_getElem h, List.flatten_append]
  simp
theorem totH_le (ls : List (List Value)) (k : Nat) : totH ls k ≤ ls.flatten.length := by
  unfold totH
  conv => rhs; rw [← List.take_append_drop k ls]
  rw [List.flatten_append, List.length_append]
  omega

set_option maxRecDepth 100000 in
set_option maxHeartbeats 1000000 in
/-- Lists of heads, one behind the other, as a row of the call's own. -/
theorem concatRows_any (x : Addr) (N cap : Nat) (vs : List Value) (ls : List (List Value)) (w : World) (hN : N = ls.length) (hv : vs.length = ls.length) (hcap : N ≤ cap) (hcap2 : cap ≤ 9223372036854775807)
    (hc : ∀ (i : Nat) u, vs[i]? = some u → w.cell? (x.add i) = some u) (hr : ∀ (i : Nat) u l, vs[i]? = some u → ls[i]? = some l → RdV w u l ∧ ∀ z ∈ l, z.oneCell' = true) (hl : ls.flatten.length ≤ 1000000) :
    Calls Try.prog 34 #[.slice (some x) N cap] w fun e w' => (∃ v, e = .returned v ∧ w'.ownsRow w.heap.size 33 1 v ls.flatten.length ls.flatten) ∧ Ext w w' := by
  obtain ⟨i1, hi1, hy0, hy1, hy2⟩ := info_parts Try.info_row
  have HC := Lib.hid hc
  have HR := Lib.hid hr
  have HV := Lib.hid hv
  have HN := Lib.hid hN
  have HL := Lib.hid hl
  clear hc hr hv hN hl
  go_enter Try.func34, Try.ntmps34
  go_wp2_with fail
  go_loop [3, 11] (fun n i => ∃ k : Nat, k ≤ N ∧ i = .int .i64 k ∧ n = .int .i64 (totH ls k)) (fun _ i => N - (intOf i).toNat)
  case atStart => exact ⟨0, Nat.zero_le _, rfl, rfl⟩
  case round =>
    obtain ⟨k, hk, rfl, rfl⟩ := hrel
    have htl := totH_le ls k
    have htl2 := HL.out
    by_cases hlt : k < N
    · have hkl : k < ls.length := by have := HN.out; omega
      have hkv : k < vs.length := by have := HV.out; omega
      have hc := HC.out k _ (List.getElem?_eq_getElem hkv)
      have hrd := (HR.out k _ _ (List.getElem?_eq_getElem hkv) (List.getElem?_eq_getElem hkl)).1
      have HS := Lib.hid (totH_step ls k hkl)
      have hsl := totH_le ls (k + 1)
      rw [HS.out] at hsl
      generalize ls[k] = l at hrd HS hsl
      generalize vs[k] = u at hc hrd
      obtain ⟨a, cp, rfl, hs1, hs2, -⟩ := RdV.cellsAt hrd
      unfold maxLen at hs2
      have HRD := Lib.hid hrd
      generalize totH ls k = T at HS htl hsl ⊢
      have hneg : decide ((T : Int) + l.length < 0) = false := decide_eq_false (by omega)
      clear hrd
      go_wp2_with fail
      go_round
      case rel => exact ⟨k + 1, by omega, by go_num, by rw [HS.out]; go_num⟩
      case measure => simp [intOf]; omega
    · have hkN : k = N := by omega
      subst hkN
      have hT : totH ls k = ls.flatten.length := by unfold totH; rw [List.take_of_length_le (by have := HN.out; omega)]
      have HT := Lib.hid hT
      generalize totH ls k = T at HT htl ⊢
      clear hT hlt
      go_wp2_with fail
      refine (growRows_any T w (by omega)).mono ?_
      rintro e w1 ⟨⟨v1, rfl, ho1⟩, hb1⟩
      have HO1 := Lib.hid ho1
      have HB1 := Lib.hid hb1
      clear ho1 hb1
      go_wp2_with fail
      go_loopw [6, 27] (fun r i wr => ∃ j : Nat, j ≤ k ∧ i = .int .i64 j ∧ wr.ownsRow w.heap.size 33 1 r (totH ls j) ((ls.take j).flatten) ∧ Below w.heap.size w wr) (fun _ i _ => k - (intOf i).toNat)
      case atStart => exact ⟨0, Nat.zero_le _, rfl, HO1.out, HB1.out⟩
      case round =>
        obtain ⟨j, hj, rfl, hor, hbr⟩ := hrel
        have HOR := Lib.hid hor
        have HBR := Lib.hid hbr
        clear hor hbr
        by_cases hjlt : j < k
        · have hkl : j < ls.length := by have := HN.out; omega
          have hkv : j < vs.length := by have := HV.out; omega
          have hc0 := HC.out j _ (List.getElem?_eq_getElem hkv)
          have hc : wr.cell? (x.add j) = some vs[j] := (HBR.out.cell (lt_of_cell hc0)).trans hc0
          have hrd0 := HR.out j _ _ (List.getElem?_eq_getElem hkv) (List.getElem?_eq_getElem hkl)
          have hrd := hrd0.1.mono HBR.out
          have HBV := Lib.hid hrd0.2
          have HS := Lib.hid (totH_step ls j hkl)
          have HFS := Lib.hid (flatH_step ls j hkl)
          have hsl := totH_le ls (j + 1)
          rw [HS.out] at hsl
          clear hc0 hrd0
          generalize ls[j] = l at hrd HS hsl HFS HBV
          generalize vs[j] = u at hc hrd
          obtain ⟨a, cp, rfl, hs1, hs2, -⟩ := RdV.cellsAt hrd
          have HRD := Lib.hid hrd
          have hsz := HBR.out.size
          have HLL := Lib.hid (show totH ls j + l.length ≤ 1000000 by omega)
          generalize (ls.take j).flatten = pre at HOR HFS
          generalize totH ls j = T at HS hsl HLL HOR
          clear hrd
          go_wp2_with (at_builtin; go_loud (refine wpList_append_rd rfl (.tmp 31) (.tmp 32) 22 rfl w.heap.size 33 i1 (.slice none 0 0) 24 Try.underlying22 hi1 hy0 hy1 hy2 rfl _ _ _ rfl HOR.out _ _ rfl HRD.out HBV.out (by have := HLL.out; unfold maxLen; omega) (by have := HLL.out; omega) hsz ?_); intro v2 w2 hown2 hgrow2; have HOW := Lib.hid hown2; have HGR := Lib.hid hgrow2; clear hown2 hgrow2)
          go_roundw
          case rel =>
            refine ⟨j + 1, by omega, by go_num, ?_, HBR.out.grown HGR.out hsz (fun b hb => (HOR.out.lt b hb).1)⟩
            rw [HS.out, HFS.out]
            exact HOW.out
          case measure => simp [intOf]; omega
        · have hjk : j = k := by omega
          subst hjk
          have HFL := Lib.hid (show (ls.take j).flatten = ls.flatten ∧ totH ls j = ls.flatten.length by
            unfold totH
            rw [List.take_of_length_le (by have := HN.out; omega)]
            exact ⟨rfl, rfl⟩)
          clear hjlt
          go_wp2_with fail
          go_ret
          refine ⟨⟨_, rfl, ?_⟩, HBR.out⟩
          rw [← HFL.out.2, ← HFL.out.1]
          exact HOR.out

theorem FitL.merge {xs ys : List (List V)} (h : FitL xs) (h' : FitL ys) (ks : List Ky) : FitL (OrdPure.mergeS (cmpR ks) xs ys) :=
  ⟨fun r hr => ((OrdPure.mergeS_mem xs ys r).1 hr).elim (h.1 r) (h'.1 r), fun r hr => ((OrdPure.mergeS_mem xs ys r).1 hr).elim (h.2 r) (h'.2 r)⟩
theorem CpOwn.cp {base base' : Nat} {w : World} {u : Value} {rs : List (List V)} (h : CpOwn base w u rs) (hb : base' ≤ base) : Cp base' w u rs := by
  obtain ⟨g, N, ch, hg, rfl, hN, hcl, ho, hc⟩ := h
  refine ⟨ch, .inl ?_, hc.base_le (Nat.le_trans hb hg)⟩
  rw [hcl]
  exact Joins.ownsRow_le ho (Nat.le_trans hb hg)

set_option maxRecDepth 100000 in
set_option maxHeartbeats 4000000 in
theorem pMergeQ_any (u v x : Value) (xs ys : List (List V)) (ks : List Ky) (w : World) (hu : RdRV w u xs) (hv : RdRV w v ys) (hx : RdKs w x ks) (hfx : FitL xs) (hfy : FitL ys) (hl : xs.length + ys.length ≤ 100000) :
    Calls Try.prog 20 #[u, v, x] w fun e w' => (∃ o, e = .returned o ∧ Cp w.heap.size w' o (OrdPure.mergeS (cmpR ks) xs ys)) ∧ Ext w w' := by
  obtain ⟨i1, hi1, hy0, hy1, hy2⟩ := info_parts Try.info_row
  obtain ⟨ao, ca, rfl, -, -⟩ := hu.shape
  obtain ⟨bo, cb, rfl, -, -⟩ := hv.shape
  obtain ⟨ko, kcap, rfl, -, -⟩ := hx.shape
  have HC := Lib.hid (fun a b u v W (h : Ext w W) (hu : RdVals W u a) (hv : RdVals W v b) (ha : FitR 5000 a) (hb : FitR 5000 b) => pCompareQ_any u v _ a b ks W hu hv (hx.mono h) ha hb)
  have HCP := Lib.hid (fun u W (hu : RdRV W u (OrdPure.mergeS (cmpR ks) xs ys)) => pCopied15_any u (OrdPure.mergeS (cmpR ks) xs ys) W hu (hfx.merge hfy ks).2 (by rw [OrdPure.mergeS_length]; omega))
  generalize ks.length = KN at HC ⊢
  have HU := Lib.hid hu
  have HV := Lib.hid hv
  have HFX := Lib.hid hfx.1
  have HFY := Lib.hid hfy.1
  obtain ⟨A0, hA0⟩ : ∃ A0, xs.length = A0 := ⟨_, rfl⟩
  obtain ⟨B0, hB0⟩ : ∃ B0, ys.length = B0 := ⟨_, rfl⟩
  have HA0 := Lib.hid hA0
  have HB0 := Lib.hid hB0
  rw [hA0, hB0] at hl
  rw [hA0] at HU ⊢
  rw [hB0] at HV ⊢
  clear hu hv hx hfx hfy hA0 hB0
  go_enter Try.func20, Try.ntmps20
  go_wp2_with fail
  go_loopw [0, 1, 7] (fun a b o wr => ∃ (A B ca cb : Nat) (ao bo : Option Addr) (X Y out : List (List V)) (oh : List Value), a = .slice ao A ca ∧ b = .slice bo B cb ∧ X.length = A ∧ Y.length = B ∧ oh.length + A + B ≤ 100000 ∧ RdRV w (.slice ao A ca) X ∧ RdRV w (.slice bo B cb) Y ∧ FitRs 5000 X ∧ FitRs 5000 Y ∧ wr.ownsRow w.heap.size 33 1 o oh.length oh ∧ HdRows w oh out ∧ OrdPure.mergeS (cmpR ks) xs ys = out ++ OrdPure.mergeS (cmpR ks) X Y ∧ Ext w wr) (fun a b _ _ => (match a with | .slice _ n _ => n | _ => 0) + (match b with | .slice _ n _ => n | _ => 0))
  case atStart => exact ⟨A0, B0, ca, cb, ao, bo, xs, ys, [], [], rfl, rfl, HA0.out, HB0.out, by simp; omega, HU.out, HV.out, HFX.out, HFY.out, owns_nil _ _ _ _, HdRows.nil _, by rw [List.nil_append], Ext.keeps.refl _⟩
  case round =>
    obtain ⟨A, B, ca, cb, ao, bo, X, Y, out, oh, rfl, rfl, hXl, hYl, hsz, hX, hY, hfX, hfY, ho, hh, hm, hext⟩ := hrel
    have HX := Lib.hid hX
    have HY := Lib.hid hY
    have HFX2 := Lib.hid hfX
    have HFY2 := Lib.hid hfY
    have HO := Lib.hid ho
    have HH := Lib.hid hh
    have HM := Lib.hid hm
    have HE := Lib.hid hext
    have HXL := Lib.hid hXl
    have HYL := Lib.hid hYl
    clear hX hY hfX hfY ho hh hm hext hXl hYl
    by_cases hA : 0 < A
    · have a0 : decide ((A : Int) > 0) = true := decide_eq_true (by omega)
      have a0' : decide (A > 0) = true := decide_eq_true hA
      by_cases hB : 0 < B
      · have b0 : decide ((B : Int) > 0) = true := decide_eq_true (by omega)
        have b0' : decide (B > 0) = true := decide_eq_true hB
        obtain ⟨a1, a2, a3, g, off, r, X', ao', ca', rfl, rfl, c0, hr, hX', hsX⟩ := HX.out.cut hA
        obtain ⟨b1, b2, b3, g', off', s, Y', bo', cb', rfl, rfl, c1, hs, hY', hsY⟩ := HY.out.cut hB
        have x0 := (HE.out.cell (lt_of_cell c0)).trans c0
        have x1 := (HE.out.cell (lt_of_cell c1)).trans c1
        have z0 : ∀ z : Later Ext wr.drew, z.val.cell? ⟨g, off, none⟩ = some (.slice a1 a2 a3) := fun z => ((Ext.trans (Ext.drew wr) z.ext).cell (lt_of_cell x0)).trans x0
        have z1 : ∀ z : Later Ext wr.drew, z.val.cell? ⟨g', off', none⟩ = some (.slice b1 b2 b3) := fun z => ((Ext.trans (Ext.drew wr) z.ext).cell (lt_of_cell x1)).trans x1
        have HCC := Lib.hid (HC.out r s _ _ wr.drew (Ext.trans HE.out (Ext.drew wr)) (hr.mono (Ext.trans HE.out (Ext.drew wr))) (hs.mono (Ext.trans HE.out (Ext.drew wr))) (HFX2.out r (by simp)) (HFY2.out s (by simp)))
        have HMLE := Lib.hid (fun h => HM.out.trans (merge_cons_le (ks := ks) (out := out) (x := X') (y := Y') (r := r) (s := s) h))
        have HMGT := Lib.hid (fun h => HM.out.trans (merge_cons_gt (ks := ks) (out := out) (x := X') (y := Y') (r := r) (s := s) h))
        generalize cmpR ks r s = C at HCC HMLE HMGT
        have HHR := Lib.hid (HdRows.one hr)
        have HHS := Lib.hid (HdRows.one hs)
        have HX' := Lib.hid hX'
        have HY' := Lib.hid hY'
        have HK0 := Lib.hid (fun W (h : Below w.heap.size w W) => (h.cell (lt_of_cell c0)).trans c0)
        have HK1 := Lib.hid (fun W (h : Below w.heap.size w W) => (h.cell (lt_of_cell c1)).trans c1)
        clear hr hs hX' hY' c0 c1 x0 x1
        obtain ⟨oa, oc, rfl, ho1, ho2⟩ := own_shapeP HO.out
        unfold maxLen at ho2
        by_cases hC : C ≤ 0
        · have HML := Lib.hid (HMLE.out hC)
          have d1 : decide (C ≤ 0) = true := decide_eq_true hC
          clear hC
          go_wp2_with fail
          refine wp_region_segs Ext Ext.keeps [([0, 1, 2, 3, 4, 5, 6], some 7), ([8], none)] (by kernel_rfl) (by kernel_rfl) (fun c a a' w e h => (by exact ⟨e ▸ h.1, h.2⟩)) ?_
          simp only [pickSegs, pickOps, List.map_cons, List.map_nil, Option.map_some, Option.map_none, Option.getD_some, List.getElem?_toArray, List.getElem?_cons_zero, List.getElem?_cons_succ]
          refine wpSegs_some fun K' hK' => ?_
          repeat go_big_quiet_step (fail)
          refine wpQuiet_nil ?_
          clear z0 z1
          go_wp2_with fail
          refine (HCC.out).mono ?_
          rintro e w3 ⟨rfl, hx3⟩
          have HX3 := Lib.hid hx3
          clear hx3
          go_wp2_with fail
          refine ⟨HX3.out, hK' _ _ ?_⟩
          clear hK' K'
          refine wpSegs_none ?_
          repeat go_big_quiet_step (fail)
          refine wpQuiet_nil (wpSegs_nil ?_)
          have HX03 := Lib.hid (Ext.trans HE.out (Ext.trans (Ext.drew wr) HX3.out))
          have HO3 := Lib.hid (owns_extS HO.out (Ext.trans (Ext.drew wr) HX3.out))
          have hoh : oh.length ≤ 10000000 := by omega
          have k0 : ∀ z : Later (Below w.heap.size) w3.drew, z.val.cell? ⟨g, off, none⟩ = some (.slice a1 a2 a3) := fun z => HK0.out z.val ((show Below w.heap.size w w3 from HX03.out).trans ((Below.drew (Below.refl w.heap.size w3)).trans z.ext))
          have HO6 := Lib.hid (owns_extS HO3.out (Ext.drew w3))
          have HX6 := Lib.hid (show Below w.heap.size w w3.drew from (show Below w.heap.size w w3 from HX03.out).trans (Below.drew (Below.refl w.heap.size w3)))
          go_wp2_with fail
          refine wp_region_segs (Below w.heap.size) (Below.keepsD _) [([0, 1, 2, 3, 6, 7], some 4), ([], some 5), ([8, 9], none)] (by kernel_rfl) (by kernel_rfl) (fun c a a' w e h => (by exact ⟨e ▸ h.1, h.2⟩)) ?_
          simp only [pickSegs, pickOps, List.map_cons, List.map_nil, Option.map_some, Option.map_none, Option.getD_some, List.getElem?_toArray, List.getElem?_cons_zero, List.getElem?_cons_succ]
          refine wpSegs_some fun KK hKK => ?_
          repeat go_big_quiet_step (fail)
          refine wpQuiet_nil ?_
          clear k0
          generalize w3.drew = w6 at HO6 HX6 ⊢
          have HSZ6 := Lib.hid HX6.out.size
          go_wp2_with fail
          refine ⟨(Below.refl w.heap.size w6).alloc HSZ6.out _, hKK _ _ ?_⟩
          clear hKK KK
          refine wpSegs_some fun KK hKK => ?_
          refine wpQuiet_nil ?_
          go_wp2_with (at_builtin; go_must (refine wpList_append_own _ rfl (.tmp 25) (.tmp 29) 22 rfl w.heap.size 33 i1 (.slice none 0 0) 1 24 Try.underlying22 hi1 hy0 hy1 hy2 rfl (by decide) _ _ _ rfl (HO6.out.alloc _) ⟨w6.heap.size, 0, none⟩ 1 1 [.slice a1 a2 a3] rfl rfl (row_new _ _ _) (by simp [Value.oneCell']) (by unfold maxLen; omega) (by omega) (by have := HSZ6.out; simp; omega) ?_); intro v7 w7 hown7 hgrow7 _; have HO7 := Lib.hid hown7; have HB7 := Lib.hid ((Below.refl w.heap.size (w6.alloc (.cells #[.slice a1 a2 a3] 33))).grown hgrow7 (by have := HSZ6.out; simp; omega) (fun b hb => (HO6.out.lt b hb).1)); clear hown7 hgrow7)
          refine ⟨HB7.out, hKK _ _ ?_⟩
          clear hKK KK
          simp only [Act.put, List.setIfInBounds_toArray, List.set]
          refine wpSegs_none ?_
          repeat go_big_quiet_step (fail)
          refine wpQuiet_nil (wpSegs_nil ?_)
          have HX7 := Lib.hid (show Below w.heap.size w w7 from HX6.out.trans (((Below.refl w.heap.size w6).alloc HSZ6.out _).trans HB7.out))
          go_wp2_with fail
          go_roundw
          case rel => exact ⟨A - 1, B, ca', cb, ao', _, X', _, out ++ [r], oh ++ [.slice a1 a2 a3], rfl, rfl, by have := HXL.out; simp at this; omega, HYL.out, by simp; omega, HX'.out, HY.out, fun q hq => HFX2.out q (by simp [hq]), HFY2.out, by rw [List.length_append]; exact HO7.out, HH.out.append HHR.out, HML.out, HX7.out⟩
          case measure => simp; omega
        · have HMG := Lib.hid (HMGT.out hC)
          have d1 : decide (C ≤ 0) = false := decide_eq_false hC
          clear hC
          go_wp2_with fail
          refine wp_region_segs Ext Ext.keeps [([0, 1, 2, 3, 4, 5, 6], some 7), ([8], none)] (by kernel_rfl) (by kernel_rfl) (fun c a a' w e h => (by exact ⟨e ▸ h.1, h.2⟩)) ?_
          simp only [pickSegs, pickOps, List.map_cons, List.map_nil, Option.map_some, Option.map_none, Option.getD_some, List.getElem?_toArray, List.getElem?_cons_zero, List.getElem?_cons_succ]
          refine wpSegs_some fun K' hK' => ?_
          repeat go_big_quiet_step (fail)
          refine wpQuiet_nil ?_
          clear z0 z1
          go_wp2_with fail
          refine (HCC.out).mono ?_
          rintro e w3 ⟨rfl, hx3⟩
          have HX3 := Lib.hid hx3
          clear hx3
          go_wp2_with fail
          refine ⟨HX3.out, hK' _ _ ?_⟩
          clear hK' K'
          refine wpSegs_none ?_
          repeat go_big_quiet_step (fail)
          refine wpQuiet_nil (wpSegs_nil ?_)
          have HX03 := Lib.hid (Ext.trans HE.out (Ext.trans (Ext.drew wr) HX3.out))
          have HO3 := Lib.hid (owns_extS HO.out (Ext.trans (Ext.drew wr) HX3.out))
          have hoh : oh.length ≤ 10000000 := by omega
          have k1 : ∀ z : Later (Below w.heap.size) w3.drew, z.val.cell? ⟨g', off', none⟩ = some (.slice b1 b2 b3) := fun z => HK1.out z.val ((show Below w.heap.size w w3 from HX03.out).trans ((Below.drew (Below.refl w.heap.size w3)).trans z.ext))
          have HO6 := Lib.hid (owns_extS HO3.out (Ext.drew w3))
          have HX6 := Lib.hid (show Below w.heap.size w w3.drew from (show Below w.heap.size w w3 from HX03.out).trans (Below.drew (Below.refl w.heap.size w3)))
          go_wp2_with fail
          refine wp_region_segs (Below w.heap.size) (Below.keepsD _) [([0, 1, 2, 3, 6, 7], some 4), ([], some 5), ([8, 9], none)] (by kernel_rfl) (by kernel_rfl) (fun c a a' w e h => (by exact ⟨e ▸ h.1, h.2⟩)) ?_
          simp only [pickSegs, pickOps, List.map_cons, List.map_nil, Option.map_some, Option.map_none, Option.getD_some, List.getElem?_toArray, List.getElem?_cons_zero, List.getElem?_cons_succ]
          refine wpSegs_some fun KK hKK => ?_
          repeat go_big_quiet_step (fail)
          refine wpQuiet_nil ?_
          clear k1
          generalize w3.drew = w6 at HO6 HX6 ⊢
          have HSZ6 := Lib.hid HX6.out.size
          go_wp2_with fail
          refine ⟨(Below.refl w.heap.size w6).alloc HSZ6.out _, hKK _ _ ?_⟩
          clear hKK KK
          refine wpSegs_some fun KK hKK => ?_
          refine wpQuiet_nil ?_
          go_wp2_with (at_builtin; go_must (refine wpList_append_own _ rfl (.tmp 33) (.tmp 37) 22 rfl w.heap.size 33 i1 (.slice none 0 0) 1 24 Try.underlying22 hi1 hy0 hy1 hy2 rfl (by decide) _ _ _ rfl (HO6.out.alloc _) ⟨w6.heap.size, 0, none⟩ 1 1 [.slice b1 b2 b3] rfl rfl (row_new _ _ _) (by simp [Value.oneCell']) (by unfold maxLen; omega) (by omega) (by have := HSZ6.out; simp; omega) ?_); intro v7 w7 hown7 hgrow7 _; have HO7 := Lib.hid hown7; have HB7 := Lib.hid ((Below.refl w.heap.size (w6.alloc (.cells #[.slice b1 b2 b3] 33))).grown hgrow7 (by have := HSZ6.out; simp; omega) (fun b hb => (HO6.out.lt b hb).1)); clear hown7 hgrow7)
          refine ⟨HB7.out, hKK _ _ ?_⟩
          clear hKK KK
          simp only [Act.put, List.setIfInBounds_toArray, List.set]
          refine wpSegs_none ?_
          repeat go_big_quiet_step (fail)
          refine wpQuiet_nil (wpSegs_nil ?_)
          have HX7 := Lib.hid (show Below w.heap.size w w7 from HX6.out.trans (((Below.refl w.heap.size w6).alloc HSZ6.out _).trans HB7.out))
          go_wp2_with fail
          go_roundw
          case rel => exact ⟨A, B - 1, ca, cb', _, bo', _, Y', out ++ [s], oh ++ [.slice b1 b2 b3], rfl, rfl, HXL.out, by have := HYL.out; simp at this; omega, by simp; omega, HX.out, HY'.out, HFX2.out, fun q hq => HFY2.out q (by simp [hq]), by rw [List.length_append]; exact HO7.out, HH.out.append HHS.out, HMG.out, HX7.out⟩
          case measure => simp; omega
      · have b0 : decide ((B : Int) > 0) = false := decide_eq_false (by omega)
        have b0' : decide (B > 0) = false := decide_eq_false hB
        have HFIN := Lib.hid (show OrdPure.mergeS (cmpR ks) xs ys = out ++ X ++ Y from by
          rw [HM.out, show Y = [] from List.eq_nil_of_length_eq_zero (by have := HYL.out; omega), OrdPure.mergeS_nil_right, List.append_nil])
        obtain ⟨oa, oc, rfl, ho1, ho2⟩ := own_shapeP HO.out
        obtain ⟨xh, hx1, hx2⟩ := HX.out
        obtain ⟨yh, hy1', hy2'⟩ := HY.out
        have HXA := Lib.hid (ext_new wr (.cells #[.slice oa oh.length oc, .slice ao A ca, .slice bo B cb] 22))
        have HCT := Lib.hid (concatRows_any ⟨wr.heap.size, 0, none⟩ 3 3 [.slice oa oh.length oc, .slice ao A ca, .slice bo B cb] [oh, xh, yh] (wr.alloc (.cells #[.slice oa oh.length oc, .slice ao A ca, .slice bo B cb] 22)) rfl rfl (by decide) (by decide) (fun i u hu => row_new wr [.slice oa oh.length oc, .slice ao A ca, .slice bo B cb] 22 i u hu) (fun i u l hu hl' => by
          match i, hu, hl' with
          | 0, hu, hl' =>
            cases hu
            cases hl'
            exact ⟨(RdV.of_owns HO.out).mono HXA.out, HH.out.oneCell⟩
          | 1, hu, hl' =>
            cases hu
            cases hl'
            exact ⟨hx1.mono (Ext.trans HE.out HXA.out), hx2.oneCell⟩
          | 2, hu, hl' =>
            cases hu
            cases hl'
            exact ⟨hy1'.mono (Ext.trans HE.out HXA.out), hy2'.oneCell⟩
          | n + 3, hu, _ => simp at hu) (by have e1 := hx2.1; have e2 := hy2'.1; have e3 := HXL.out; have e4 := HYL.out; simp; omega))
        have HRDS := Lib.hid (show HdRows w [oh, xh, yh].flatten (OrdPure.mergeS (cmpR ks) xs ys) from by
          have e : [oh, xh, yh].flatten = oh ++ xh ++ yh := by simp
          rw [HFIN.out, e]
          exact (HH.out.append hx2).append hy2')
        have HSZA := Lib.hid (Ext.trans HE.out HXA.out).size
        clear hx1 hx2 hy1' hy2'
        go_wp2_with fail
        refine HCT.out.mono ?_
        rintro e w5 ⟨⟨o, rfl, ho5⟩, x5⟩
        have HE5 := Lib.hid (Ext.trans (Ext.trans HE.out HXA.out) x5)
        have HCP5 := Lib.hid (HCP.out o w5 ⟨_, RdV.of_owns ho5, HRDS.out.mono HE5.out⟩)
        clear ho5 x5
        go_wp2_with fail
        refine HCP5.out.mono ?_
        rintro e w6 ⟨⟨o6, rfl, hcp⟩, x6⟩
        have HC6 := Lib.hid (hcp.cp HE5.out.size)
        have HE6 := Lib.hid (Ext.trans HE5.out x6)
        clear hcp x6
        go_wp2_with fail
        go_ret
        exact ⟨⟨_, rfl, HC6.out⟩, HE6.out⟩
    · have a0 : decide ((A : Int) > 0) = false := decide_eq_false (by omega)
      have a0' : decide (A > 0) = false := decide_eq_false hA
      have HFIN := Lib.hid (show OrdPure.mergeS (cmpR ks) xs ys = out ++ X ++ Y from by
        rw [HM.out, show X = [] from List.eq_nil_of_length_eq_zero (by have := HXL.out; omega), OrdPure.mergeS_nil_left, List.append_nil])
      obtain ⟨oa, oc, rfl, ho1, ho2⟩ := own_shapeP HO.out
      obtain ⟨xh, hx1, hx2⟩ := HX.out
      obtain ⟨yh, hy1', hy2'⟩ := HY.out
      have HXA := Lib.hid (ext_new wr (.cells #[.slice oa oh.length oc, .slice ao A ca, .slice bo B cb] 22))
      have HCT := Lib.hid (concatRows_any ⟨wr.heap.size, 0, none⟩ 3 3 [.slice oa oh.length oc, .slice ao A ca, .slice bo B cb] [oh, xh, yh] (wr.alloc (.cells #[.slice oa oh.length oc, .slice ao A ca, .slice bo B cb] 22)) rfl rfl (by decide) (by decide) (fun i u hu => row_new wr [.slice oa oh.length oc, .slice ao A ca, .slice bo B cb] 22 i u hu) (fun i u l hu hl' => by
        match i, hu, hl' with
        | 0, hu, hl' =>
          cases hu
          cases hl'
          exact ⟨(RdV.of_owns HO.out).mono HXA.out, HH.out.oneCell⟩
        | 1, hu, hl' =>
          cases hu
          cases hl'
          exact ⟨hx1.mono (Ext.trans HE.out HXA.out), hx2.oneCell⟩
        | 2, hu, hl' =>
          cases hu
          cases hl'
          exact ⟨hy1'.mono (Ext.trans HE.out HXA.out), hy2'.oneCell⟩
        | n + 3, hu, _ => simp at hu) (by have e1 := hx2.1; have e2 := hy2'.1; have e3 := HXL.out; have e4 := HYL.out; simp; omega))
      have HRDS := Lib.hid (show HdRows w [oh, xh, yh].flatten (OrdPure.mergeS (cmpR ks) xs ys) from by
        have e : [oh, xh, yh].flatten = oh ++ xh ++ yh := by simp
        rw [HFIN.out, e]
        exact (HH.out.append hx2).append hy2')
      have HSZA := Lib.hid (Ext.trans HE.out HXA.out).size
      clear hx1 hx2 hy1' hy2'
      go_wp2_with fail
      refine HCT.out.mono ?_
      rintro e w5 ⟨⟨o, rfl, ho5⟩, x5⟩
      have HE5 := Lib.hid (Ext.trans (Ext.trans HE.out HXA.out) x5)
      have HCP5 := Lib.hid (HCP.out o w5 ⟨_, RdV.of_owns ho5, HRDS.out.mono HE5.out⟩)
      clear ho5 x5
      go_wp2_with fail
      refine HCP5.out.mono ?_
      rintro e w6 ⟨⟨o6, rfl, hcp⟩, x6⟩
      have HC6 := Lib.hid (hcp.cp HE5.out.size)
      have HE6 := Lib.hid (Ext.trans HE5.out x6)
      clear hcp x6
      go_wp2_with fail
      go_ret
      exact ⟨⟨_, rfl, HC6.out⟩, HE6.out⟩

end Go.Proofs.Ytjpdpgjalbjmgaa

/-
  A map from numbers to nothing that the call makes: the set of its keys.
-/
namespace Go.Proofs.Ytjpdpgjalbjmgaa
open Go.RowKit Go.BigFrame Go.Maps

theorem ukeyed : Keyed Try.prog 3 := int_keyed Try.underlying3
theorem wf_num {k : Int} (h : -9223372036854775808 ≤ k ∧ k ≤ 9223372036854775807) : (Lit.int .i64 k).wf = true := WalkArith.wf_i64 h
theorem zero_unit (w : World) : (zeroValue 53).run Try.prog w = .ok (.agg #[]) w := by kernel_rfl

/-- Block b is a map whose keys are just these numbers. -/
def USet (w : World) (b : Nat) (I : List Int) : Prop :=
  ∃ (n : Nat) (D : DataW Unit), w.ownsMap Try.prog 3 unitElem b n D ∧ n ≤ I.length ∧ ∀ k, -9223372036854775808 ≤ k ∧ k ≤ 9223372036854775807 → Maps.has D (.int .i64 k) = decide (k ∈ I)

theorem USet.made (w : World) : USet (w.alloc (.map #[] 0)) w.heap.size [] :=
  ⟨0, .map [], World.ownsMap_made _ _ _ _, Nat.le_refl _, fun _ _ => rfl⟩
theorem USet.lt {w : World} {b : Nat} {I : List Int} (h : USet w b I) : b < w.heap.size := by
  obtain ⟨n, D, h1, _⟩ := h
  exact h1.lt
theorem USet.same {w w' : World} {b : Nat} {I : List Int} (h : USet w b I) (hb : w'.heap[b]? = w.heap[b]?) : USet w' b I := by
  obtain ⟨n, D, ⟨es, clock, h1, h2⟩, h3⟩ := h
  exact ⟨n, D, ⟨es, clock, hb.trans h1, h2⟩, h3⟩
theorem USet.onlyS {X : Nat → Prop} {w w' : World} {b : Nat} {I : List Int} (h : USet w b I) (ho : OnlyS X w w') (hx : ¬ X b) : USet w' b I :=
  h.same (ho.block b h.lt hx)
theorem USet.ext {w w' : World} {b : Nat} {I : List Int} (h : USet w b I) (hx : Ext w w') : USet w' b I :=
  h.same (hx.block b h.lt)
theorem USet.look {w : World} {b : Nat} {I : List Int} (h : USet w b I) (k : Int) (hk : -9223372036854775808 ≤ k ∧ k ≤ 9223372036854775807) :
    (Instr.lookup 52 (.map (some b)) (.int .i64 k) true).run Try.prog w = .ok (.tuple #[.agg #[], .bool (decide (k ∈ I))]) w := by
  obtain ⟨n, D, h1, _, h4⟩ := h
  obtain ⟨v, ps, hrun, hv⟩ := h1.look_ok ukeyed Try.underlying52 (zero_unit w) unitElem_mk (keyOf_int_mk Try.underlying3 (wf_num hk))
  obtain ⟨rfl, -⟩ := unitElem_inv hv
  rw [hrun, h4 k hk]
theorem USet.add {w : World} {b : Nat} {I : List Int} (h : USet w b I) (k : Int) (hk : -9223372036854775808 ≤ k ∧ k ≤ 9223372036854775807) (hl : I.length < maxLen) :
    ∃ w', (Instr.mapUpdate 52 (.map (some b)) (.int .i64 k) (.agg #[])).run Try.prog w = .ok () w' ∧ USet w' b (I ++ [k]) ∧ OnlyS (fun x => x = b) w w' := by
  obtain ⟨n, D, h1, h2, h4⟩ := h
  have hkey := keyOf_int_mk (P := Try.prog) Try.underlying3 (wf_num hk)
  obtain ⟨w', hrun, h5, h6⟩ := h1.update ukeyed Try.underlying52 (Nat.lt_of_le_of_lt h2 hl) hkey unitElem_mk
  refine ⟨w', hrun, ⟨n + 1, _, h5, by simp; omega, fun j hj => ?_⟩, ⟨h6.os, h6.tape, h6.output, h6.size, fun i hi hx => h6.block i hi (fun e => hx (by cases e; rfl))⟩⟩
  by_cases hjk : j = k
  · subst hjk
    rw [has_put_same h1.isMap (ukeyed.key hkey)]
    simp
  · rw [has_put_other (by intro e; cases e; exact hjk rfl), h4 j hj]
    simp [hjk]

end Go.Proofs.Ytjpdpgjalbjmgaa
