/-
  Texts of this proof, merged: OrdEx, StabRow, StabSwap, StabIns.
-/
import Derived.RegionTactic
import Derived.ChangeAlike
import Derived.BigRegion
import Derived.BigQuiet
import Derived.Test.YtjpdpgjalbjmgaaZ4
import Derived.Test.YtjpdpgjalbjmgaaZ2
import Derived.Test.YtjpdpgjalbjmgaaZ1
import Derived.Test.YtjpdpgjalbjmgaaZ3
/-
  The law's own helpers of layer 15: a row of a number, so many rows, so many keys, rows in memory of their own.
-/
namespace Go.Proofs.Ytjpdpgjalbjmgaa
open Go.RowKit Go.BigFrame

def numV (n : Int) : List V := [⟨2, n, []⟩]

theorem lit_own (w : World) (r : List V) (hl : r.length ≤ maxLen) : (w.alloc (.cells (r.flatMap V.cells).toArray 35)).ownsRow w.heap.size 35 3 (.slice (some ⟨w.heap.size, 0, none⟩) r.length r.length) r.length (r.flatMap V.cells) := by
  have h := World.ownsRow_lit (base := w.heap.size) (e := 35) (size := 3) w (r.flatMap V.cells).toArray r.length (Nat.le_refl _) hl (by rw [List.size_toArray, valCells_length])
  simpa using h

theorem num15_any (n : Int) (w : World) :
    Calls Try.prog 27 #[.int .i64 n] w fun e w' => (∃ v, e = .returned v ∧ w'.ownsRow w.heap.size 35 3 v 1 ((numV n).flatMap V.cells)) ∧ Ext w w' := by
  have HO := Lib.hid (lit_own w (numV n) (by simp [numV, maxLen]))
  have HX := Lib.hid (ext_new w (.cells #[.int .u8 2, .int .i64 n, .string ⟨#[]⟩] 35))
  go_enter Try.func27, Try.ntmps27
  go_wp2_with fail
  go_ret
  exact ⟨⟨_, rfl, HO.out⟩, HX.out⟩

set_option maxRecDepth 100000 in
theorem some15_any (u : Value) (ks : List Ky) (w : World) (hu : RdKs w u ks) :
    Calls Try.prog 11 #[u] w fun e w' => (∃ v, e = .returned v ∧ RdKs w v (ks.take 10)) ∧ w' = w := by
  obtain ⟨ao, cap, rfl, h1, h2⟩ := hu.shape
  obtain ⟨M, hM, hMa, hMb⟩ : ∃ M : Nat, min (ks.length : Int) 10 = (M : Int) ∧ M ≤ ks.length ∧ ks.take M = ks.take 10 := ⟨min ks.length 10, by omega, by omega, by
    rcases Nat.le_total ks.length 10 with h | h
    · rw [Nat.min_eq_left h, List.take_length, List.take_of_length_le h]
    · rw [Nat.min_eq_right h]⟩
  have HK := Lib.hid (hu.take M hMa)
  rw [hMb] at HK
  obtain ⟨N, hN⟩ : ∃ N, ks.length = N := ⟨_, rfl⟩
  rw [hN] at h1 hM hMa ⊢
  have hcap : M ≤ cap := by omega
  unfold maxLen at h2
  clear hu hN hMb
  go_enter Try.func11, Try.ntmps11
  go_wp2_with fail
  go_ret
  exact ⟨⟨_, rfl, HK.out⟩, rfl⟩

/-- Rows that the law takes: few, short, of short texts. -/
def FewR (rs : List (List V)) : Prop := rs.length ≤ 100 ∧ ∀ r ∈ rs, r.length ≤ 20 ∧ FitR 200 r

/-- Rows that the program takes: texts and rows of bounded length. -/
def FitL (rs : List (List V)) : Prop := FitRs 5000 rs ∧ ∀ r ∈ rs, r.length ≤ 1000000
theorem FitL.append {xs ys : List (List V)} (h : FitL xs) (h' : FitL ys) : FitL (xs ++ ys) := ⟨fun r hr => by
    rcases List.mem_append.1 hr with hr | hr
    · exact h.1 r hr
    · exact h'.1 r hr, fun r hr => by
    rcases List.mem_append.1 hr with hr | hr
    · exact h.2 r hr
    · exact h'.2 r hr⟩
theorem FitL.sort {rs : List (List V)} (h : FitL rs) (ks : List Ky) : FitL (sortS ks rs) := ⟨fun r hr => h.1 r (((sortS_is ks rs).mem (cmpR_pre ks)).1 hr), fun r hr => h.2 r (((sortS_is ks rs).mem (cmpR_pre ks)).1 hr)⟩
theorem FewR.fitL {rs : List (List V)} (h : FewR rs) : FitL rs := ⟨fun r hr v hv => ⟨((h.2 r hr).2 v hv).1, Nat.le_trans ((h.2 r hr).2 v hv).2 (by decide)⟩, fun r hr => Nat.le_trans (h.2 r hr).1 (by decide)⟩
theorem FewR.fit {rs : List (List V)} (h : FewR rs) : FitRs 200 rs := fun r hr => (h.2 r hr).2

set_option maxRecDepth 100000 in
set_option maxHeartbeats 1000000 in
theorem few15_any (u : Value) (rs : List (List V)) (w : World) (hu : RdRV w u rs) (hf : ∀ r ∈ rs, ∀ v ∈ r, v.fits ∧ v.s.length ≤ maxLen) :
    Calls Try.prog 10 #[u] w fun e w' => (∃ v M, e = .returned v ∧ RdRV w v (rs.take M) ∧ FewR (rs.take M)) ∧ Ext w w' := by
  obtain ⟨ao, cap, rfl, h1, h2⟩ := hu.shape
  have HU := Lib.hid hu
  have HF := Lib.hid hf
  obtain ⟨hs, hh, -, -, -, hat⟩ := hu.rd.heads
  have HAT := Lib.hid hat
  have HH := Lib.hid hh
  obtain ⟨N, hN⟩ : ∃ N, rs.length = N := ⟨_, rfl⟩
  have HN := Lib.hid hN
  unfold maxLen at h2
  rw [hN] at h1 HU ⊢
  have HTK := Lib.hid (fun K (hK : K ≤ N) => HU.out.take K hK)
  clear hat hh hN hu hf
  go_enter Try.func10, Try.ntmps10
  go_wp2_with fail
  go_loopw [3, 4, 6, 9] (fun _ _ _ i wr => ∃ j : Nat, j ≤ N ∧ i = .int .i64 j ∧ FewR (rs.take j) ∧ Ext w wr) (fun _ _ _ i _ => N - (intOf i).toNat)
  case atStart => exact ⟨0, Nat.zero_le _, rfl, ⟨by simp, fun r hr => by simp at hr⟩, Ext.keeps.refl _⟩
  case round =>
    obtain ⟨j, hj, rfl, hfw, hx⟩ := hrel
    have HFW := Lib.hid hfw
    have HX := Lib.hid hx
    clear hfw hx
    by_cases hlt : j < N
    · have hjl : j < rs.length := by have := HN.out; omega
      obtain ⟨a1, a2, a3, ha, hra⟩ := HH.out.get j hjl
      obtain ⟨g, off, rfl, c0⟩ := HAT.out j _ ha
      have x0 := (HX.out.cell (lt_of_cell c0)).trans c0
      have HR := Lib.hid (hra.mono HX.out)
      have HFJ := Lib.hid (HF.out rs[j] (List.getElem_mem hjl))
      have HTS := Lib.hid (List.take_succ_eq_append_getElem hjl)
      obtain ⟨-, r1, r2, hrc⟩ := hra.plain
      have hal : a2 = rs[j].length := hra.plain.1
      have HRC := Lib.hid hrc
      unfold maxLen at r2
      generalize rs[j] = r at HR HFJ HTS HRC hal
      have HAL := Lib.hid hal
      clear ha hra c0 hrc hal
      by_cases h100 : 100 ≤ j
      · have d1 : decide ((j : Int) ≥ 100) = true := decide_eq_true (by omega)
        have d1' : decide (100 ≤ j) = true := decide_eq_true h100
        go_wp2_with fail
        go_ret
        exact ⟨⟨_, j, rfl, HTK.out j hj, HFW.out⟩, HX.out⟩
      · have d1 : decide ((j : Int) ≥ 100) = false := decide_eq_false (by omega)
        have d1' : decide (100 ≤ j) = false := decide_eq_false h100
        by_cases h20 : 20 < a2
        · have d2 : decide (20 < a2) = true := decide_eq_true h20
          have d2' : decide ((20 : Int) < (a2 : Int)) = true := decide_eq_true (by omega)
          go_wp2_with fail
          go_ret
          exact ⟨⟨_, j, rfl, HTK.out j hj, HFW.out⟩, HX.out⟩
        · have d2 : decide (20 < a2) = false := decide_eq_false h20
          have d2' : decide ((20 : Int) < (a2 : Int)) = false := decide_eq_false (by omega)
          go_wp2_with fail
          generalize wr = wo at HX HR ⊢
          go_loopw [6, 26] (fun _ i wr => ∃ c : Nat, c ≤ a2 ∧ i = .int .i64 c ∧ (∀ q, (hq : q < r.length) → q < c → r[q].s.length ≤ 200) ∧ Ext w wr) (fun _ i _ => a2 - (intOf i).toNat)
          case atStart => exact ⟨0, Nat.zero_le _, rfl, fun q _ h => absurd h (Nat.not_lt_zero _), HX.out⟩
          case round =>
            obtain ⟨c, hc, rfl, hq, hx⟩ := hrel
            have HQ := Lib.hid hq
            have HX2 := Lib.hid hx
            clear hq hx
            by_cases hlt2 : c < a2
            · have hcl : c < r.length := by have := HAL.out; omega
              obtain ⟨g2, off2, rfl, k0, k1, k2⟩ := HRC.out c hcl
              have x0 := (HX2.out.cell (lt_of_cell k0)).trans k0
              have x1 := (HX2.out.cell (lt_of_cell k1)).trans k1
              have x2 := (HX2.out.cell (lt_of_cell k2)).trans k2
              have HNQ := Lib.hid (show r[c].s.length ≤ 200 → ∀ q, (hq : q < r.length) → q < c + 1 → r[q].s.length ≤ 200 from fun h q hq hqc => by
                by_cases e : q = c
                · subst e; exact h
                · exact HQ.out q hq (by omega))
              have HFQ := Lib.hid (HFJ.out r[c] (List.getElem_mem hcl)).2
              generalize r[c] = v at x0 x1 x2 HNQ HFQ
              obtain ⟨vk, vn, vs⟩ := v
              simp only at x0 x1 x2 HNQ HFQ
              clear k0 k1 k2
              have HXA := Lib.hid (Ext.trans HX2.out (ext_new wr (.cells #[.int .u8 vk, .int .i64 vn, .string ⟨vs.toArray⟩] 35)))
              have hvm := HFQ.out
              unfold maxLen at hvm
              by_cases hlong : 200 < vs.length
              · have d3 : decide (200 < vs.length) = true := decide_eq_true hlong
                have d3' : decide ((200 : Int) < (vs.length : Int)) = true := decide_eq_true (by omega)
                go_wp2_with fail
                go_ret
                exact ⟨⟨_, j, rfl, HTK.out j hj, HFW.out⟩, HXA.out⟩
              · have d3 : decide (200 < vs.length) = false := decide_eq_false hlong
                have d3' : decide ((200 : Int) < (vs.length : Int)) = false := decide_eq_false (by omega)
                have HNQ2 := Lib.hid (HNQ.out (by omega))
                go_wp2_with fail
                go_roundw
                case rel => exact ⟨c + 1, by omega, by go_num, HNQ2.out, HXA.out⟩
                case measure => simp [intOf]; omega
            · have HFW2 := Lib.hid (show FewR (rs.take (j + 1)) from by
                refine ⟨by rw [List.length_take]; omega, fun q hq => ?_⟩
                rw [HTS.out] at hq
                rcases List.mem_append.1 hq with hq | hq
                · exact HFW.out.2 q hq
                · rw [List.mem_singleton] at hq
                  subst hq
                  refine ⟨by have := HAL.out; omega, fun v hv => ?_⟩
                  obtain ⟨i, hi, rfl⟩ := List.mem_iff_getElem.1 hv
                  exact ⟨(HFJ.out _ (List.getElem_mem hi)).1, HQ.out i hi (by have := HAL.out; omega)⟩)
              go_wp2_with fail
              go_roundw
              case rel => exact ⟨j + 1, by omega, by go_num, HFW2.out, HX2.out⟩
              case measure => simp [intOf]; omega
    · have HALL := Lib.hid (show rs.take N = rs from List.take_of_length_le (by have := HN.out; omega))
      have hjN : j = N := by omega
      rw [hjN] at HFW
      clear hjN
      go_wp2_with fail
      go_ret
      exact ⟨⟨_, N, rfl, by rw [HALL.out]; exact HU.out, HFW.out⟩, HX.out⟩

set_option maxRecDepth 100000 in
set_option maxHeartbeats 4000000 in
theorem deep15_any (u : Value) (rs : List (List V)) (w : World) (hu : RdRV w u rs) (hf : FewR rs) :
    Calls Try.prog 12 #[u] w fun e w' => (∃ v, e = .returned v ∧ AnsRR w.heap.size w' v rs) ∧ Ext w w' := by
  obtain ⟨i1, hi1, hy0, hy1, hy2⟩ := info_parts Try.info_row
  obtain ⟨i0, hi0, hz0, hz1, hz2⟩ := info_parts Try.info_val
  obtain ⟨ao, cap, rfl, h1, h2⟩ := hu.shape
  obtain ⟨hs, hh, -, -, -, hat⟩ := hu.rd.heads
  have HAT := Lib.hid hat
  have HH := Lib.hid hh
  have HF := Lib.hid hf
  obtain ⟨N, hN⟩ : ∃ N, rs.length = N := ⟨_, rfl⟩
  have HN := Lib.hid hN
  unfold maxLen at h2
  rw [hN] at h1 ⊢
  have hN100 : N ≤ 100 := by have := hf.1; omega
  clear hat hh hN hu hf
  go_enter Try.func12, Try.ntmps12
  go_wp2_with fail
  go_loopw [3, 5, 8] (fun o _ i wr => ∃ (j : Nat) (oh : List Value), j ≤ N ∧ i = .int .i64 j ∧ wr.ownsRow w.heap.size 33 1 o oh.length oh ∧ OwnRows w.heap.size wr oh (rs.take j) ∧ Ext w wr) (fun _ _ i _ => N - (intOf i).toNat)
  case atStart => exact ⟨0, [], Nat.zero_le _, rfl, owns_nil _ _ _ _, OwnRows.nil _ _, Ext.keeps.refl _⟩
  case round =>
    obtain ⟨j, oh, hj, rfl, ho, hor, hx⟩ := hrel
    have hol := hor.1
    rw [List.length_take] at hol
    have HO := Lib.hid ho
    have HOR := Lib.hid hor
    have HX := Lib.hid hx
    obtain ⟨oa, oc, rfl, ho1, ho2⟩ := own_shapeP ho
    unfold maxLen at ho2
    have HOL := Lib.hid hol
    have hohl : oh.length ≤ 10000000 := by omega
    clear ho hor hx hol
    by_cases hlt : j < N
    · have hjl : j < rs.length := by have := HN.out; omega
      obtain ⟨a1, a2, a3, ha, hra⟩ := HH.out.get j hjl
      obtain ⟨g, off, rfl, c0⟩ := HAT.out j _ ha
      have x0 := (HX.out.cell (lt_of_cell c0)).trans c0
      have HR := Lib.hid (hra.mono HX.out)
      have HTS := Lib.hid (List.take_succ_eq_append_getElem hjl)
      have hal : a2 = rs[j].length := hra.plain.1
      have ha20 : a2 ≤ 20 := by rw [hal]; exact (HF.out.2 rs[j] (List.getElem_mem hjl)).1
      generalize rs[j] = r at HR HTS hal
      have HAL := Lib.hid hal
      clear ha hra c0 hal
      have HSZ := Lib.hid HX.out.size
      have HRM := Lib.hid (HR.out.mono (ext_new wr (.cells #[] 35)))
      go_wp2_with (at_builtin; first
        | (refine wpList_append_vals rfl (.tmp 13) (.tmp 14) 33 rfl Try.underlying33 wr.heap.size _ ([] : List V) _ r rfl (empty_vals wr) rfl HRM.out (by have := HAL.out; simp; omega) (by simp) ?_
           intro v5 w5 h5 hb5 ho5
           rw [List.nil_append] at h5
           have HO5 := Lib.hid h5
           have HX5 := Lib.hid (show Ext wr w5 from (show Below wr.heap.size wr (wr.alloc (.cells #[] 35)) from ext_new wr _).trans hb5)
           obtain ⟨va, vc, rfl⟩ := owns3_shape h5
           clear h5 hb5 ho5)
        | (refine wpList_append_one rfl (.tmp 12) (.tmp 16) 22 rfl w.heap.size 33 i1 (.slice none 0 0) 1 24 Try.underlying22 hi1 hy0 hy1 hy2 rfl (by decide) (by decide) _ oh.length oh [.slice va r.length vc] rfl (owns_extS HO.out HX5.out) rfl rfl (by simp [Value.oneCell']) hohl (by have := HSZ.out; have := HX5.out.size; omega) ?_
           intro v7 w7 h7 hb7 ho7 _
           have HO7 := Lib.hid h7
           have HB7 := Lib.hid hb7
           have HS7 := Lib.hid ho7
           clear h7 hb7 ho7))
      have HOR7 := Lib.hid (show OwnRows w.heap.size w7 (oh ++ [.slice va r.length vc]) (rs.take (j + 1)) from by
        rw [HTS.out]
        exact ((HOR.out.ext HX5.out).append ((OwnRows.one HO5.out).base_le HSZ.out)).beside (owns_extS HO.out HX5.out) HS7.out)
      have HE7 := Lib.hid (show Ext w w7 from (show Below w.heap.size w w5 from Ext.trans HX.out HX5.out).trans HB7.out)
      go_roundw
      case rel => exact ⟨j + 1, _, by omega, by go_num, by rw [List.length_append]; exact HO7.out, HOR7.out, HE7.out⟩
      case measure => simp [intOf]; omega
    · have HALL := Lib.hid (show rs.take j = rs from List.take_of_length_le (by have := HN.out; omega))
      rw [HALL.out] at HOR
      go_wp2_with fail
      go_ret
      exact ⟨⟨_, rfl, oh, HO.out, HOR.out⟩, HX.out⟩

end Go.Proofs.Ytjpdpgjalbjmgaa

/-
  A row of one's own of rows, while it is being sorted in place; parts of it change places.
-/
namespace Go.Proofs.Ytjpdpgjalbjmgaa
open Go.RowKit Go.BigFrame

/-- A row of one's own, in block g; nothing else of what was there has changed. -/
structure StRow (S : Value → Prop) (base g cap : Nat) (w0 w : World) (N : Nat) (xs : List Value) : Prop where
  len : xs.length = N
  small : N ≤ 1000000
  own : w.ownsRow base 33 1 (.slice (some ⟨g, 0, none⟩) N cap) N xs
  only : OnlyP g w0 w
  shape : ∀ x ∈ xs, S x ∧ ∃ a l c, x = Value.slice a l c

theorem StRow.cell {S : Value → Prop} {base g cap N : Nat} {w0 w : World} {xs : List Value} (h : StRow S base g cap w0 w N xs) (i : Nat) (u : Value) (hu : xs[i]? = some u) : w.cell? ⟨g, i, none⟩ = some u := by
  have hi : i < xs.length := (List.getElem?_eq_some_iff.1 hu).1
  rw [h.own.cellAt i (by have := h.len; omega), hu]
theorem StRow.free {S : Value → Prop} {base g cap N : Nat} {w0 w : World} {xs : List Value} (h : StRow S base g cap w0 w N xs) (i : Nat) : w.frozen? ⟨g, i, none⟩ = false := h.own.frozenAt i
theorem StRow.ext {S : Value → Prop} {base g cap N : Nat} {w0 w w' : World} {xs : List Value} (h : StRow S base g cap w0 w N xs) (hx : Ext w w') : StRow S base g cap w0 w' N xs :=
  ⟨h.len, h.small, owns_extS h.own hx, OnlyP.trans h.only (OnlyP.of_ext hx), h.shape⟩
theorem StRow.set {S : Value → Prop} {base g cap N : Nat} {w0 w : World} {xs : List Value} (h : StRow S base g cap w0 w N xs) (i : Nat) (u : Value) (hu : S u ∧ ∃ a l c, u = Value.slice a l c) : StRow S base g cap w0 (w.setCell ⟨g, i, none⟩ u) N (xs.set i u) :=
  ⟨by rw [List.length_set]; exact h.len, h.small, (h.own.stored i u).1, OnlyP.trans h.only (OnlyP.set g i w u), fun x hx => by
    rcases List.mem_or_eq_of_mem_set hx with h1 | rfl
    · exact h.shape x h1
    · exact hu⟩
theorem StRow.slice {S : Value → Prop} {base g cap N : Nat} {w0 w : World} {xs : List Value} (h : StRow S base g cap w0 w N xs) {i : Nat} (hi : i < xs.length) : ∃ a l c, xs[i]? = some (Value.slice a l c) ∧ S (Value.slice a l c) := by
  obtain ⟨hs, a, l, c, e⟩ := h.shape xs[i] (List.getElem_mem hi)
  exact ⟨a, l, c, by rw [List.getElem?_eq_getElem hi, e], e ▸ hs⟩
theorem StRow.bound {S : Value → Prop} {base g cap N : Nat} {w0 w : World} {xs : List Value} (h : StRow S base g cap w0 w N xs) : N ≤ cap ∧ cap ≤ 9223372036854775807 ∧ base ≤ g ∧ N ≤ 1000000 := by
  rcases h.own.2 with ⟨h', _⟩ | ⟨g', cap', cur, h', hb, hg, hnc, hcm, hcs, htake⟩
  · simp at h'
  · simp only [Value.slice.injEq, Option.some.injEq, Addr.mk.injEq, and_true, true_and] at h'
    obtain ⟨rfl, rfl⟩ := h'
    exact ⟨hnc, by unfold maxLen at hcm; omega, hb, h.small⟩

/-- What holds two against each other: a function value of one captured variable, which reads and makes new memory. -/
structure CmpOk (G : Nat) (pc : Value) (f : Value → Value → Int) (S : Value → Prop) (g : Nat) (w0 : World) : Prop where
  pre : OrdPure.Pre f
  enters : ∀ args w, (callFunc G args).run Try.prog w = .ok (.enter G args) w
  call : ∀ x y, S x → S y → ∀ W, OnlyP g w0 W → Calls Try.prog G #[x, y, pc] W fun e w' => e = .returned (.int .i64 (f x y)) ∧ Ext W w'

/-- Two of a row change places. -/
def swapL (xs : List Value) (i j : Nat) : List Value := match xs[i]?, xs[j]? with | some a, some b => (xs.set i b).set j a | _, _ => xs
theorem swapL_eq {xs : List Value} {i j : Nat} {a b : Value} (ha : xs[i]? = some a) (hb : xs[j]? = some b) : swapL xs i j = (xs.set i b).set j a := by unfold swapL; rw [ha, hb]
theorem swapL_length (xs : List Value) (i j : Nat) : (swapL xs i j).length = xs.length := by
  unfold swapL
  split <;> simp
theorem swapL_at {xs : List Value} {i j : Nat} {a b : Value} (ha : xs[i]? = some a) (hb : xs[j]? = some b) (k : Nat) : (swapL xs i j)[k]? = if k = j then some a else if k = i then some b else xs[k]? := by
  rw [swapL_eq ha hb]
  have hi := (List.getElem?_eq_some_iff.1 ha).1
  have hj := (List.getElem?_eq_some_iff.1 hb).1
  by_cases h1 : k = j
  · subst h1
    rw [if_pos rfl, List.getElem?_set_self (by rw [List.length_set]; exact hj)]
  · rw [if_neg h1, List.getElem?_set_ne (fun e => h1 e.symm)]
    by_cases h2 : k = i
    · subst h2
      rw [if_pos rfl, List.getElem?_set_self hi]
    · rw [if_neg h2, List.getElem?_set_ne (fun e => h2 e.symm)]

/-- The first k of two blocks have changed places. -/
def SwapTo (xs cur : List Value) (a b k : Nat) : Prop :=
  cur.length = xs.length ∧ ∀ j, cur[j]? = if a ≤ j ∧ j < a + k then xs[j - a + b]? else if b ≤ j ∧ j < b + k then xs[j - b + a]? else xs[j]?
theorem SwapTo.start (xs : List Value) (a b : Nat) : SwapTo xs xs a b 0 := ⟨rfl, fun j => by rw [if_neg (by omega), if_neg (by omega)]⟩
theorem SwapTo.next {xs cur : List Value} {a b k n : Nat} (h : SwapTo xs cur a b k) (hab : a + n ≤ b) (hk : k < n) (hb : b + n ≤ xs.length) : SwapTo xs (swapL cur (a + k) (b + k)) a b (k + 1) := by
  obtain ⟨h1, h2⟩ := h
  obtain ⟨x, hx⟩ : ∃ x, cur[a + k]? = some x := ⟨_, List.getElem?_eq_getElem (by omega)⟩
  obtain ⟨y, hy⟩ : ∃ y, cur[b + k]? = some y := ⟨_, List.getElem?_eq_getElem (by omega)⟩
  refine ⟨by rw [swapL_length, h1], fun j => ?_⟩
  rw [swapL_at hx hy]
  have e1 := h2 (a + k)
  rw [if_neg (by omega), if_neg (by omega), hx] at e1
  have e2 := h2 (b + k)
  rw [if_neg (by omega), if_neg (by omega), hy] at e2
  by_cases hj1 : j = b + k
  · subst hj1
    rw [if_pos rfl, if_neg (by omega), if_pos (by omega), e1]
    congr 1; omega
  · rw [if_neg hj1]
    by_cases hj2 : j = a + k
    · subst hj2
      rw [if_pos rfl, if_pos (by omega), e2]
      congr 1; omega
    · rw [if_neg hj2, h2 j]
      by_cases c1 : a ≤ j ∧ j < a + k
      · rw [if_pos c1, if_pos (show a ≤ j ∧ j < a + (k + 1) by omega)]
      · rw [if_neg c1, if_neg (show ¬ (a ≤ j ∧ j < a + (k + 1)) by omega)]
        by_cases c2 : b ≤ j ∧ j < b + k
        · rw [if_pos c2, if_pos (show b ≤ j ∧ j < b + (k + 1) by omega)]
        · rw [if_neg c2, if_neg (show ¬ (b ≤ j ∧ j < b + (k + 1)) by omega)]
theorem SwapTo.done {p x y z q : List Value} {cur : List Value} {a b n : Nat} (ha : a = p.length) (hx : x.length = n) (hz : z.length = n) (hb : b = a + n + y.length) (h : SwapTo (p ++ x ++ y ++ z ++ q) cur a b n) : cur = p ++ z ++ y ++ x ++ q := by
  apply List.ext_getElem?
  intro j
  rw [h.2 j]
  subst ha
  by_cases c1 : p.length ≤ j ∧ j < p.length + n
  · rw [if_pos c1]
    obtain ⟨d, rfl⟩ : ∃ d, j = p.length + d := ⟨j - p.length, by omega⟩
    have e1 : (p ++ z ++ y ++ x ++ q)[p.length + d]? = z[d]? := by
      simp only [List.append_assoc]
      rw [List.getElem?_append_right (by omega), List.getElem?_append_left (by omega)]
      congr 1; omega
    have e2 : (p ++ x ++ y ++ z ++ q)[p.length + d - p.length + b]? = z[d]? := by
      rw [List.getElem?_append_left (by simp only [List.length_append]; omega), List.getElem?_append_right (by simp only [List.length_append]; omega)]
      congr 1; simp only [List.length_append]; omega
    rw [e1, e2]
  · rw [if_neg c1]
    by_cases c2 : b ≤ j ∧ j < b + n
    · rw [if_pos c2]
      obtain ⟨d, rfl⟩ : ∃ d, j = b + d := ⟨j - b, by omega⟩
      have e1 : (p ++ z ++ y ++ x ++ q)[b + d]? = x[d]? := by
        rw [List.getElem?_append_left (by simp only [List.length_append]; omega), List.getElem?_append_right (by simp only [List.length_append]; omega)]
        congr 1; simp only [List.length_append]; omega
      have e2 : (p ++ x ++ y ++ z ++ q)[b + d - b + p.length]? = x[d]? := by
        simp only [List.append_assoc]
        rw [List.getElem?_append_right (by omega), List.getElem?_append_left (by omega)]
        congr 1; omega
      rw [e1, e2]
    · rw [if_neg c2]
      by_cases c3 : j < p.length
      · rw [List.append_assoc, List.append_assoc, List.append_assoc, List.append_assoc, List.append_assoc, List.append_assoc, List.getElem?_append_left c3, List.getElem?_append_left c3]
      · by_cases c4 : j < b
        · have e1 : ∀ s t : List Value, s.length = n → (p ++ s ++ y ++ t ++ q)[j]? = y[j - p.length - n]? := fun s t hs => by
            rw [List.append_assoc, List.getElem?_append_left (by simp only [List.length_append]; omega), List.getElem?_append_right (by simp only [List.length_append]; omega)]
            congr 1; simp only [List.length_append]; omega
          rw [e1 _ _ hx, e1 _ _ hz]
        · have e1 : ∀ s t : List Value, s.length = n → t.length = n → (p ++ s ++ y ++ t ++ q)[j]? = q[j - b - n]? := fun s t hs ht => by
            rw [List.getElem?_append_right (by simp only [List.length_append]; omega)]
            congr 1; simp only [List.length_append]; omega
          rw [e1 _ _ hx hz, e1 _ _ hz hx]

end Go.Proofs.Ytjpdpgjalbjmgaa

/-
  Sorting rows in place, as the library does it: two blocks change places, a block is turned.
-/
namespace Go.Proofs.Ytjpdpgjalbjmgaa
open Go.RowKit Go.BigFrame

theorem StRow.swapped {S : Value → Prop} {base g cap N : Nat} {w0 w : World} {xs : List Value} (h : StRow S base g cap w0 w N xs) {i j : Nat} {a b : Value} (ha : xs[i]? = some a) (hb : xs[j]? = some b) :
    StRow S base g cap w0 ((w.setCell ⟨g, i, none⟩ b).setCell ⟨g, j, none⟩ a) N (swapL xs i j) := by
  rw [swapL_eq ha hb]
  exact (h.set i b (h.shape b (List.mem_of_getElem? hb))).set j a (h.shape a (List.mem_of_getElem? ha))
theorem StRow.swapped' {S : Value → Prop} {base g cap N : Nat} {w0 w : World} {xs : List Value} (h : StRow S base g cap w0 w N xs) {i j : Nat} (hij : i ≠ j) {a b : Value} (ha : xs[i]? = some a) (hb : xs[j]? = some b) :
    StRow S base g cap w0 ((w.setCell ⟨g, j, none⟩ a).setCell ⟨g, i, none⟩ b) N (swapL xs i j) := by
  rw [swapL_eq ha hb, List.set_comm _ _ hij]
  exact (h.set j a (h.shape a (List.mem_of_getElem? ha))).set i b (h.shape b (List.mem_of_getElem? hb))

set_option maxRecDepth 100000 in
theorem swapRange_any (S : Value → Prop) (base g cap N : Nat) (w0 : World) (c : Value) (p x y z q : List Value) (a b n : Nat) (w : World) (hr : StRow S base g cap w0 w N (p ++ x ++ y ++ z ++ q)) (ha : a = p.length) (hx : x.length = n) (hz : z.length = n) (hb : b = a + n + y.length) :
    Calls Try.prog 54 #[.slice (some ⟨g, 0, none⟩) N cap, .int .i64 a, .int .i64 b, .int .i64 n, c] w fun e w' => e = .returned (.tuple #[]) ∧ StRow S base g cap w0 w' N (p ++ z ++ y ++ x ++ q) := by
  obtain ⟨b1, b2, -, b3⟩ := hr.bound
  have hN : b + n ≤ N := by have := hr.len; simp only [List.length_append] at this; omega
  have HD := Lib.hid (fun cur (h : SwapTo (p ++ x ++ y ++ z ++ q) cur a b n) => SwapTo.done ha hx hz hb h)
  have HL := Lib.hid hr.len
  have HR := Lib.hid hr
  have hab : a + n ≤ b := by omega
  clear hr ha hx hz hb
  generalize p ++ x ++ y ++ z ++ q = xs at HD HL HR
  generalize p ++ z ++ y ++ x ++ q = ys at HD ⊢
  go_enter Try.func54, Try.ntmps54
  go_wp2_with fail
  go_loopw [10] (fun i wr => ∃ (j : Nat) (cur : List Value), j ≤ n ∧ i = .int .i64 j ∧ SwapTo xs cur a b j ∧ StRow S base g cap w0 wr N cur) (fun i _ => n - (intOf i).toNat)
  case atStart => exact ⟨0, _, Nat.zero_le _, rfl, SwapTo.start xs a b, HR.out⟩
  case round =>
    obtain ⟨j, cur, hj, rfl, hs, hw⟩ := hrel
    have HS := Lib.hid hs
    have HW := Lib.hid hw
    clear hs hw
    by_cases hlt : j < n
    · obtain ⟨ua, ul, uc, hu, -⟩ := HW.out.slice (i := a + j) (by have := HS.out.1; have := HL.out; omega)
      obtain ⟨va, vl, vc, hv, -⟩ := HW.out.slice (i := b + j) (by have := HS.out.1; have := HL.out; omega)
      have c1 := HW.out.cell _ _ hu
      have c2 := HW.out.cell _ _ hv
      have f1 := HW.out.free (a + j)
      have f2 := HW.out.free (b + j)
      have HU := Lib.hid hu
      have HV := Lib.hid hv
      have HNX := Lib.hid (HS.out.next hab hlt (by have := HL.out; omega))
      clear hu hv
      go_wp2_with fail
      go_region
      all_goals go_wp2_with fail
      all_goals go_roundw
      case rel => exact ⟨j + 1, _, by omega, by go_num, HNX.out, (HW.out.swapped HU.out HV.out).ext (Ext.drew _)⟩
      case measure => simp [intOf]; omega
    · have HE := Lib.hid (HD.out _ ((show j = n by omega) ▸ HS.out))
      go_wp2_with fail
      go_end0
      exact ⟨rfl, HE.out ▸ HW.out⟩

/-- What is still to be turned: this block and that one, in the midst of all. -/
def TurnTo (ys cur : List Value) (m i j : Nat) : Prop := ∃ P U V Q, cur = P ++ U ++ V ++ Q ∧ ys = P ++ V ++ U ++ Q ∧ U.length = i ∧ V.length = j ∧ P.length + i = m

set_option maxRecDepth 100000 in
set_option maxHeartbeats 2000000 in
theorem rotate_any (S : Value → Prop) (base g cap N : Nat) (w0 : World) (c : Value) (p u v q : List Value) (a m b : Nat) (w : World) (hr : StRow S base g cap w0 w N (p ++ u ++ v ++ q)) (ha : a = p.length) (hm : m = a + u.length) (hb : b = m + v.length) (hu : 0 < u.length) (hv : 0 < v.length) :
    Calls Try.prog 51 #[.slice (some ⟨g, 0, none⟩) N cap, .int .i64 a, .int .i64 m, .int .i64 b, c] w fun e w' => e = .returned (.tuple #[]) ∧ StRow S base g cap w0 w' N (p ++ v ++ u ++ q) := by
  obtain ⟨b1, b2, -, b3⟩ := hr.bound
  have hN : b ≤ N := by have := hr.len; simp only [List.length_append] at this; omega
  have HT := Lib.hid (show TurnTo (p ++ v ++ u ++ q) (p ++ u ++ v ++ q) m (m - a) (b - m) from ⟨p, u, v, q, rfl, rfl, by omega, by omega, by omega⟩)
  have HR := Lib.hid hr
  have HSW := Lib.hid (fun p x y z q a b n w => swapRange_any S base g cap N w0 c p x y z q a b n w)
  have ham : a < m := by omega
  have hmb : m < b := by omega
  clear hr ha hm hb hu hv
  generalize p ++ u ++ v ++ q = xs at HT HR
  generalize p ++ v ++ u ++ q = ys at HT ⊢
  go_enter Try.func51, Try.ntmps51
  go_wp2_with fail
  go_loopw [10, 11] (fun i j wr => ∃ (I J : Nat) (cur : List Value), 0 < I ∧ 0 < J ∧ I ≤ m ∧ m + J ≤ N ∧ i = .int .i64 I ∧ j = .int .i64 J ∧ TurnTo ys cur m I J ∧ StRow S base g cap w0 wr N cur) (fun i j _ => (intOf i).toNat + (intOf j).toNat)
  case atStart => exact ⟨m - a, b - m, _, by omega, by omega, by omega, by omega, by go_num, by go_num, HT.out, HR.out⟩
  case round =>
    obtain ⟨I, J, cur, hI, hJ, hIm, hJN, rfl, rfl, ht, hw⟩ := hrel
    have HW := Lib.hid hw
    obtain ⟨P, U, V, Q, rfl, rfl, hU, hV, hP⟩ := ht
    clear hw
    by_cases hIJ : I = J
    · have q1 : ((I : Int) != (J : Int)) = false := by simp [hIJ]
      have HC := Lib.hid (HSW.out P U [] V Q (m - I) m I wr (by rw [List.append_nil]; exact HW.out) (by omega) hU (by omega) (by simp; omega))
      rw [List.append_nil] at HC
      have e1 : ((m - I : Nat) : Int) = (m : Int) - (I : Int) := by omega
      rw [e1] at HC
      clear hU hV hP hIJ e1
      go_wp2_with fail
      refine HC.out.mono ?_
      rintro e w1 ⟨rfl, hw⟩
      have HW1 := Lib.hid hw
      clear hw
      go_wp2_with fail
      go_end0
      exact ⟨rfl, HW1.out⟩
    · have q1 : ((I : Int) != (J : Int)) = true := bne_iff_ne.2 (by omega)
      have hne : I < J ∨ J < I := by omega
      clear hIJ
      by_cases hgt : J < I
      · have hx : (U.take J).length = J := by rw [List.length_take]; omega
        have HC := Lib.hid (HSW.out P (U.take J) (U.drop J) V Q (m - I) m J wr (by rw [List.append_assoc P, List.take_append_drop]; exact HW.out) (by omega) hx hV (by rw [List.length_drop]; omega))
        have HTT := Lib.hid (show TurnTo (P ++ V ++ U ++ Q) (P ++ V ++ U.drop J ++ U.take J ++ Q) m (I - J) J from ⟨P ++ V, U.drop J, U.take J, Q, rfl, by rw [List.append_assoc (P ++ V) (U.take J) (U.drop J), List.take_append_drop], by rw [List.length_drop]; omega, hx, by rw [List.length_append]; omega⟩)
        have e1 : ((m - I : Nat) : Int) = (m : Int) - (I : Int) := by omega
        rw [e1] at HC
        clear hU hV hP hx e1
        generalize P ++ V ++ U.drop J ++ U.take J ++ Q = cur2 at HC HTT
        go_wp2_with fail
        refine HC.out.mono ?_
        rintro e w1 ⟨rfl, hw⟩
        have HW1 := Lib.hid hw
        clear hw
        go_wp2_with fail
        go_roundw
        case rel => exact ⟨I - J, J, cur2, by omega, by omega, by omega, by omega, by go_num, rfl, HTT.out, HW1.out⟩
        case measure => simp [intOf]; omega
      · have hx : (V.drop (J - I)).length = I := by rw [List.length_drop]; omega
        have HC := Lib.hid (HSW.out P U (V.take (J - I)) (V.drop (J - I)) Q (m - I) (m + J - I) I wr (by rw [List.append_assoc (P ++ U), List.take_append_drop]; exact HW.out) (by omega) hU hx (by rw [List.length_take]; omega))
        have HTT := Lib.hid (show TurnTo (P ++ V ++ U ++ Q) (P ++ V.drop (J - I) ++ V.take (J - I) ++ U ++ Q) m I (J - I) from ⟨P, V.drop (J - I), V.take (J - I), U ++ Q, by simp, by rw [List.append_assoc P (V.take _), List.take_append_drop]; simp, hx, by rw [List.length_take]; omega, by omega⟩)
        have e1 : ((m - I : Nat) : Int) = (m : Int) - (I : Int) := by omega
        have e2 : ((m + J - I : Nat) : Int) = (m : Int) + (J : Int) - (I : Int) := by omega
        rw [e1, e2] at HC
        have hlt : I < J := by omega
        clear hU hV hP hx e1 e2 hne
        generalize P ++ V.drop (J - I) ++ V.take (J - I) ++ U ++ Q = cur2 at HC HTT
        go_wp2_with fail
        refine HC.out.mono ?_
        rintro e w1 ⟨rfl, hw⟩
        have HW1 := Lib.hid hw
        clear hw
        go_wp2_with fail
        go_roundw
        case rel => exact ⟨I, J - I, cur2, by omega, by omega, by omega, by omega, rfl, by go_num, HTT.out, HW1.out⟩
        case measure => simp [intOf]; omega

end Go.Proofs.Ytjpdpgjalbjmgaa

/-
  Sorting rows in place, as the library does it: each is put into its place.
-/
namespace Go.Proofs.Ytjpdpgjalbjmgaa
open Go.RowKit Go.BigFrame

/-- What the round of the insertion is at: x stands between those ahead and those behind. -/
def InsTo (f : Value → Value → Int) (p s r : List Value) (x : Value) (cur : List Value) (j : Nat) : Prop :=
  ∃ s1 s2, s = s1 ++ s2 ∧ cur = p ++ s1 ++ x :: (s2 ++ r) ∧ j = p.length + s1.length ∧ ∀ y ∈ s2, 0 < f y x

theorem InsTo.at {f : Value → Value → Int} {p s r : List Value} {x : Value} {cur : List Value} {j : Nat} (h : InsTo f p s r x cur j) : cur[j]? = some x := by
  obtain ⟨s1, s2, -, rfl, rfl, -⟩ := h
  rw [← List.length_append]
  simp
theorem InsTo.le {f : Value → Value → Int} {p s r : List Value} {x : Value} {cur : List Value} {j : Nat} (h : InsTo f p s r x cur j) : p.length ≤ j := by
  obtain ⟨s1, s2, -, -, rfl, -⟩ := h
  omega
theorem InsTo.next {f : Value → Value → Int} {p s r : List Value} {x y : Value} {cur : List Value} {j : Nat} (h : InsTo f p s r x cur j) (hj : p.length < j) (hy : cur[j - 1]? = some y) (hf : 0 < f y x) :
    InsTo f p s r x (swapL cur j (j - 1)) (j - 1) := by
  have hx := h.at
  obtain ⟨s1, s2, rfl, rfl, rfl, h2⟩ := h
  have hne : s1 ≠ [] := by rintro rfl; simp at hj
  obtain ⟨t, z, rfl⟩ : ∃ t z, s1 = t ++ [z] := ⟨s1.dropLast, s1.getLast hne, (List.dropLast_concat_getLast hne).symm⟩
  have e1 : p.length + (t ++ [z]).length - 1 = (p ++ t).length := by simp
  have e2 : p.length + (t ++ [z]).length = (p ++ t).length + 1 := by simp; omega
  have e3 : p ++ (t ++ [z]) ++ x :: (s2 ++ r) = (p ++ t) ++ z :: x :: (s2 ++ r) := by simp
  rw [e1, e3] at hy
  rw [e2, e3] at hx
  have hzy : z = y := by
    rw [(OrdPure.at_next rfl).1] at hy
    exact Option.some.inj hy
  subst hzy
  refine ⟨t, z :: s2, by simp, ?_, by rw [e1, List.length_append], ?_⟩
  · rw [e1, e2, e3, swapL_eq hx (OrdPure.at_next rfl).1, (OrdPure.swap_next rfl).2]
    simp
  · intro y hy
    rcases List.mem_cons.1 hy with rfl | hy
    · exact hf
    · exact h2 y hy
theorem InsTo.done {f : Value → Value → Int} (hf : OrdPure.Pre f) {p s r u : List Value} {x : Value} {cur : List Value} {j : Nat} (h : InsTo f p s r x cur j) (hs : OrdPure.IsSort f u s) (he : p.length < j → ∃ y, cur[j - 1]? = some y ∧ f y x ≤ 0) :
    ∃ s', OrdPure.IsSort f (u ++ [x]) s' ∧ cur = p ++ s' ++ r := by
  obtain ⟨s1, s2, rfl, rfl, rfl, h2⟩ := h
  have hp : OrdPure.IsPlace f (s1 ++ s2) x s1.length := by
    refine ⟨by simp, fun y hy => ?_, fun k hk hk2 => ?_⟩
    · rw [List.drop_left] at hy
      exact h2 y hy
    · obtain ⟨y, hy, hfy⟩ := he (by omega)
      rw [show p.length + s1.length - 1 = p.length + k by omega, List.append_assoc, List.getElem?_append_right (by omega), Nat.add_sub_cancel_left, List.getElem?_append_left (by omega)] at hy
      rw [List.getElem_append_left (by omega)]
      rw [List.getElem?_eq_getElem (by omega)] at hy
      exact (Option.some.inj hy) ▸ hfy
  refine ⟨s1 ++ x :: s2, ?_, by simp⟩
  have := hs.snoc hf hp
  rwa [List.take_left, List.drop_left] at this

/-- What the insertion is at: the first k are sorted. -/
def InsAt (f : Value → Value → Int) (p u q cur : List Value) (k : Nat) : Prop := ∃ s, OrdPure.IsSort f (u.take k) s ∧ cur = p ++ s ++ u.drop k ++ q
theorem InsAt.start (f : Value → Value → Int) (p u q : List Value) : InsAt f p u q (p ++ u ++ q) 1 :=
  ⟨u.take 1, OrdPure.IsSort.self (by cases u with | nil => exact List.Pairwise.nil | cons a t => exact List.pairwise_singleton ..), by rw [List.append_assoc p (u.take 1), List.take_append_drop]⟩
theorem InsAt.done {f : Value → Value → Int} {p u q cur : List Value} {k : Nat} (h : InsAt f p u q cur k) (hk : u.length ≤ k) : ∃ s, OrdPure.IsSort f u s ∧ cur = p ++ s ++ q := by
  obtain ⟨s, h1, h2⟩ := h
  rw [List.take_of_length_le hk] at h1
  rw [List.drop_of_length_le hk, List.append_nil] at h2
  exact ⟨s, h1, h2⟩
theorem InsAt.to {f : Value → Value → Int} (hf : OrdPure.Pre f) {p u q cur : List Value} {k : Nat} (h : InsAt f p u q cur k) (hk : k < u.length) :
    ∃ s x, OrdPure.IsSort f (u.take k) s ∧ u[k]? = some x ∧ InsTo f p s (u.drop (k + 1) ++ q) x cur (p.length + k) := by
  obtain ⟨s, h1, rfl⟩ := h
  have hl := h1.length hf
  rw [List.length_take] at hl
  refine ⟨s, u[k], h1, List.getElem?_eq_getElem hk, s, [], by simp, ?_, by omega, by simp⟩
  rw [List.drop_eq_getElem_cons hk]
  simp only [List.append_assoc, List.cons_append, List.nil_append]
theorem InsAt.next {f : Value → Value → Int} {p u q cur s' : List Value} {x : Value} {k : Nat} (hx : u[k]? = some x) (hs : OrdPure.IsSort f (u.take k ++ [x]) s') (hc : cur = p ++ s' ++ (u.drop (k + 1) ++ q)) : InsAt f p u q cur (k + 1) := by
  obtain ⟨hk, rfl⟩ := List.getElem?_eq_some_iff.1 hx
  refine ⟨s', ?_, by rw [hc, List.append_assoc, List.append_assoc, List.append_assoc]⟩
  rw [List.take_succ_eq_append_getElem hk]
  exact hs

set_option maxRecDepth 100000 in
set_option maxHeartbeats 4000000 in
theorem insertion_any (G : Nat) (pc : Value) (f : Value → Value → Int) (S : Value → Prop) (base g cap N : Nat) (w0 : World) (hc : CmpOk G pc f S g w0) (p u q : List Value) (a b : Nat) (w : World) (hr : StRow S base g cap w0 w N (p ++ u ++ q)) (ha : a = p.length) (hb : b = a + u.length) :
    Calls Try.prog 45 #[.slice (some ⟨g, 0, none⟩) N cap, .int .i64 a, .int .i64 b, .func (.func G) #[] #[pc]] w fun e w' => e = .returned (.tuple #[]) ∧ ∃ s, OrdPure.IsSort f u s ∧ StRow S base g cap w0 w' N (p ++ s ++ q) := by
  obtain ⟨b1, b2, -, b3⟩ := hr.bound
  have hN : b ≤ N := by have := hr.len; simp only [List.length_append] at this; omega
  have HI := Lib.hid (InsAt.start f p u q)
  have HD := Lib.hid (fun cur k (h : InsAt f p u q cur k) (hk : b ≤ a + k) => h.done (by omega))
  have HTO := Lib.hid (fun cur k (h : InsAt f p u q cur k) (hk : a + k < b) => h.to hc.pre (by omega))
  have HA := Lib.hid ha
  rw [← ha] at HTO
  have HP := Lib.hid hc.pre
  have HEN := hc.enters
  have HC := Lib.hid hc.call
  have HR := Lib.hid hr
  have hab : a ≤ b := by omega
  clear hr ha hb hc
  generalize p ++ u ++ q = xs at HI HR
  go_enter Try.func45, Try.ntmps45
  go_wp2_with fail
  go_loopw [8] (fun i wr => ∃ (k : Nat) (cur : List Value), 1 ≤ k ∧ a + k ≤ b + 1 ∧ i = .int .i64 ((a + k : Nat) : Int) ∧ InsAt f p u q cur k ∧ StRow S base g cap w0 wr N cur) (fun i _ => b + 1 - (intOf i).toNat)
  case atStart => exact ⟨1, _, by omega, by omega, by go_num, HI.out, HR.out⟩
  case round =>
    obtain ⟨k, cur, hk1, hk2, rfl, hi, hw⟩ := hrel
    have HW := Lib.hid hw
    have HIA := Lib.hid hi
    clear hi hw
    obtain ⟨I, hI⟩ : ∃ I : Nat, I = a + k := ⟨_, rfl⟩
    rw [← hI]
    by_cases hlt : I < b
    · obtain ⟨s, x, hs, hx, hto⟩ := HTO.out cur k HIA.out (by omega)
      rw [← hI] at hto
      have HS := Lib.hid hs
      have HX := Lib.hid hx
      have HT := Lib.hid hto
      have HII := Lib.hid hI
      have hIa : a < I := by omega
      clear hs hx hto HIA hI
      go_wp2_with fail
      generalize wr = wo at HW ⊢
      go_loopw [9] (fun j wr => ∃ (J : Nat) (cur : List Value), J ≤ I ∧ a ≤ J ∧ j = .int .i64 J ∧ InsTo f p s (u.drop (k + 1) ++ q) x cur J ∧ StRow S base g cap w0 wr N cur) (fun j _ => (intOf j).toNat)
      case atStart => exact ⟨I, _, Nat.le_refl _, by omega, rfl, HT.out, HW.out⟩
      case round =>
        obtain ⟨J, cur2, hJ1, hJ2, rfl, ht, hw⟩ := hrel
        have HT2 := Lib.hid ht
        have HW2 := Lib.hid hw
        clear ht hw
        have c0 := HW2.out.cell _ _ HT2.out.at
        have HSX := Lib.hid (HW2.out.shape x (List.mem_of_getElem? HT2.out.at))
        by_cases hja : a < J
        · obtain ⟨ya, yl, yc, hy, hsy⟩ := HW2.out.slice (i := J - 1) (by have := (List.getElem?_eq_some_iff.1 HT2.out.at).1; omega)
          have c1 := HW2.out.cell _ _ hy
          have HY := Lib.hid hy
          have HCX := Lib.hid (fun W h => HC.out _ _ HSX.out.1 hsy W h)
          have HQ := Lib.hid (HP.out.neg x (.slice ya yl yc))
          have e1 : ((J - 1 : Nat) : Int) = (J : Int) - 1 := by omega
          have d0 : decide ((J : Int) > (a : Int)) = true := decide_eq_true (by omega)
          obtain ⟨-, xa, xl, xc, rfl⟩ := HSX.out
          generalize hF : f (.slice xa xl xc) (.slice ya yl yc) = F at HCX HQ
          have HF := Lib.hid hF
          have z0 : ∀ z : Later Ext wr.drew, z.val.cell? ⟨g, J, none⟩ = some (.slice xa xl xc) := fun z => ((Ext.trans (Ext.drew wr) z.ext).cell (lt_of_cell c0)).trans c0
          have z1 : ∀ z : Later Ext wr.drew, z.val.cell? ⟨g, J - 1, none⟩ = some (.slice ya yl yc) := fun z => ((Ext.trans (Ext.drew wr) z.ext).cell (lt_of_cell c1)).trans c1
          clear hy hsy hF c0 c1
          go_wp2_with fail
          refine wp_region_segs Ext Ext.keeps [([0, 1, 2, 3, 4, 5, 6, 7, 8, 9, 10, 11, 12, 13], some 14), ([15, 16], none)] (by kernel_rfl) (by kernel_rfl) (fun c a a' w e h => (by exact ⟨e ▸ h.1, h.2⟩)) ?_
          simp only [pickSegs, pickOps, List.map_cons, List.map_nil, Option.map_some, Option.map_none, Option.getD_some, List.getElem?_toArray, List.getElem?_cons_zero, List.getElem?_cons_succ]
          refine wpSegs_some fun K' hK' => ?_
          repeat go_big_quiet_step (fail)
          refine wpQuiet_nil ?_
          clear z0 z1
          go_wp2_with fail
          refine (HCX.out _ (OnlyP.trans HW2.out.only (OnlyP.of_ext (Ext.drew _)))).mono ?_
          rintro e w3 ⟨rfl, hx3⟩
          have HX3 := Lib.hid hx3
          have HW3 := Lib.hid (HW2.out.ext (Ext.trans (Ext.drew wr) hx3))
          clear hx3
          go_wp2_with fail
          refine ⟨HX3.out, hK' _ _ ?_⟩
          clear hK' K'
          refine wpSegs_none ?_
          by_cases hF0 : F < 0
          · have d1 : decide (F < 0) = true := decide_eq_true hF0
            have HTN := Lib.hid (HT2.out.next (by have := HA.out; omega) HY.out (by have := HQ.out; omega))
            have HWN := Lib.hid (HW3.out.swapped HT2.out.at HY.out)
            have c0 := HW3.out.cell _ _ HT2.out.at
            have c1 := HW3.out.cell _ _ HY.out
            have f0 := HW3.out.free J
            have f1 := HW3.out.free (J - 1)
            clear hF0
            repeat go_big_quiet_step (fail)
            refine wpQuiet_nil (wpSegs_nil ?_)
            go_wp2_with fail
            go_region
            all_goals go_wp2_with fail
            all_goals go_roundw
            case rel => exact ⟨J - 1, _, by omega, by omega, by go_num, HTN.out, HWN.out.ext (Ext.drew _)⟩
            case measure => simp [intOf]; omega
          · have d1 : decide (F < 0) = false := decide_eq_false hF0
            have HE := Lib.hid (HT2.out.done HP.out HS.out fun _ => ⟨_, HY.out, by have := HQ.out; omega⟩)
            clear hF0
            repeat go_big_quiet_step (fail)
            refine wpQuiet_nil (wpSegs_nil ?_)
            go_wp2_with fail
            obtain ⟨s', hs', hcur⟩ := HE.out
            have HNX := Lib.hid (InsAt.next HX.out hs' hcur)
            clear hs' hcur
            go_roundw
            case rel => exact ⟨k + 1, _, by omega, by have := HII.out; omega, by have := HII.out; go_num, HNX.out, HW3.out⟩
            case measure => have := HII.out; simp [intOf]; omega
        · have d0 : decide ((J : Int) > (a : Int)) = false := decide_eq_false (by omega)
          have HE := Lib.hid (HT2.out.done HP.out HS.out fun h => absurd h (by have := HA.out; omega))
          clear c0
          go_wp2_with fail
          refine wp_region_segs Ext Ext.keeps [([0, 1, 2, 3, 4, 5, 6, 7, 8, 9, 10, 11, 12, 13], some 14), ([15, 16], none)] (by kernel_rfl) (by kernel_rfl) (fun c a a' w e h => (by exact ⟨e ▸ h.1, h.2⟩)) ?_
          simp only [pickSegs, pickOps, List.map_cons, List.map_nil, Option.map_some, Option.map_none, Option.getD_some, List.getElem?_toArray, List.getElem?_cons_zero, List.getElem?_cons_succ]
          refine wpSegs_some fun K' hK' => ?_
          repeat go_big_quiet_step (fail)
          refine wpQuiet_nil ?_
          go_wp2_with fail
          refine ⟨Ext.keeps.refl _, hK' _ _ ?_⟩
          clear hK' K'
          refine wpSegs_none ?_
          repeat go_big_quiet_step (fail)
          refine wpQuiet_nil (wpSegs_nil ?_)
          go_wp2_with fail
          obtain ⟨s', hs', hcur⟩ := HE.out
          have HNX := Lib.hid (InsAt.next HX.out hs' hcur)
          clear hs' hcur
          go_roundw
          case rel => exact ⟨k + 1, _, by omega, by have := HII.out; omega, by have := HII.out; go_num, HNX.out, HW2.out.ext (Ext.drew _)⟩
          case measure => have := HII.out; simp [intOf]; omega
    · have HE := Lib.hid (HD.out _ _ HIA.out (by omega))
      clear hI
      go_wp2_with fail
      go_end0
      obtain ⟨s, hs, rfl⟩ := HE.out
      exact ⟨rfl, s, hs, HW.out⟩

end Go.Proofs.Ytjpdpgjalbjmgaa
