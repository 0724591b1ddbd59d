/-
  Texts of this proof, merged.
-/
import Derived.Laws.Pointers
import Derived.Defers
import Derived.Recover
import Derived.Lib.Bytealg
import Derived.Test.YtaoegcakefodaaaGreatZ1
import Derived.Test.YtaoegcakefodaaaGreatZ2
import Derived.Test.YtaoegcakefodaaaGreatZ3
import Derived.Test.YtaoegcakefodaaaGreatZ4
import Derived.Test.YtaoegcakefodaaaGreatZ5
import Derived.Test.YtaoegcakefodaaaGreatZ6
import Derived.Test.YtaoegcakefodaaaGreatZ7
import Derived.Test.YtaoegcakefodaaaGreatZ8
namespace Go.Proofs.YtaoegcakefodaaaGreat
open Go.RowKit Go.BigFrame
structure SymEnd (a m b M s e : Nat) : Prop where
  sa : a ≤ s
  sm : s ≤ m
  me : m ≤ e
  eb : e ≤ b
  sM : s ≤ M
  Me : M ≤ e
theorem SymEnd.of {a m b M s e lo hi : Nat} (_ham : a < m) (_hmb : m < b) (hM : M = (a + b) / 2) (he : e + s = M + m) (hlo : lo = if M < m then M + m - b else a) (hhi : hi = if M < m then M else m) (h1 : lo ≤ s) (h2 : s ≤ hi) : SymEnd a m b M s e := by
  by_cases h : M < m
  · rw [if_pos h] at hlo hhi
    exact ⟨by omega, by omega, by omega, by omega, by omega, by omega⟩
  · rw [if_neg h] at hlo hhi
    exact ⟨by omega, by omega, by omega, by omega, by omega, by omega⟩
theorem sym_at {p u v q : List Value} {a m i : Nat} (ha : a = p.length) (hm : m = a + u.length) :
    (∀ (_ : i < u.length), (p ++ (u ++ v) ++ q)[a + i]? = u[i]?) ∧ (∀ (_ : i < v.length), (p ++ (u ++ v) ++ q)[m + i]? = v[i]?) := by
  subst ha hm
  constructor
  · intro h
    rw [List.append_assoc, List.getElem?_append_right (by omega), Nat.add_sub_cancel_left, List.append_assoc, List.getElem?_append_left h]
  · intro h
    rw [List.append_assoc, List.getElem?_append_right (by omega), List.append_assoc, List.getElem?_append_right (by omega), List.getElem?_append_left (by omega)]
    congr 1; omega
theorem SymEnd.sort {f : Value → Value → Int} (hf : OrdPure.Pre f) {p u v q : List Value} {a m b M s e lo hi : Nat} (ha : a = p.length) (hm : m = a + u.length) (hb : b = m + v.length) (hM : M = (a + b) / 2) (he : e + s = M + m)
    (hlo : lo = if M < m then M + m - b else a) (hhi : hi = if M < m then M else m) (hl : lo ≤ s) (hh : s ≤ hi) (hu : 0 < u.length) (hv : 0 < v.length) (ru : OrdPure.Rising f u) (rv : OrdPure.Rising f v)
    (h1 : ∀ x y, lo < s → (p ++ (u ++ v) ++ q)[s - 1]? = some x → (p ++ (u ++ v) ++ q)[e]? = some y → 0 ≤ f y x)
    (h2 : ∀ x y, s < hi → (p ++ (u ++ v) ++ q)[s]? = some x → (p ++ (u ++ v) ++ q)[e - 1]? = some y → f y x < 0)
    {c d : List Value} (hc : OrdPure.IsSort f (u.take (s - a) ++ v.take (e - m)) c) (hd : OrdPure.IsSort f (u.drop (s - a) ++ v.drop (e - m)) d) : OrdPure.IsSort f (u ++ v) (c ++ d) := by
  have hE := SymEnd.of (s := s) (e := e) (by omega) (by omega) hM he hlo hhi hl hh
  obtain ⟨sa, sm, me, eb, sM, Me⟩ := hE
  refine OrdPure.split_sort hf (by omega) (by omega) ru rv (fun g1 g2 => ?_) (fun g1 g2 => ?_) hc hd
  · have k1 := (sym_at (q := q) (v := v) ha hm (i := s - a - 1)).1 (by omega)
    have k2 := (sym_at (q := q) (v := v) ha hm (i := e - m)).2 g2
    rw [show a + (s - a - 1) = s - 1 by omega, List.getElem?_eq_getElem (show s - a - 1 < u.length by omega)] at k1
    rw [show m + (e - m) = e by omega, List.getElem?_eq_getElem g2] at k2
    have e1 : lo < s := by
      by_cases h : M < m
      · rw [if_pos h] at hlo
        omega
      · rw [if_neg h] at hlo
        omega
    have := h1 _ _ e1 k1 k2
    have := hf.neg (v[e - m]) (u[s - a - 1]'(by omega))
    omega
  · have k1 := (sym_at (q := q) (v := v) ha hm (i := s - a)).1 g1
    have k2 := (sym_at (q := q) (v := v) ha hm (i := e - m - 1)).2 (by omega)
    rw [show a + (s - a) = s by omega, List.getElem?_eq_getElem g1] at k1
    rw [show m + (e - m - 1) = e - 1 by omega, List.getElem?_eq_getElem (show e - m - 1 < v.length by omega)] at k2
    have e1 : s < hi := by
      by_cases h : M < m
      · rw [if_pos h] at hhi
        omega
      · rw [if_neg h] at hhi
        omega
    have := h2 _ _ e1 k1 k2
    have := hf.neg (v[e - m - 1]'(by omega)) (u[s - a])
    omega
set_option maxRecDepth 100000 in
set_option maxHeartbeats 8000000 in
theorem symMany_any (G : Nat) (pc : Value) (f : Value → Value → Int) (S : Value → Prop) (base g cap N : Nat) (w0 : World) (hc : CmpOk G pc f S g w0) (L : Nat)
    (ih : ∀ (p u v q : List Value) (a m b : Nat) (w : World), u.length + v.length < L → StRow S base g cap w0 w N (p ++ (u ++ v) ++ q) → a = p.length → m = a + u.length → b = m + v.length → 0 < u.length → 0 < v.length → OrdPure.Rising f u → OrdPure.Rising f v →
      Calls Tryz.prog 99 #[.slice (some ⟨g, 0, none⟩) N cap, .int .i64 a, .int .i64 m, .int .i64 b, .func (.func G) #[] #[pc]] w fun e w' => e = .returned (.tuple #[]) ∧ ∃ s, OrdPure.IsSort f (u ++ v) s ∧ StRow S base g cap w0 w' N (p ++ s ++ q))
    (p u v q : List Value) (a m b : Nat) (w : World) (hL : u.length + v.length = L) (hr : StRow S base g cap w0 w N (p ++ (u ++ v) ++ q)) (ha : a = p.length) (hm : m = a + u.length) (hb : b = m + v.length) (hu : 1 < u.length) (hv : 1 < v.length) (ru : OrdPure.Rising f u) (rv : OrdPure.Rising f v) :
    Calls Tryz.prog 99 #[.slice (some ⟨g, 0, none⟩) N cap, .int .i64 a, .int .i64 m, .int .i64 b, .func (.func G) #[] #[pc]] w fun e w' => e = .returned (.tuple #[]) ∧ ∃ s, OrdPure.IsSort f (u ++ v) s ∧ StRow S base g cap w0 w' N (p ++ s ++ q) := by
  obtain ⟨b1, b2, -, b3⟩ := hr.bound
  have hN : b ≤ N := by have := hr.len; simp only [List.length_append] at this; omega
  obtain ⟨M, hM⟩ : ∃ M : Nat, M = (a + b) / 2 := ⟨_, rfl⟩
  obtain ⟨lo, hlo⟩ : ∃ lo, lo = if M < m then M + m - b else a := ⟨_, rfl⟩
  obtain ⟨hi, hhi⟩ : ∃ hi, hi = if M < m then M else m := ⟨_, rfl⟩
  have HE := Lib.hid (fun s e he h1 h2 => SymEnd.of (s := s) (e := e) (show a < m by omega) (show m < b by omega) hM he hlo hhi h1 h2)
  have HSRT := Lib.hid (fun s e he h1 h2 g1 g2 c d hc' hd' => SymEnd.sort (s := s) (e := e) (q := q) hc.pre ha hm hb hM he hlo hhi h1 h2 (by omega) (by omega) ru rv g1 g2 (c := c) (d := d) hc' hd')
  have hh := half_of a b (by omega)
  rw [← hM] at hh
  obtain ⟨nn, hnn⟩ : ∃ nn : Nat, nn = M + m := ⟨_, rfl⟩
  have e19 : (M : Int) + (m : Int) = (nn : Int) := by omega
  have e22 : (nn : Int) - 1 = ((nn - 1 : Nat) : Int) := by omega
  have HNN := Lib.hid hnn
  have HLO := Lib.hid hlo
  have HHI := Lib.hid hhi
  have HMM := Lib.hid hM
  have HIH := Lib.hid ih
  have HEN := hc.enters
  have HC := Lib.hid hc.call
  have HP := Lib.hid hc.pre
  have HR := Lib.hid hr
  have HRU := Lib.hid ru
  have HRV := Lib.hid rv
  have HA := Lib.hid ha
  have HM := Lib.hid hm
  have HB := Lib.hid hb
  have HL := Lib.hid hL
  have ham : a + 1 < m := by omega
  have hmb : m + 1 < b := by omega
  have haM : a < M := by omega
  have hMb : M < b := by omega
  have q1 : ((m : Int) - (a : Int) == 1) = false := beq_eq_false_iff_ne.2 (by omega)
  have q2 : ((b : Int) - (m : Int) == 1) = false := beq_eq_false_iff_ne.2 (by omega)
  clear hr ha hb hc hm hM hlo hhi hnn ih hu hv ru rv hL
  go_enter Tryz.func99, Tryz.ntmps99
  go_upto_if 140 with fail
  go_cut [20, 21] from 25 (fun s r W => s = .int .i64 (lo : Int) ∧ r = .int .i64 (hi : Int) ∧ W = w)
  case first =>
    by_cases h : M < m
    · have k1 : (nn : Int) - (b : Int) = (lo : Int) := by have := HLO.out; have := HNN.out; rw [if_pos h] at *; omega
      have k2 : M = hi := by have := HHI.out; rw [if_pos h] at *; omega
      go_wp2_with fail
      go_meet
      exact ⟨rfl, by rw [k2], rfl⟩
    · have k1 : a = lo := by have := HLO.out; rw [if_neg h] at *; omega
      have k2 : m = hi := by have := HHI.out; rw [if_neg h] at *; omega
      go_wp2_with fail
      go_meet
      exact ⟨by rw [k1], by rw [k2], rfl⟩
  case rest =>
  obtain ⟨rfl, rfl, rfl⟩ := hcut
  have hlh : lo ≤ hi := by
    have h1 := HLO.out
    have h2 := HHI.out
    have h3 := HMM.out
    by_cases h : M < m
    · rw [if_pos h] at h1 h2
      omega
    · rw [if_neg h] at h1 h2
      omega
  have hib : hi ≤ M ∨ hi ≤ m := by
    have h2 := HHI.out
    by_cases h : M < m
    · rw [if_pos h] at h2
      omega
    · rw [if_neg h] at h2
      omega
  go_wp2_with fail
  go_loopw [20, 21, 23] (fun i j _ wr => ∃ I J : Nat, lo ≤ I ∧ I ≤ J ∧ J ≤ hi ∧ i = .int .i64 I ∧ j = .int .i64 J ∧ (∀ x y, lo < I → (p ++ (u ++ v) ++ q)[I - 1]? = some x → (p ++ (u ++ v) ++ q)[nn - I]? = some y → 0 ≤ f y x) ∧ (∀ x y, J < hi → (p ++ (u ++ v) ++ q)[J]? = some x → (p ++ (u ++ v) ++ q)[nn - J - 1]? = some y → f y x < 0) ∧ StRow S base g cap w0 wr N (p ++ (u ++ v) ++ q)) (fun i j _ _ => (intOf j).toNat - (intOf i).toNat)
  case atStart => exact ⟨lo, hi, Nat.le_refl _, hlh, Nat.le_refl _, rfl, rfl, fun _ _ h => absurd h (Nat.lt_irrefl _), fun _ _ h => absurd h (Nat.lt_irrefl _), HR.out⟩
  case round =>
    obtain ⟨I, J, hI, hIJ, hJ, rfl, rfl, hlo, hhi, hw⟩ := hrel
    have H1 := Lib.hid hlo
    have H2 := Lib.hid hhi
    have HW := Lib.hid hw
    clear hlo hhi hw
    have hJm : J ≤ M ∨ J ≤ m := by omega
    have hJb : J ≤ b := by omega
    have hInn : I ≤ nn := by have := HNN.out; omega
    by_cases hlt : I < J
    · obtain ⟨H, hH⟩ : ∃ H : Nat, (I + J) / 2 = H := ⟨_, rfl⟩
      have hHI : I ≤ H := by omega
      have hHJ : H < J := by omega
      have hhh := half_of I J (by omega)
      rw [hH] at hhh
      have hnH : H + 1 ≤ nn := by have := HNN.out; omega
      have hQb : nn - 1 - H < N := by
        have hE := HE.out H (nn - H) (by have := HNN.out; omega) (by omega) (by omega)
        have := hE.eb
        omega
      have eQ : ((nn - 1 : Nat) : Int) - (H : Int) = ((nn - 1 - H : Nat) : Int) := by omega
      obtain ⟨ya, yl, yc, hy, hsy⟩ := HW.out.slice (i := nn - 1 - H) (by rw [HW.out.len]; exact hQb)
      obtain ⟨xa, xl, xc, hx, hsx⟩ := HW.out.slice (i := H) (by rw [HW.out.len]; omega)
      have c1 := HW.out.cell _ _ hy
      have c0 := HW.out.cell _ _ hx
      have HCX := Lib.hid (fun W h => HC.out _ _ hsy hsx W h)
      have HX := Lib.hid hx
      have HY := Lib.hid hy
      generalize hF : f (.slice ya yl yc) (.slice xa xl xc) = F at HCX
      have HF := Lib.hid hF
      have z0 : ∀ z : Later Ext wr.drew, z.val.cell? ⟨g, H, none⟩ = some (.slice xa xl xc) := fun z => ((Ext.trans (Ext.drew wr) z.ext).cell (lt_of_cell c0)).trans c0
      have z1 : ∀ z : Later Ext wr.drew, z.val.cell? ⟨g, nn - 1 - H, none⟩ = some (.slice ya yl yc) := fun z => ((Ext.trans (Ext.drew wr) z.ext).cell (lt_of_cell c1)).trans c1
      clear hy hsy hF c0 c1 hx hsx hH
      go_wp2_with fail
      clear hhh
      refine wp_region_segs Ext Ext.keeps [([0, 1, 2, 3, 4, 5, 6, 7, 8, 9, 10], some 11), ([12, 13], none)] (by kernel_rfl) (by kernel_rfl) (fun c a a' w e h => (by exact ⟨e ▸ h.1, h.2⟩)) ?_
      simp only [pickSegs, pickOps, List.map_cons, List.map_nil, Option.map_some, Option.map_none, Option.getD_some, List.getElem?_toArray, List.getElem?_cons_zero, List.getElem?_cons_succ]
      refine wpSegs_some fun K' hK' => ?_
      repeat go_big_quiet_step (fail)
      refine wpQuiet_nil ?_
      clear z0 z1
      go_wp2_with fail
      refine (HCX.out _ (OnlyP.trans HW.out.only (OnlyP.of_ext (Ext.drew _)))).mono ?_
      rintro e w3 ⟨rfl, hx3⟩
      have HX3 := Lib.hid hx3
      have HW3 := Lib.hid (HW.out.ext (Ext.trans (Ext.drew wr) hx3))
      clear hx3
      go_wp2_with fail
      refine ⟨HX3.out, hK' _ _ ?_⟩
      clear hK' K'
      refine wpSegs_none ?_
      by_cases hF0 : F < 0
      · have d1 : decide (F < 0) = true := decide_eq_true hF0
        have HN1 := Lib.hid (show ∀ x y, H < hi → (p ++ (u ++ v) ++ q)[H]? = some x → (p ++ (u ++ v) ++ q)[nn - H - 1]? = some y → f y x < 0 from fun x y _ hx hy => by
          rw [HX.out] at hx
          rw [show nn - H - 1 = nn - 1 - H by omega, HY.out] at hy
          rw [← Option.some.inj hy, ← Option.some.inj hx, HF.out]
          exact hF0)
        clear hF0
        repeat go_big_quiet_step (fail)
        refine wpQuiet_nil (wpSegs_nil ?_)
        go_wp2_with fail
        go_roundw
        case rel => exact ⟨I, H, by omega, by omega, by omega, rfl, by go_num, H1.out, HN1.out, HW3.out⟩
        case measure => simp [intOf]; omega
      · have d1 : decide (F < 0) = false := decide_eq_false hF0
        have HN1 := Lib.hid (show ∀ x y, lo < H + 1 → (p ++ (u ++ v) ++ q)[H + 1 - 1]? = some x → (p ++ (u ++ v) ++ q)[nn - (H + 1)]? = some y → 0 ≤ f y x from fun x y _ hx hy => by
          rw [Nat.add_sub_cancel, HX.out] at hx
          rw [show nn - (H + 1) = nn - 1 - H by omega, HY.out] at hy
          rw [← Option.some.inj hy, ← Option.some.inj hx, HF.out]
          omega)
        clear hF0
        repeat go_big_quiet_step (fail)
        refine wpQuiet_nil (wpSegs_nil ?_)
        go_wp2_with fail
        go_roundw
        case rel => exact ⟨H + 1, J, by omega, by omega, by omega, by go_num, rfl, HN1.out, H2.out, HW3.out⟩
        case measure => simp [intOf]; omega
    · have hIJe : I = J := by omega
      subst hIJe
      have HEE := Lib.hid (HE.out I (nn - I) (by have := HNN.out; omega) hI hJ)
      have HSS := Lib.hid (fun c d hc hd => HSRT.out I (nn - I) (by have := HNN.out; omega) hI hJ (fun x y h1 h2 h3 => H1.out x y h1 h2 h3) (fun x y h1 h2 h3 => H2.out x y h1 h2 h3) c d hc hd)
      obtain ⟨E, hE⟩ : ∃ E : Nat, E = nn - I := ⟨_, rfl⟩
      rw [← hE] at HEE HSS
      have e24 : (nn : Int) - (I : Int) = (E : Int) := by omega
      have k1 : a ≤ I := HEE.out.sa
      have k2 : I ≤ m := HEE.out.sm
      have k3 : m ≤ E := HEE.out.me
      have k4 : E ≤ b := HEE.out.eb
      have k5 : I ≤ M := HEE.out.sM
      have k6 : M ≤ E := HEE.out.Me
      clear H1 H2 hE HE HSRT hJm hJ hI hIJ hlh hib hlt
      have HIE := Lib.hid (show E + I = M + m by have := HNN.out; omega)
      have hul : u.length = m - a := by have := HM.out; omega
      have hvl : v.length = b - m := by have := HB.out; omega
      obtain ⟨U1, hU1⟩ : ∃ U1, u.take (I - a) = U1 := ⟨_, rfl⟩
      obtain ⟨U2, hU2⟩ : ∃ U2, u.drop (I - a) = U2 := ⟨_, rfl⟩
      obtain ⟨V1, hV1⟩ : ∃ V1, v.take (E - m) = V1 := ⟨_, rfl⟩
      obtain ⟨V2, hV2⟩ : ∃ V2, v.drop (E - m) = V2 := ⟨_, rfl⟩
      have HL1 := Lib.hid (show U1.length = I - a by rw [← hU1, List.length_take]; omega)
      have HL2 := Lib.hid (show U2.length = m - I by rw [← hU2, List.length_drop]; omega)
      have HL3 := Lib.hid (show V1.length = E - m by rw [← hV1, List.length_take]; omega)
      have HL4 := Lib.hid (show V2.length = b - E by rw [← hV2, List.length_drop]; omega)
      have HRU1 := Lib.hid (hU1 ▸ HRU.out.take (I - a))
      have HRU2 := Lib.hid (hU2 ▸ HRU.out.drop (I - a))
      have HRV1 := Lib.hid (hV1 ▸ HRV.out.take (E - m))
      have HRV2 := Lib.hid (hV2 ▸ HRV.out.drop (E - m))
      have HUU := Lib.hid (show u = U1 ++ U2 by rw [← hU1, ← hU2, List.take_append_drop])
      have HVV := Lib.hid (show v = V1 ++ V2 by rw [← hV1, ← hV2, List.take_append_drop])
      rw [hU1, hU2, hV1, hV2] at HSS
      have HLL := Lib.hid (show u.length + v.length = L from HL.out)
      clear hU1 hU2 hV1 hV2 hul hvl
      go_upto_region 39 with fail
      go_cut [185] from 178 (fun s W => s = .bool (decide (I < m ∧ m < E)) ∧ W = wr)
      case first =>
        by_cases g1 : I < m
        · by_cases g2 : m < E
          · go_wp2_with fail
            go_meet
            exact ⟨by rw [decide_eq_true ⟨g1, g2⟩], rfl⟩
          · go_wp2_with fail
            go_meet
            exact ⟨by rw [decide_eq_false (fun h => g2 h.2)], rfl⟩
        · go_wp2_with fail
          go_meet
          exact ⟨by rw [decide_eq_false (fun h => g1 h.1)], rfl⟩
      case rest =>
      obtain ⟨rfl, rfl⟩ := hcut
      obtain ⟨c1, hc1⟩ : ∃ c1, decide (I < m ∧ m < E) = c1 := ⟨_, rfl⟩
      rw [hc1]
      have HC1 := Lib.hid hc1
      clear hc1
      go_upto_if 185 with fail
      go_cut [] from 186 (fun W => StRow S base g cap w0 W N (p ++ (U1 ++ V1) ++ ((U2 ++ V2) ++ q)))
      case first =>
        cases c1 with
        | true =>
          have hg := of_decide_eq_true HC1.out
          have HROT := Lib.hid (rotate_any S base g cap N w0 (.func (.func G) #[] #[pc]) (p ++ U1) U2 V1 (V2 ++ q) I m E wc (by
            have h := HW.out
            rw [HUU.out, HVV.out] at h
            simpa using h) (by rw [List.length_append, HL1.out, ← HA.out]; omega) (by rw [HL2.out]; omega) (by rw [HL3.out]; omega) (by rw [HL2.out]; omega) (by rw [HL3.out]; omega))
          clear hg
          go_wp2_with fail
          refine HROT.out.mono ?_
          rintro e w1 ⟨rfl, hw⟩
          have HW1 := Lib.hid hw
          clear hw
          go_wp2_with fail
          go_meet
          simpa using HW1.out
        | false =>
          have hg := of_decide_eq_false HC1.out
          have hcon : StRow S base g cap w0 wc N (p ++ (U1 ++ V1) ++ ((U2 ++ V2) ++ q)) := by
            have h := HW.out
            rw [HUU.out, HVV.out] at h
            have h2 : U2 = [] ∨ V1 = [] := by
              by_cases g1 : I < m
              · right
                exact List.eq_nil_of_length_eq_zero (by rw [HL3.out]; omega)
              · left
                exact List.eq_nil_of_length_eq_zero (by rw [HL2.out]; omega)
            rcases h2 with rfl | rfl <;> simpa using h
          have HCON := Lib.hid hcon
          clear hg hcon
          go_wp2_with fail
          go_meet
          exact HCON.out
      case rest =>
      have HW1 := Lib.hid hcut
      clear hcut
      go_upto_region 41 with fail
      generalize wc = wr1 at HW1 ⊢
      go_cut [199] from 192 (fun s W => s = .bool (decide (a < I ∧ I < M)) ∧ W = wr1)
      case first =>
        by_cases g1 : a < I
        · by_cases g2 : I < M
          · go_wp2_with fail
            go_meet
            exact ⟨by rw [decide_eq_true ⟨g1, g2⟩], rfl⟩
          · go_wp2_with fail
            go_meet
            exact ⟨by rw [decide_eq_false (fun h => g2 h.2)], rfl⟩
        · go_wp2_with fail
          go_meet
          exact ⟨by rw [decide_eq_false (fun h => g1 h.1)], rfl⟩
      case rest =>
      obtain ⟨rfl, rfl⟩ := hcut
      obtain ⟨c2, hc2⟩ : ∃ c2, decide (a < I ∧ I < M) = c2 := ⟨_, rfl⟩
      rw [hc2]
      have HC2 := Lib.hid hc2
      clear hc2
      go_upto_if 199 with fail
      go_cut [] from 200 (fun W => ∃ c, OrdPure.IsSort f (U1 ++ V1) c ∧ StRow S base g cap w0 W N (p ++ c ++ ((U2 ++ V2) ++ q)))
      case first =>
        cases c2 with
        | true =>
          have hg := of_decide_eq_true HC2.out
          have HREC := Lib.hid (HIH.out p U1 V1 ((U2 ++ V2) ++ q) a I M wc (by rw [HL1.out, HL3.out]; have := HLL.out; have := HUU.out ▸ HM.out; have := HB.out; have := HM.out; omega) HW1.out HA.out (by rw [HL1.out]; omega) (by rw [HL3.out]; have := HIE.out; omega) (by rw [HL1.out]; omega) (by rw [HL3.out]; have := HIE.out; omega) HRU1.out HRV1.out)
          clear hg
          go_wp2_with fail
          refine HREC.out.mono ?_
          rintro e w1 ⟨rfl, c, hcs, hw⟩
          have HW2 := Lib.hid hw
          have HCS := Lib.hid hcs
          clear hw hcs
          go_wp2_with fail
          go_meet
          exact ⟨c, HCS.out, HW2.out⟩
        | false =>
          have hg := of_decide_eq_false HC2.out
          have hsr : OrdPure.IsSort f (U1 ++ V1) (U1 ++ V1) := by
            have h2 : U1 = [] ∨ V1 = [] := by
              by_cases g1 : a < I
              · right
                exact List.eq_nil_of_length_eq_zero (by rw [HL3.out]; have := HIE.out; omega)
              · left
                exact List.eq_nil_of_length_eq_zero (by rw [HL1.out]; omega)
            rcases h2 with rfl | rfl
            · exact OrdPure.IsSort.self HRV1.out
            · rw [List.append_nil]
              exact OrdPure.IsSort.self HRU1.out
          have HSR := Lib.hid hsr
          clear hg hsr
          go_wp2_with fail
          go_meet
          exact ⟨_, HSR.out, HW1.out⟩
      case rest =>
      obtain ⟨c, hcs, hw⟩ := hcut
      have HCS := Lib.hid hcs
      have HW2 := Lib.hid hw
      clear hcs hw
      have HCL := Lib.hid (show c.length = M - a from by
        rw [HCS.out.length HP.out, List.length_append, HL1.out, HL3.out]
        have := HIE.out
        omega)
      go_upto_region 43 with fail
      generalize wc = wr2 at HW2 ⊢
      by_cases hg : M < E ∧ E < b
      · obtain ⟨g1, g2⟩ := hg
        have HREC := Lib.hid (HIH.out (p ++ c) U2 V2 q M E b wr2 (by rw [HL2.out, HL4.out]; have := HLL.out; have := HB.out; have := HM.out; omega) (by simpa using HW2.out) (by rw [List.length_append, HCL.out, ← HA.out]; omega) (by rw [HL2.out]; have := HIE.out; omega) (by rw [HL4.out]; omega) (by rw [HL2.out]; have := HIE.out; omega) (by rw [HL4.out]; omega) HRU2.out HRV2.out)
        go_wp2_with fail
        refine HREC.out.mono ?_
        rintro e w1 ⟨rfl, d, hds, hw⟩
        have HW3 := Lib.hid hw
        have HDS := Lib.hid hds
        clear hw hds
        go_wp2_with fail
        go_end0
        exact ⟨rfl, c ++ d, HSS.out c d HCS.out HDS.out, by simpa using HW3.out⟩
      · have hsr : OrdPure.IsSort f (U2 ++ V2) (U2 ++ V2) := by
          have h2 : U2 = [] ∨ V2 = [] := by
            by_cases g1 : M < E
            · right
              exact List.eq_nil_of_length_eq_zero (by rw [HL4.out]; omega)
            · left
              exact List.eq_nil_of_length_eq_zero (by rw [HL2.out]; have := HIE.out; omega)
          rcases h2 with rfl | rfl
          · exact OrdPure.IsSort.self HRV2.out
          · rw [List.append_nil]
            exact OrdPure.IsSort.self HRU2.out
        have HFIN := Lib.hid (show ∃ s, OrdPure.IsSort f (u ++ v) s ∧ StRow S base g cap w0 wr2 N (p ++ s ++ q) from ⟨c ++ (U2 ++ V2), HSS.out c _ HCS.out hsr, by simpa using HW2.out⟩)
        clear hsr
        by_cases g1 : M < E
        · have g2 : ¬ E < b := fun h => hg ⟨g1, h⟩
          clear hg
          go_wp2_with fail
          go_end0
          exact ⟨rfl, HFIN.out⟩
        · clear hg
          go_wp2_with fail
          go_end0
          exact ⟨rfl, HFIN.out⟩
theorem symMerge_any (G : Nat) (pc : Value) (f : Value → Value → Int) (S : Value → Prop) (base g cap N : Nat) (w0 : World) (hc : CmpOk G pc f S g w0) : ∀ (L : Nat) (p u v q : List Value) (a m b : Nat) (w : World), u.length + v.length < L → StRow S base g cap w0 w N (p ++ (u ++ v) ++ q) → a = p.length → m = a + u.length → b = m + v.length → 0 < u.length → 0 < v.length → OrdPure.Rising f u → OrdPure.Rising f v →
    Calls Tryz.prog 99 #[.slice (some ⟨g, 0, none⟩) N cap, .int .i64 a, .int .i64 m, .int .i64 b, .func (.func G) #[] #[pc]] w fun e w' => e = .returned (.tuple #[]) ∧ ∃ s, OrdPure.IsSort f (u ++ v) s ∧ StRow S base g cap w0 w' N (p ++ s ++ q) := by
  intro L
  induction L with
  | zero => intro p u v q a m b w h; omega
  | succ L ih =>
    intro p u v q a m b w hl hr ha hm hb hu hv ru rv
    by_cases h1 : u.length = 1
    · obtain ⟨x, rfl⟩ := List.length_eq_one_iff.1 h1
      exact symOne_any G pc f S base g cap N w0 hc p v q x a m b w hr ha hm hb rv
    · by_cases h2 : v.length = 1
      · obtain ⟨x, rfl⟩ := List.length_eq_one_iff.1 h2
        exact symLast_any G pc f S base g cap N w0 hc p u q x a m b w (by simpa using hr) ha hm hb (by omega) ru
      · exact symMany_any G pc f S base g cap N w0 hc (u.length + v.length) (fun p u v q a m b w h => ih p u v q a m b w (by omega)) p u v q a m b w rfl hr ha hm hb (by omega) (by omega) ru rv
end Go.Proofs.YtaoegcakefodaaaGreat

namespace Go.Proofs.YtaoegcakefodaaaGreat
open Go.RowKit Go.BigFrame
def BlocksOk (f : Value → Value → Int) (l : List Value) (B : Nat) : Prop := ∀ k, OrdPure.Rising f (OrdPure.seg l (k * B) B)
def BlocksUp (f : Value → Value → Int) (l : List Value) (B c : Nat) : Prop := ∀ k, k < c → OrdPure.Rising f (OrdPure.seg l (k * B) B)
def BlocksTo (f : Value → Value → Int) (l : List Value) (B c : Nat) : Prop := BlocksUp f l (2 * B) c ∧ ∀ k, 2 * c ≤ k → OrdPure.Rising f (OrdPure.seg l (k * B) B)
theorem BlocksUp.next {f : Value → Value → Int} {p u s q : List Value} {B c : Nat} (h : BlocksUp f (p ++ u ++ q) B c) (hp : p.length = c * B) (hs : s.length ≤ B) (hq : s.length = B ∨ q = []) (hr : OrdPure.Rising f s) : BlocksUp f (p ++ s ++ q) B (c + 1) := by
  intro k hk
  by_cases h1 : k < c
  · have h2 : (k + 1) * B ≤ c * B := Nat.mul_le_mul_right _ h1
    rw [Nat.add_mul, Nat.one_mul] at h2
    rw [OrdPure.seg_ahead (by omega) u q]
    exact h k h1
  · obtain rfl : k = c := by omega
    rw [← hp]
    rcases hq with hq | rfl
    · rw [OrdPure.seg_mid hq]
      exact hr
    · rw [List.append_nil, OrdPure.seg_end hs]
      exact hr
theorem BlocksUp.all {f : Value → Value → Int} {l : List Value} {B c : Nat} (h : BlocksUp f l B c) (hl : l.length ≤ c * B) : BlocksOk f l B := by
  intro k
  by_cases h1 : k < c
  · exact h k h1
  · have h2 : c * B ≤ k * B := Nat.mul_le_mul_right _ (by omega)
    rw [OrdPure.seg_past (by omega)]
    exact OrdPure.rising_nil
theorem BlocksOk.to {f : Value → Value → Int} {l : List Value} {B : Nat} (h : BlocksOk f l B) : BlocksTo f l B 0 := ⟨fun _ hk => absurd hk (Nat.not_lt_zero _), fun k _ => h k⟩
theorem BlocksTo.next {f : Value → Value → Int} {p u s q : List Value} {B c : Nat} (h : BlocksTo f (p ++ u ++ q) B c) (hp : p.length = c * (2 * B)) (hu : u.length = 2 * B) (hs : s.length = 2 * B) (hr : OrdPure.Rising f s) : BlocksTo f (p ++ s ++ q) B (c + 1) := by
  refine ⟨BlocksUp.next h.1 hp (by omega) (.inl hs) hr, fun k hk => ?_⟩
  have h2 : (2 * (c + 1)) * B ≤ k * B := Nat.mul_le_mul_right _ hk
  have h3 : (2 * (c + 1)) * B = c * (2 * B) + 2 * B := by rw [Nat.mul_add, Nat.add_mul, Nat.mul_comm 2 c, Nat.mul_assoc]
  rw [OrdPure.seg_behind (s' := u) (by omega) (by omega)]
  exact h.2 k (by omega)
theorem BlocksTo.last {f : Value → Value → Int} {p u s : List Value} {B c : Nat} (h : BlocksTo f (p ++ u) B c) (hp : p.length = c * (2 * B)) (hs : s.length ≤ 2 * B) (hr : OrdPure.Rising f s) : BlocksOk f (p ++ s) (2 * B) := by
  have h1 : BlocksUp f (p ++ u ++ []) (2 * B) c := by rw [List.append_nil]; exact h.1
  have h2 := BlocksUp.next h1 hp hs (.inr rfl) hr
  rw [List.append_nil] at h2
  exact h2.all (by rw [List.length_append, Nat.add_mul]; omega)
theorem BlocksTo.short {f : Value → Value → Int} {l : List Value} {B c : Nat} (h : BlocksTo f l B c) (h1 : l.length ≤ c * (2 * B) + B) : BlocksOk f l (2 * B) := by
  have h2 : l = l.take (c * (2 * B)) ++ l.drop (c * (2 * B)) := (List.take_append_drop _ _).symm
  by_cases h3 : c * (2 * B) ≤ l.length
  · have h4 := h.2 (2 * c) (Nat.le_refl _)
    have h5 : 2 * c * B = c * (2 * B) := by rw [Nat.mul_comm 2 c, Nat.mul_assoc]
    rw [h5] at h4
    unfold OrdPure.seg at h4
    rw [List.take_of_length_le (by rw [List.length_drop]; omega)] at h4
    have h6 := h
    rw [h2] at h6 ⊢
    exact BlocksTo.last h6 (by rw [List.length_take]; omega) (by rw [List.length_drop]; omega) h4
  · exact h.1.all (by omega)
theorem BlocksTo.pair {f : Value → Value → Int} {l : List Value} {B c : Nat} (h : BlocksTo f l B c) : OrdPure.Rising f (OrdPure.seg l (c * (2 * B)) B) ∧ OrdPure.Rising f (OrdPure.seg l (c * (2 * B) + B) B) := by
  have h1 := h.2 (2 * c) (Nat.le_refl _)
  have h2 := h.2 (2 * c + 1) (by omega)
  have h5 : 2 * c * B = c * (2 * B) := by rw [Nat.mul_comm 2 c, Nat.mul_assoc]
  rw [Nat.add_mul, Nat.one_mul, h5] at h2
  rw [h5] at h1
  exact ⟨h1, h2⟩
theorem BlocksOk.whole {f : Value → Value → Int} {l : List Value} {B : Nat} (h : BlocksOk f l B) (hl : l.length ≤ B) : OrdPure.Rising f l := by
  have h1 := h 0
  rw [Nat.zero_mul, OrdPure.seg_all hl] at h1
  exact h1
theorem seg_one (l : List Value) (a n : Nat) (_h : a + n ≤ l.length) : l = l.take a ++ OrdPure.seg l a n ++ l.drop (a + n) ∧ (l.take a).length = a ∧ (OrdPure.seg l a n).length = n :=
  ⟨OrdPure.seg_three l a n, by rw [List.length_take]; omega, by rw [OrdPure.seg_length]; omega⟩
set_option maxRecDepth 100000 in
set_option maxHeartbeats 8000000 in
theorem stable_any (G : Nat) (pc : Value) (f : Value → Value → Int) (S : Value → Prop) (base g cap N : Nat) (w0 : World) (hc : CmpOk G pc f S g w0) (xs : List Value) (w : World) (hr : StRow S base g cap w0 w N xs) :
    Calls Tryz.prog 76 #[.slice (some ⟨g, 0, none⟩) N cap, .int .i64 N, .func (.func G) #[] #[pc]] w fun e w' => e = .returned (.tuple #[]) ∧ ∃ s, OrdPure.IsSort f xs s ∧ StRow S base g cap w0 w' N s := by
  obtain ⟨b1, b2, -, b3⟩ := hr.bound
  have HINS := Lib.hid (fun p u q a b w => insertion_any G pc f S base g cap N w0 hc p u q a b w)
  have HSYM := Lib.hid (fun p u v q a m b w (h : StRow S base g cap w0 w N (p ++ (u ++ v) ++ q)) => symMerge_any G pc f S base g cap N w0 hc _ p u v q a m b w (Nat.lt_succ_self _) h)
  have HP := Lib.hid hc.pre
  have HR := Lib.hid hr
  clear hr hc
  go_enter Tryz.func76, Tryz.ntmps76
  go_wp2_with fail
  go_loopw [7, 8] (fun a b wr => ∃ (c : Nat) (cur : List Value), c * 20 ≤ N ∧ a = .int .i64 ((c * 20 : Nat) : Int) ∧ b = .int .i64 ((c * 20 + 20 : Nat) : Int) ∧ BlocksUp f cur 20 c ∧ OrdPure.Stable f xs cur ∧ StRow S base g cap w0 wr N cur) (fun a _ _ => N + 20 - (intOf a).toNat)
  case atStart => exact ⟨0, xs, by omega, rfl, rfl, fun k hk => absurd hk (Nat.not_lt_zero _), OrdPure.Stable.refl _, HR.out⟩
  case round =>
    obtain ⟨c, cur, hcN, rfl, rfl, hb, hs, hw⟩ := hrel
    have HBU := Lib.hid hb
    have HST := Lib.hid hs
    have HW := Lib.hid hw
    obtain ⟨A, hA⟩ : ∃ A, A = c * 20 := ⟨_, rfl⟩
    rw [← hA] at hcN ⊢
    have HAA := Lib.hid hA
    clear hb hs hw hA
    by_cases hlt : A + 20 ≤ N
    · obtain ⟨t1, t2, t3⟩ := seg_one cur A 20 (by rw [HW.out.len]; exact hlt)
      have HCALL := Lib.hid (HINS.out (cur.take A) (OrdPure.seg cur A 20) (cur.drop (A + 20)) A (A + 20) wr (t1 ▸ HW.out) t2.symm (by rw [t3]))
      have HT1 := Lib.hid t1
      have HT2 := Lib.hid t2
      have HT3 := Lib.hid t3
      have e1 : ((A + 20 : Nat) : Int) = (A : Int) + 20 := by omega
      rw [e1] at HCALL
      clear t1 t2 t3
      generalize cur.take A = p at HCALL HT1 HT2
      generalize OrdPure.seg cur A 20 = u at HCALL HT1 HT3
      generalize cur.drop (A + 20) = q at HCALL HT1
      go_wp2_with fail
      refine HCALL.out.mono ?_
      rintro e w1 ⟨rfl, s, hs, hw⟩
      have HW1 := Lib.hid hw
      have HNB := Lib.hid (show BlocksUp f (p ++ s ++ q) 20 (c + 1) from BlocksUp.next (HT1.out ▸ HBU.out) (by rw [HT2.out, HAA.out]) (by rw [hs.length HP.out, HT3.out]; omega) (.inl (by rw [hs.length HP.out, HT3.out])) hs.1)
      have HNS := Lib.hid (show OrdPure.Stable f xs (p ++ s ++ q) from OrdPure.Stable.trans HST.out (by
        rw [HT1.out]
        exact OrdPure.Stable.append (OrdPure.Stable.append (OrdPure.Stable.refl p) hs.2) (OrdPure.Stable.refl q)))
      clear hs hw e1
      go_wp2_with fail
      go_roundw
      case rel => exact ⟨c + 1, _, by have := HAA.out; omega, by have := HAA.out; go_num, by have := HAA.out; go_num, HNB.out, HNS.out, HW1.out⟩
      case measure => have := HAA.out; simp [intOf]; omega
    · have hlen := HW.out.len
      have HT1 := Lib.hid (show cur = cur.take A ++ cur.drop A ++ [] by rw [List.append_nil, List.take_append_drop])
      have HT2 := Lib.hid (show (cur.take A).length = A by rw [List.length_take]; omega)
      have HT3 := Lib.hid (show (cur.drop A).length = N - A by rw [List.length_drop]; omega)
      have HCALL := Lib.hid (HINS.out (cur.take A) (cur.drop A) [] A N wr (HT1.out ▸ HW.out) HT2.out.symm (by rw [HT3.out]; omega))
      clear hlen
      generalize cur.take A = p at HCALL HT1 HT2
      generalize cur.drop A = u at HCALL HT1 HT3
      go_wp2_with fail
      refine HCALL.out.mono ?_
      rintro e w1 ⟨rfl, s, hs, hw⟩
      have HW1 := Lib.hid hw
      have HNB := Lib.hid (show BlocksOk f (p ++ s ++ []) 20 from BlocksUp.all (c := c + 1) (BlocksUp.next (HT1.out ▸ HBU.out) (by rw [HT2.out, HAA.out]) (by rw [hs.length HP.out, HT3.out]; omega) (.inr rfl) hs.1) (by
        rw [hw.len]
        have := HAA.out
        omega))
      have HNS := Lib.hid (show OrdPure.Stable f xs (p ++ s ++ []) from OrdPure.Stable.trans HST.out (by
        rw [HT1.out]
        exact OrdPure.Stable.append (OrdPure.Stable.append (OrdPure.Stable.refl p) hs.2) (OrdPure.Stable.refl [])))
      clear hs hw HT1 HT2 HT3 HCALL HBU HST HAA HW hlt hcN
      generalize p ++ s ++ [] = cur1 at HW1 HNB HNS
      go_wp2_with fail
      generalize w1 = wa at HW1 ⊢
      go_loopw [6, 7, 8, 9] (fun B _ _ _ wr => ∃ (b : Nat) (cur : List Value), 0 < b ∧ b ≤ 2000000 ∧ B = .int .i64 b ∧ BlocksOk f cur b ∧ OrdPure.Stable f xs cur ∧ StRow S base g cap w0 wr N cur) (fun B _ _ _ _ => N - (intOf B).toNat)
      case atStart => exact ⟨20, cur1, by omega, by omega, rfl, HNB.out, HNS.out, HW1.out⟩
      case round =>
        obtain ⟨B, cur2, hB0, hB1, rfl, hb, hs, hw⟩ := hrel
        have HBO := Lib.hid hb
        have HST := Lib.hid hs
        have HW := Lib.hid hw
        clear hb hs hw
        by_cases hlt : B < N
        · go_wp2_with fail
          generalize wr = wo at HW ⊢
          go_loopw [7, 8] (fun a b wr => ∃ (c : Nat) (cur : List Value), c * (2 * B) ≤ N ∧ a = .int .i64 ((c * (2 * B) : Nat) : Int) ∧ b = .int .i64 ((c * (2 * B) + 2 * B : Nat) : Int) ∧ BlocksTo f cur B c ∧ OrdPure.Stable f xs cur ∧ StRow S base g cap w0 wr N cur) (fun a _ _ => N + 1 - (intOf a).toNat)
          case atStart => exact ⟨0, cur2, by omega, by simp, by simp, HBO.out.to, HST.out, HW.out⟩
          case round =>
            obtain ⟨c, cur3, hcN, rfl, rfl, hb, hs, hw⟩ := hrel
            have HBT := Lib.hid hb
            have HS3 := Lib.hid hs
            have HW3 := Lib.hid hw
            obtain ⟨A, hA⟩ : ∃ A, A = c * (2 * B) := ⟨_, rfl⟩
            have HPR := Lib.hid hb.pair
            rw [← hA] at hcN HPR ⊢
            have HAA := Lib.hid hA
            have HAN := Lib.hid (show (c + 1) * (2 * B) = A + 2 * B by rw [Nat.add_mul, Nat.one_mul, hA])
            clear hb hs hw hA
            by_cases hlt2 : A + 2 * B ≤ N
            · have hlen := HW3.out.len
              have HT1 := Lib.hid (OrdPure.seg_four cur3 A B B)
              have HT2 := Lib.hid (show (cur3.take A).length = A by rw [List.length_take]; omega)
              have HT3 := Lib.hid (show (OrdPure.seg cur3 A B).length = B by rw [OrdPure.seg_length]; omega)
              have HT4 := Lib.hid (show (OrdPure.seg cur3 (A + B) B).length = B by rw [OrdPure.seg_length]; omega)
              have HCALL := Lib.hid (HSYM.out (cur3.take A) (OrdPure.seg cur3 A B) (OrdPure.seg cur3 (A + B) B) (cur3.drop (A + B + B)) A (A + B) (A + 2 * B) wr (HT1.out ▸ HW3.out) HT2.out.symm (by rw [HT3.out]) (by rw [HT4.out]; omega) (by rw [HT3.out]; exact hB0) (by rw [HT4.out]; exact hB0) HPR.out.1 HPR.out.2)
              have e1 : ((A + B : Nat) : Int) = (A : Int) + (B : Int) := by omega
              have e2 : ((A + 2 * B : Nat) : Int) = (A : Int) + 2 * (B : Int) := by omega
              rw [e1, e2] at HCALL
              clear hlen HPR
              generalize cur3.take A = p at HCALL HT1 HT2
              generalize OrdPure.seg cur3 A B = u at HCALL HT1 HT3
              generalize OrdPure.seg cur3 (A + B) B = v at HCALL HT1 HT4
              generalize cur3.drop (A + B + B) = q at HCALL HT1
              clear e1 e2
              go_wp2_with fail
              refine HCALL.out.mono ?_
              rintro e w1 ⟨rfl, s, hs, hw⟩
              have HW1 := Lib.hid hw
              have HNB := Lib.hid (show BlocksTo f (p ++ s ++ q) B (c + 1) from BlocksTo.next (HT1.out ▸ HBT.out) (by rw [HT2.out, HAA.out]) (by rw [List.length_append, HT3.out, HT4.out]; omega) (by rw [hs.length HP.out, List.length_append, HT3.out, HT4.out]; omega) hs.1)
              have HNS := Lib.hid (show OrdPure.Stable f xs (p ++ s ++ q) from OrdPure.Stable.trans HS3.out (by
                rw [HT1.out]
                exact OrdPure.Stable.append (OrdPure.Stable.append (OrdPure.Stable.refl p) hs.2) (OrdPure.Stable.refl q)))
              clear hs hw
              go_wp2_with fail
              go_roundw
              case rel => exact ⟨c + 1, _, by rw [HAN.out]; exact hlt2, by rw [HAN.out]; go_num, by rw [HAN.out]; go_num, HNB.out, HNS.out, HW1.out⟩
              case measure => simp [intOf]; omega
            · by_cases hlt3 : A + B < N
              · have hlen := HW3.out.len
                have HT1 := Lib.hid (show cur3 = cur3.take A ++ (OrdPure.seg cur3 A B ++ OrdPure.seg cur3 (A + B) B) ++ [] from by
                  have h := OrdPure.seg_four cur3 A B B
                  rwa [List.drop_of_length_le (show cur3.length ≤ A + B + B by omega)] at h)
                have HT2 := Lib.hid (show (cur3.take A).length = A by rw [List.length_take]; omega)
                have HT3 := Lib.hid (show (OrdPure.seg cur3 A B).length = B by rw [OrdPure.seg_length]; omega)
                have HT4 := Lib.hid (show (OrdPure.seg cur3 (A + B) B).length = N - (A + B) by rw [OrdPure.seg_length]; omega)
                have HCALL := Lib.hid (HSYM.out (cur3.take A) (OrdPure.seg cur3 A B) (OrdPure.seg cur3 (A + B) B) [] A (A + B) N wr (HT1.out ▸ HW3.out) HT2.out.symm (by rw [HT3.out]) (by rw [HT4.out]; omega) (by rw [HT3.out]; exact hB0) (by rw [HT4.out]; omega) HPR.out.1 HPR.out.2)
                have e1 : ((A + B : Nat) : Int) = (A : Int) + (B : Int) := by omega
                rw [e1] at HCALL
                clear hlen HPR
                generalize cur3.take A = p at HCALL HT1 HT2
                generalize OrdPure.seg cur3 A B = u at HCALL HT1 HT3
                generalize OrdPure.seg cur3 (A + B) B = v at HCALL HT1 HT4
                clear e1
                go_wp2_with fail
                refine HCALL.out.mono ?_
                rintro e w1 ⟨rfl, s, hs, hw⟩
                have HW1 := Lib.hid hw
                have HNB := Lib.hid (show BlocksOk f (p ++ s ++ []) (2 * B) from by
                  have h : BlocksTo f (p ++ (u ++ v)) B c := by
                    have h := HT1.out ▸ HBT.out
                    rwa [List.append_nil] at h
                  rw [List.append_nil]
                  exact BlocksTo.last h (by rw [HT2.out, HAA.out]) (by rw [hs.length HP.out, List.length_append, HT3.out, HT4.out]; omega) hs.1)
                have HNS := Lib.hid (show OrdPure.Stable f xs (p ++ s ++ []) from OrdPure.Stable.trans HS3.out (by
                  rw [HT1.out]
                  exact OrdPure.Stable.append (OrdPure.Stable.append (OrdPure.Stable.refl p) hs.2) (OrdPure.Stable.refl [])))
                clear hs hw
                go_wp2_with fail
                go_roundw
                case rel => exact ⟨2 * B, _, by omega, by omega, by go_num, HNB.out, HNS.out, HW1.out⟩
                case measure => simp [intOf]; omega
              · have HNB := Lib.hid (show BlocksOk f cur3 (2 * B) from HBT.out.short (by rw [HW3.out.len, ← HAA.out]; omega))
                clear HPR
                go_wp2_with fail
                go_roundw
                case rel => exact ⟨2 * B, _, by omega, by omega, by go_num, HNB.out, HS3.out, HW3.out⟩
                case measure => simp [intOf]; omega
        · have HFIN := Lib.hid (show OrdPure.IsSort f xs cur2 from ⟨HBO.out.whole (by rw [HW.out.len]; omega), HST.out⟩)
          go_wp2_with fail
          go_end0
          exact ⟨rfl, cur2, HFIN.out, HW.out⟩
set_option maxRecDepth 100000 in
theorem sortStable_any (G : Nat) (pc : Value) (f : Value → Value → Int) (S : Value → Prop) (base g cap N : Nat) (w0 : World) (hc : CmpOk G pc f S g w0) (xs : List Value) (w : World) (hr : StRow S base g cap w0 w N xs) :
    Calls Tryz.prog 58 #[.slice (some ⟨g, 0, none⟩) N cap, .func (.func G) #[] #[pc]] w fun e w' => e = .returned (.tuple #[]) ∧ ∃ s, OrdPure.IsSort f xs s ∧ StRow S base g cap w0 w' N s := by
  have HS := Lib.hid (stable_any G pc f S base g cap N w0 hc xs w hr)
  clear hr hc
  go_enter Tryz.func58, Tryz.ntmps58
  go_wp2_with fail
  refine HS.out.mono ?_
  rintro e w1 ⟨rfl, s, hs, hw⟩
  have HW := Lib.hid hw
  have HSO := Lib.hid hs
  clear hw hs
  go_wp2_with fail
  go_end0
  exact ⟨rfl, s, HSO.out, HW.out⟩
end Go.Proofs.YtaoegcakefodaaaGreat

namespace Go.Proofs.YtaoegcakefodaaaGreat
open Go.RowKit Go.BigFrame
theorem RdVals.one {w : World} {v : Value} {r r' : List V} (h : RdVals w v r) (h' : RdVals w v r') : r = r' := by
  obtain ⟨ao, c, e1, -, -, h1⟩ := h
  obtain ⟨ao', c', e2, -, -, h2⟩ := h'
  rw [e1] at e2
  simp only [Value.slice.injEq] at e2
  obtain ⟨rfl, hl, rfl⟩ := e2
  apply List.ext_getElem hl
  intro i hi hi'
  obtain ⟨g, off, e3, k1⟩ := h1 i hi
  obtain ⟨g', off', e4, k2⟩ := h2 i hi'
  rw [e3] at e4
  simp only [Option.some.injEq, Addr.mk.injEq, and_true] at e4
  obtain ⟨rfl, rfl⟩ := e4
  have a0 := (k1 0 _ rfl).symm.trans (k2 0 _ rfl)
  have a1 := (k1 1 _ rfl).symm.trans (k2 1 _ rfl)
  have a2 := (k1 2 _ rfl).symm.trans (k2 2 _ rfl)
  have b0 : r[i].k = r'[i].k := by simpa using a0
  have b1 : r[i].n = r'[i].n := by simpa using a1
  have b2 : r[i].s = r'[i].s := by simpa using a2
  generalize r[i] = x at b0 b1 b2
  generalize r'[i] = y at b0 b1 b2
  obtain ⟨xk, xn, xs⟩ := x
  obtain ⟨yk, yn, ys⟩ := y
  simp only at b0 b1 b2
  rw [b0, b1, b2]
open Classical in
noncomputable def rowOf (w : World) (v : Value) : List V := if h : ∃ r, RdVals w v r then h.choose else []
theorem rowOf_eq {w : World} {v : Value} {r : List V} (h : RdVals w v r) : rowOf w v = r := by
  have he : ∃ r, RdVals w v r := ⟨r, h⟩
  unfold rowOf
  rw [dif_pos he]
  exact RdVals.one he.choose_spec h
theorem rows_of {w : World} {hs : List Value} {rs : List (List V)} (h : HdRows w hs rs) : hs.map (rowOf w) = rs := by
  apply List.ext_getElem (by rw [List.length_map, h.1])
  intro i h1 h2
  rw [List.getElem_map]
  exact rowOf_eq (h.2 i (by simpa using h1) h2)
theorem OwnV.onlyP {base g base' n : Nat} {w w' : World} {u v : Value} {r : List V} {ys : List Value} (h : OwnV base w u r) (ho : w.ownsRow base' 58 1 v n ys) (hg : v.ownBlock = some g) (hw : OnlyP g w w') : OwnV base w' u r :=
  h.beside ho (OnlyS.of_onlyP hw hg)
theorem CopyRows.sorted {base g base' n : Nat} {w w' : World} {v : Value} {hs s : List Value} {rs : List (List V)} {ks : List Ky} (h : CopyRows base w hs rs) (ho : w.ownsRow base' 58 1 v n hs) (hg : v.ownBlock = some g) (hw : OnlyP g w w')
    (hs' : OrdPure.IsSort (fun x y => cmpR ks (rowOf w x) (rowOf w y)) hs s) : CopyRows base w' s (sortS ks rs) := by
  have hp : OrdPure.Pre fun x y => cmpR ks (rowOf w x) (rowOf w y) := (cmpR_pre ks).on (rowOf w)
  have h1 := hs'.map (cmpR_pre ks)
  rw [rows_of h.rd] at h1
  have h2 := sortS_eq h1
  rw [← h2]
  refine ⟨by rw [List.length_map], fun i hi hi' => ?_⟩
  rw [List.getElem_map]
  have hm : s[i] ∈ hs := (hs'.mem hp).1 (List.getElem_mem hi)
  obtain ⟨j, hj, e⟩ := List.mem_iff_getElem.1 hm
  have h3 := h.2 j hj (h.1 ▸ hj)
  rw [← e, rowOf_eq h3.rd]
  exact h3.onlyP ho hg hw
end Go.Proofs.YtaoegcakefodaaaGreat

namespace Go.Proofs.YtaoegcakefodaaaGreat
open Go.RowKit Go.BigFrame
theorem as_hit (u : Value) (w : World) : (Instr.typeAssert (.iface 4 u) 20 4 true).run Tryz.prog w = .ok (.tuple #[u, .bool true]) w ∧
    (Instr.typeAssert (.iface 3 u) 20 3 true).run Tryz.prog w = .ok (.tuple #[u, .bool true]) w ∧
    (Instr.typeAssert (.iface 9 u) 20 9 true).run Tryz.prog w = .ok (.tuple #[u, .bool true]) w := by
  simp [Instr.typeAssert, run_underlying Tryz.underlying4, run_underlying Tryz.underlying3, run_underlying Tryz.underlying9]
theorem as_miss (T : TypeId) (u : Value) (w : World) : (T ≠ 4 → (Instr.typeAssert (.iface T u) 20 4 true).run Tryz.prog w = .ok (.tuple #[.bool false, .bool false]) w) ∧
    (T ≠ 3 → (Instr.typeAssert (.iface T u) 20 3 true).run Tryz.prog w = .ok (.tuple #[.int .i64 0, .bool false]) w) ∧
    (T ≠ 9 → (Instr.typeAssert (.iface T u) 20 9 true).run Tryz.prog w = .ok (.tuple #[.string ⟨#[]⟩, .bool false]) w) := by
  refine ⟨fun h => ?_, fun h => ?_, fun h => ?_⟩ <;>
  simp [Instr.typeAssert, run_underlying Tryz.underlying4, run_underlying Tryz.underlying3, run_underlying Tryz.underlying9, Tryz.zeroValue4, Tryz.zeroValue3, Tryz.zeroValue9, h]
theorem as_nil (w : World) : (Instr.typeAssert .nilIface 20 4 true).run Tryz.prog w = .ok (.tuple #[.bool false, .bool false]) w ∧
    (Instr.typeAssert .nilIface 20 3 true).run Tryz.prog w = .ok (.tuple #[.int .i64 0, .bool false]) w ∧
    (Instr.typeAssert .nilIface 20 9 true).run Tryz.prog w = .ok (.tuple #[.string ⟨#[]⟩, .bool false]) w := by
  refine ⟨?_, ?_, ?_⟩ <;>
  simp [Instr.typeAssert, run_underlying Tryz.underlying4, run_underlying Tryz.underlying3, run_underlying Tryz.underlying9, Tryz.zeroValue4, Tryz.zeroValue3, Tryz.zeroValue9]
end Go.Proofs.YtaoegcakefodaaaGreat

namespace Go.Proofs.YtaoegcakefodaaaGreat
open Go.RowKit Go.BigFrame
theorem pNaN_u8 (a : Int) (w : World) : Calls Tryz.prog 117 #[.int .u8 a] w fun e w' => e = .returned (.bool false) ∧ w' = w := by
  go_enter Tryz.func117, Tryz.ntmps117
  go_wp2_with fail
  go_ret
  exact ⟨rfl, rfl⟩
theorem pNaN_int (a : Int) (w : World) : Calls Tryz.prog 137 #[.int .i64 a] w fun e w' => e = .returned (.bool false) ∧ w' = w := by
  go_enter Tryz.func137, Tryz.ntmps137
  go_wp2_with fail
  go_ret
  exact ⟨rfl, rfl⟩
theorem pCompare_u8 (a b : Int) (w : World) :
    Calls Tryz.prog 95 #[.int .u8 a, .int .u8 b] w fun e w' => e = .returned (.int .i64 (cmpN a b)) ∧ w' = w := by
  have HA := Lib.hid (pNaN_u8 a)
  have HB := Lib.hid (pNaN_u8 b)
  unfold cmpN
  by_cases h : a = b
  · subst h
    rw [if_pos rfl]
    go_enter Tryz.func95, Tryz.ntmps95
    go_wp2_with fail
    refine (HA.out _).mono ?_
    rintro e w' ⟨rfl, rfl⟩
    go_wp2_with fail
    refine (HA.out _).mono ?_
    rintro e w' ⟨rfl, rfl⟩
    go_wp2_with fail
    go_ret
    exact ⟨rfl, rfl⟩
  · rw [if_neg h]
    by_cases h2 : a < b
    · have hd : decide (a < b) = true := decide_eq_true h2
      rw [if_pos h2]
      clear h h2
      go_enter Tryz.func95, Tryz.ntmps95
      go_wp2_with fail
      refine (HA.out _).mono ?_
      rintro e w' ⟨rfl, rfl⟩
      go_wp2_with fail
      refine (HB.out _).mono ?_
      rintro e w' ⟨rfl, rfl⟩
      go_wp2_with fail
      go_ret
      exact ⟨rfl, rfl⟩
    · have hd : decide (a < b) = false := decide_eq_false h2
      have hd2 : decide (b < a) = true := decide_eq_true (by omega)
      rw [if_neg h2]
      clear h h2
      go_enter Tryz.func95, Tryz.ntmps95
      go_wp2_with fail
      refine (HA.out _).mono ?_
      rintro e w' ⟨rfl, rfl⟩
      go_wp2_with fail
      refine (HB.out _).mono ?_
      rintro e w' ⟨rfl, rfl⟩
      go_wp2_with fail
      go_ret
      exact ⟨rfl, rfl⟩
theorem pCompare_int (a b : Int) (w : World) :
    Calls Tryz.prog 119 #[.int .i64 a, .int .i64 b] w fun e w' => e = .returned (.int .i64 (cmpN a b)) ∧ w' = w := by
  have HA := Lib.hid (pNaN_int a)
  have HB := Lib.hid (pNaN_int b)
  unfold cmpN
  by_cases h : a = b
  · subst h
    rw [if_pos rfl]
    go_enter Tryz.func119, Tryz.ntmps119
    go_wp2_with fail
    refine (HA.out _).mono ?_
    rintro e w' ⟨rfl, rfl⟩
    go_wp2_with fail
    refine (HA.out _).mono ?_
    rintro e w' ⟨rfl, rfl⟩
    go_wp2_with fail
    go_ret
    exact ⟨rfl, rfl⟩
  · rw [if_neg h]
    by_cases h2 : a < b
    · have hd : decide (a < b) = true := decide_eq_true h2
      rw [if_pos h2]
      clear h h2
      go_enter Tryz.func119, Tryz.ntmps119
      go_wp2_with fail
      refine (HA.out _).mono ?_
      rintro e w' ⟨rfl, rfl⟩
      go_wp2_with fail
      refine (HB.out _).mono ?_
      rintro e w' ⟨rfl, rfl⟩
      go_wp2_with fail
      go_ret
      exact ⟨rfl, rfl⟩
    · have hd : decide (a < b) = false := decide_eq_false h2
      have hd2 : decide (b < a) = true := decide_eq_true (by omega)
      rw [if_neg h2]
      clear h h2
      go_enter Tryz.func119, Tryz.ntmps119
      go_wp2_with fail
      refine (HA.out _).mono ?_
      rintro e w' ⟨rfl, rfl⟩
      go_wp2_with fail
      refine (HB.out _).mono ?_
      rintro e w' ⟨rfl, rfl⟩
      go_wp2_with fail
      go_ret
      exact ⟨rfl, rfl⟩
theorem compareBytes_eq : ∀ (a b : List UInt8), Lib.compareBytes a b = cmpB a b
  | [], [] => rfl
  | [], _ :: _ => rfl
  | _ :: _, [] => rfl
  | x :: a, y :: b => by
    have ih := compareBytes_eq a b
    unfold Lib.compareBytes
    rw [ih]
    unfold cmpB
    rw [show Op.bytesLess (x :: a) (y :: b) = (decide (x < y) || (x == y && Op.bytesLess a b)) by simp only [Op.bytesLess]]
    by_cases hxy : x = y
    · subst hxy
      have hn : ¬ x < x := by simp
      rw [if_neg hn, if_neg hn]
      simp [hn]
    · rw [if_neg (fun h : x :: a = y :: b => hxy (List.cons.inj h).1)]
      by_cases hl : x < y
      · simp [hl]
      · have hg : y < x := by
          rcases Nat.lt_or_ge y.toNat x.toNat with h | h
          · exact h
          · exact absurd (UInt8.toNat_inj.1 (Nat.le_antisymm h (Nat.le_of_not_lt hl))) hxy
        simp [hl, hg, hxy]
set_option maxRecDepth 100000 in
theorem pCompareString (a b : ByteArray) (w : World) :
    Calls Tryz.prog 138 #[.string a, .string b] w fun e w' => e = .returned (.int .i64 (Lib.compareBytes a.data.toList b.data.toList)) ∧ w' = w := by
  go_enter Tryz.func138, Tryz.ntmps138
  go_wp2
  rw [run_callFunc_extern Tryz.func154 (by kernel_rfl) (by kernel_rfl) (by kernel_rfl) (e := Extern.BytealgCompare.compare) (by kernel_rfl), Lib.run_compareString]
  simp only [Result.andThen]
  rw [Oper.upon_value]
  go_wp2
  go_ret
  exact ⟨rfl, rfl⟩
theorem pCompare_text (a b : List UInt8) (w : World) :
    Calls Tryz.prog 120 #[.string ⟨a.toArray⟩, .string ⟨b.toArray⟩] w fun e w' => e = .returned (.int .i64 (cmpB a b)) ∧ w' = w := by
  have HC := Lib.hid (fun w => pCompareString ⟨a.toArray⟩ ⟨b.toArray⟩ w)
  simp only [compareBytes_eq] at HC
  go_enter Tryz.func120, Tryz.ntmps120
  go_wp2_with fail
  refine (HC.out _).mono ?_
  rintro e w' ⟨rfl, rfl⟩
  go_wp2_with fail
  go_ret
  exact ⟨rfl, rfl⟩
end Go.Proofs.YtaoegcakefodaaaGreat

namespace Go.Proofs.YtaoegcakefodaaaGreat
open Go.RowKit Go.BigFrame
def firstNZ : List Int → Int
  | [] => 0
  | x :: t => if x = 0 then firstNZ t else x
theorem pOr_any (x : Addr) (xs : List Int) (L cap : Nat) (w : World) (hL : L = xs.length) (h1 : L ≤ cap) (h2 : cap ≤ 9223372036854775807) (hc : ∀ i u, (xs.map (Value.int .i64))[i]? = some u → w.cell? (x.add i) = some u) :
    Calls Tryz.prog 118 #[.slice (some x) L cap] w fun e w' => e = .returned (.int .i64 (firstNZ xs)) ∧ w' = w := by
  have HL := Lib.hid hL
  have HC := Lib.hid hc
  clear hL hc
  go_enter Tryz.func118, Tryz.ntmps118
  go_wp2_with fail
  go_loopw [5, 8] (fun _ i wr => ∃ j : Nat, j ≤ L ∧ i = .int .i64 j ∧ firstNZ xs = firstNZ (xs.drop j) ∧ wr = w) (fun _ i _ => L - (intOf i).toNat)
  case atStart => exact ⟨0, Nat.zero_le _, rfl, rfl, rfl⟩
  case round =>
    obtain ⟨j, hj, rfl, hf, rfl⟩ := hrel
    have HF := Lib.hid hf
    clear hf
    by_cases hlt : j < L
    · have hjl : j < xs.length := by have := HL.out; omega
      have hc := HC.out j (.int .i64 xs[j]) (by rw [List.getElem?_map, List.getElem?_eq_getElem hjl]; rfl)
      have HD := Lib.hid (show firstNZ (xs.drop j) = if xs[j] = 0 then firstNZ (xs.drop (j + 1)) else xs[j] by rw [List.drop_eq_getElem_cons hjl]; rfl)
      generalize xs[j] = c at hc HD
      by_cases h0 : c = 0
      · subst h0
        have HE := Lib.hid (show firstNZ (xs.drop j) = firstNZ (xs.drop (j + 1)) by rw [HD.out, if_pos rfl])
        clear HD
        go_wp2_with fail
        go_roundw
        case rel => exact ⟨j + 1, by omega, by go_num, by rw [HF.out, HE.out], trivial⟩
        case measure => simp [intOf]; omega
      · have HE := Lib.hid (show firstNZ (xs.drop j) = c by rw [HD.out, if_neg h0])
        have hq : (c == 0) = false := beq_eq_false_iff_ne.2 h0
        clear HD h0
        go_wp2_with fail
        go_ret
        exact ⟨by rw [HF.out, HE.out]; rfl, rfl⟩
    · have hjL : xs.drop j = [] := List.drop_eq_nil_of_le (by have := HL.out; omega)
      have HE := Lib.hid (show firstNZ xs = 0 by rw [HF.out, hjL]; rfl)
      clear hjL
      go_wp2_with fail
      go_ret
      exact ⟨by rw [HE.out]; rfl, rfl⟩
theorem cmpV_firstNZ (a b : V) : cmpV a b = firstNZ [cmpN a.k b.k, cmpN a.n b.n, cmpB a.s b.s] := by
  unfold cmpV
  simp only [firstNZ]
  by_cases hk : a.k = b.k
  · rw [if_pos hk, if_pos (cmpN_zero.2 hk)]
    by_cases hn : a.n = b.n
    · rw [if_pos hn, if_pos (cmpN_zero.2 hn)]
      split
      · assumption
      · rfl
    · rw [if_neg hn, if_neg (fun h => hn (cmpN_zero.1 h))]
  · rw [if_neg hk, if_neg (fun h => hk (cmpN_zero.1 h))]
set_option maxRecDepth 100000 in
set_option maxHeartbeats 1000000 in
theorem Compare_any (a b : V) (_ha : a.fits) (_hb : b.fits) (_hal : a.s.length ≤ 5000) (_hbl : b.s.length ≤ 5000) (w : World) :
    Calls Tryz.prog 96 #[a.val, b.val] w fun e w' => e = .returned (.int .i64 (cmpV a b)) ∧ Ext w w' := by
  rw [cmpV_firstNZ]
  clear _ha _hb _hal _hbl
  obtain ⟨k, n, s⟩ := a
  obtain ⟨k', n', s'⟩ := b
  unfold V.val
  simp only
  have H1 := Lib.hid (pCompare_u8 k k')
  have H2 := Lib.hid (pCompare_int n n')
  have H3 := Lib.hid (pCompare_text s s')
  generalize cmpN k k' = x1 at H1 ⊢
  generalize cmpN n n' = x2 at H2 ⊢
  generalize cmpB s s' = x3 at H3 ⊢
  go_enter Tryz.func96, Tryz.ntmps96
  go_wp2_with fail
  have HX := Lib.hid (ext_two w (.cells #[.int .u8 k, .int .i64 n, .string ⟨s.toArray⟩] 56) (.cells #[.int .u8 k', .int .i64 n', .string ⟨s'.toArray⟩] 56))
  have ha := cells_two0 w [.int .u8 k, .int .i64 n, .string ⟨s.toArray⟩] [.int .u8 k', .int .i64 n', .string ⟨s'.toArray⟩] 56
  have hb := cells_two1 w [.int .u8 k, .int .i64 n, .string ⟨s.toArray⟩] [.int .u8 k', .int .i64 n', .string ⟨s'.toArray⟩] 56
  generalize (w.alloc (.cells #[.int .u8 k, .int .i64 n, .string ⟨s.toArray⟩] 56)).alloc (.cells #[.int .u8 k', .int .i64 n', .string ⟨s'.toArray⟩] 56) = W at ha hb HX ⊢
  have ha0 := later_cell ha 0 _ rfl
  have ha1 := later_cell ha 1 _ rfl
  have ha2 := later_cell ha 2 _ rfl
  have hb0 := later_cell hb 0 _ rfl
  have hb1 := later_cell hb 1 _ rfl
  have hb2 := later_cell hb 2 _ rfl
  clear ha hb
  refine wp_region_segs Ext Ext.keeps [([0, 1, 2, 3, 5, 6, 7, 8, 10, 11, 12, 13], some 4), ([], some 9), ([], some 14), ([], some 15), ([], some 16), ([17], none)] (by kernel_rfl) (by kernel_rfl) (fun c a a' w e h => (by exact ⟨e ▸ h.1, h.2⟩)) ?_
  simp only [pickSegs, pickOps, List.map_cons, List.map_nil, Option.map_some, Option.map_none, Option.getD_some, List.getElem?_toArray, List.getElem?_cons_zero, List.getElem?_cons_succ]
  refine wpSegs_some fun K hK => ?_
  repeat go_big_quiet_step (fail)
  refine wpQuiet_nil ?_
  clear ha0 ha1 ha2 hb0 hb1 hb2
  go_wp2_with fail
  refine (H1.out _).mono ?_
  rintro e w2 ⟨rfl, rfl⟩
  go_wp2_with fail
  refine ⟨Ext.keeps.refl _, hK _ _ ?_⟩
  clear hK K
  refine wpSegs_some fun K hK => ?_
  refine wpQuiet_nil ?_
  go_wp2_with fail
  refine (H2.out _).mono ?_
  rintro e w2 ⟨rfl, rfl⟩
  go_wp2_with fail
  refine ⟨Ext.keeps.refl _, hK _ _ ?_⟩
  clear hK K
  refine wpSegs_some fun K hK => ?_
  refine wpQuiet_nil ?_
  go_wp2_with fail
  refine (H3.out _).mono ?_
  rintro e w2 ⟨rfl, rfl⟩
  go_wp2_with fail
  refine ⟨Ext.keeps.refl _, hK _ _ ?_⟩
  clear hK K
  refine wpSegs_some fun K hK => ?_
  refine wpQuiet_nil ?_
  go_wp2_with fail
  have HO := Lib.hid (pOr_any ⟨W.heap.size, 0, none⟩ [x1, x2, x3] 3 3 (W.drew.alloc (.cells #[.int .i64 x1, .int .i64 x2, .int .i64 x3] 3)) rfl (by decide) (by decide) (fun i u hu => by rw [add_at, Nat.zero_add]; exact new_cell W.drew [.int .i64 x1, .int .i64 x2, .int .i64 x3] 3 i u hu))
  have HY := Lib.hid (ext_one W.drew (.cells #[.int .i64 x1, .int .i64 x2, .int .i64 x3] 3))
  rw [show (W.alloc (.cells #[.int .i64 x1, .int .i64 x2, .int .i64 x3] 3)).drew = W.drew.alloc (.cells #[.int .i64 x1, .int .i64 x2, .int .i64 x3] 3) from rfl]
  rw [show (⟨W.heap.size, 0, none⟩ : Addr) = ⟨W.drew.heap.size, 0, none⟩ from rfl] at HO
  generalize W.drew.alloc (.cells #[.int .i64 x1, .int .i64 x2, .int .i64 x3] 3) = W2 at HY HO ⊢
  refine ⟨HY.out, hK _ _ ?_⟩
  clear hK K
  refine wpSegs_some fun K hK => ?_
  refine wpQuiet_nil ?_
  go_wp2_with fail
  refine HO.out.mono ?_
  rintro e w2 ⟨rfl, rfl⟩
  go_wp2_with fail
  refine ⟨Ext.keeps.refl _, hK _ _ ?_⟩
  clear hK K
  refine wpSegs_none ?_
  repeat go_big_quiet_step (fail)
  refine wpQuiet_nil (wpSegs_nil ?_)
  go_wp2_with fail
  go_ret
  exact ⟨rfl, Ext.trans HX.out (Ext.trans (Ext.drew _) HY.out)⟩
end Go.Proofs.YtaoegcakefodaaaGreat

