/-
  Texts of this proof, merged.
-/
import Derived.BigRegion
import Derived.Test.YtaoegcakefodaaaGreatZ1
import Derived.Test.YtaoegcakefodaaaGreatZ5
import Derived.Test.YtaoegcakefodaaaGreatZ6
namespace Go.Proofs.YtaoegcakefodaaaGreat
open Go.RowKit Go.BigFrame
structure StRow (S : Value → Prop) (base g cap : Nat) (w0 w : World) (N : Nat) (xs : List Value) : Prop where
  len : xs.length = N
  small : N ≤ 1000000
  own : w.ownsRow base 58 1 (.slice (some ⟨g, 0, none⟩) N cap) N xs
  only : OnlyP g w0 w
  shape : ∀ x ∈ xs, S x ∧ ∃ a l c, x = Value.slice a l c
theorem StRow.cell {S : Value → Prop} {base g cap N : Nat} {w0 w : World} {xs : List Value} (h : StRow S base g cap w0 w N xs) (i : Nat) (u : Value) (hu : xs[i]? = some u) : w.cell? ⟨g, i, none⟩ = some u := by
  have hi : i < xs.length := (List.getElem?_eq_some_iff.1 hu).1
  rw [h.own.cellAt i (by have := h.len; omega), hu]
theorem StRow.free {S : Value → Prop} {base g cap N : Nat} {w0 w : World} {xs : List Value} (h : StRow S base g cap w0 w N xs) (i : Nat) : w.frozen? ⟨g, i, none⟩ = false := h.own.frozenAt i
theorem StRow.ext {S : Value → Prop} {base g cap N : Nat} {w0 w w' : World} {xs : List Value} (h : StRow S base g cap w0 w N xs) (hx : Ext w w') : StRow S base g cap w0 w' N xs :=
  ⟨h.len, h.small, owns_extS h.own hx, OnlyP.trans h.only (OnlyP.of_ext hx), h.shape⟩
theorem StRow.set {S : Value → Prop} {base g cap N : Nat} {w0 w : World} {xs : List Value} (h : StRow S base g cap w0 w N xs) (i : Nat) (u : Value) (hu : S u ∧ ∃ a l c, u = Value.slice a l c) : StRow S base g cap w0 (w.setCell ⟨g, i, none⟩ u) N (xs.set i u) :=
  ⟨by rw [List.length_set]; exact h.len, h.small, (h.own.stored i u).1, OnlyP.trans h.only (OnlyP.set g i w u), fun x hx => by
    rcases List.mem_or_eq_of_mem_set hx with h1 | rfl
    · exact h.shape x h1
    · exact hu⟩
theorem StRow.slice {S : Value → Prop} {base g cap N : Nat} {w0 w : World} {xs : List Value} (h : StRow S base g cap w0 w N xs) {i : Nat} (hi : i < xs.length) : ∃ a l c, xs[i]? = some (Value.slice a l c) ∧ S (Value.slice a l c) := by
  obtain ⟨hs, a, l, c, e⟩ := h.shape xs[i] (List.getElem_mem hi)
  exact ⟨a, l, c, by rw [List.getElem?_eq_getElem hi, e], e ▸ hs⟩
theorem StRow.bound {S : Value → Prop} {base g cap N : Nat} {w0 w : World} {xs : List Value} (h : StRow S base g cap w0 w N xs) : N ≤ cap ∧ cap ≤ 9223372036854775807 ∧ base ≤ g ∧ N ≤ 1000000 := by
  rcases h.own.2 with ⟨h', _⟩ | ⟨g', cap', cur, h', hb, hg, hnc, hcm, hcs, htake⟩
  · simp at h'
  · simp only [Value.slice.injEq, Option.some.injEq, Addr.mk.injEq, and_true, true_and] at h'
    obtain ⟨rfl, rfl⟩ := h'
    exact ⟨hnc, by unfold maxLen at hcm; omega, hb, h.small⟩
structure CmpOk (G : Nat) (pc : Value) (f : Value → Value → Int) (S : Value → Prop) (g : Nat) (w0 : World) : Prop where
  pre : OrdPure.Pre f
  enters : ∀ args w, (callFunc G args).run Tryz.prog w = .ok (.enter G args) w
  call : ∀ x y, S x → S y → ∀ W, OnlyP g w0 W → Calls Tryz.prog G #[x, y, pc] W fun e w' => e = .returned (.int .i64 (f x y)) ∧ Ext W w'
def swapL (xs : List Value) (i j : Nat) : List Value := match xs[i]?, xs[j]? with | some a, some b => (xs.set i b).set j a | _, _ => xs
theorem swapL_eq {xs : List Value} {i j : Nat} {a b : Value} (ha : xs[i]? = some a) (hb : xs[j]? = some b) : swapL xs i j = (xs.set i b).set j a := by unfold swapL; rw [ha, hb]
theorem swapL_length (xs : List Value) (i j : Nat) : (swapL xs i j).length = xs.length := by
  unfold swapL
  split <;> simp
theorem swapL_at {xs : List Value} {i j : Nat} {a b : Value} (ha : xs[i]? = some a) (hb : xs[j]? = some b) (k : Nat) : (swapL xs i j)[k]? = if k = j then some a else if k = i then some b else xs[k]? := by
  rw [swapL_eq ha hb]
  have hi := (List.getElem?_eq_some_iff.1 ha).1
  have hj := (List.getElem?_eq_some_iff.1 hb).1
  by_cases h1 : k = j
  · subst h1
    rw [if_pos rfl, List.getElem?_set_self (by rw [List.length_set]; exact hj)]
  · rw [if_neg h1, List.getElem?_set_ne (fun e => h1 e.symm)]
    by_cases h2 : k = i
    · subst h2
      rw [if_pos rfl, List.getElem?_set_self hi]
    · rw [if_neg h2, List.getElem?_set_ne (fun e => h2 e.symm)]
def SwapTo (xs cur : List Value) (a b k : Nat) : Prop :=
  cur.length = xs.length ∧ ∀ j, cur[j]? = if a ≤ j ∧ j < a + k then xs[j - a + b]? else if b ≤ j ∧ j < b + k then xs[j - b + a]? else xs[j]?
theorem SwapTo.start (xs : List Value) (a b : Nat) : SwapTo xs xs a b 0 := ⟨rfl, fun j => by rw [if_neg (by omega), if_neg (by omega)]⟩
theorem SwapTo.next {xs cur : List Value} {a b k n : Nat} (h : SwapTo xs cur a b k) (hab : a + n ≤ b) (hk : k < n) (hb : b + n ≤ xs.length) : SwapTo xs (swapL cur (a + k) (b + k)) a b (k + 1) := by
  obtain ⟨h1, h2⟩ := h
  obtain ⟨x, hx⟩ : ∃ x, cur[a + k]? = some x := ⟨_, List.getElem?_eq_getElem (by omega)⟩
  obtain ⟨y, hy⟩ : ∃ y, cur[b + k]? = some y := ⟨_, List.getElem?_eq_getElem (by omega)⟩
  refine ⟨by rw [swapL_length, h1], fun j => ?_⟩
  rw [swapL_at hx hy]
  have e1 := h2 (a + k)
  rw [if_neg (by omega), if_neg (by omega), hx] at e1
  have e2 := h2 (b + k)
  rw [if_neg (by omega), if_neg (by omega), hy] at e2
  by_cases hj1 : j = b + k
  · subst hj1
    rw [if_pos rfl, if_neg (by omega), if_pos (by omega), e1]
    congr 1; omega
  · rw [if_neg hj1]
    by_cases hj2 : j = a + k
    · subst hj2
      rw [if_pos rfl, if_pos (by omega), e2]
      congr 1; omega
    · rw [if_neg hj2, h2 j]
      by_cases c1 : a ≤ j ∧ j < a + k
      · rw [if_pos c1, if_pos (show a ≤ j ∧ j < a + (k + 1) by omega)]
      · rw [if_neg c1, if_neg (show ¬ (a ≤ j ∧ j < a + (k + 1)) by omega)]
        by_cases c2 : b ≤ j ∧ j < b + k
        · rw [if_pos c2, if_pos (show b ≤ j ∧ j < b + (k + 1) by omega)]
        · rw [if_neg c2, if_neg (show ¬ (b ≤ j ∧ j < b + (k + 1)) by omega)]
theorem SwapTo.done {p x y z q : List Value} {cur : List Value} {a b n : Nat} (ha : a = p.length) (hx : x.length = n) (hz : z.length = n) (hb : b = a + n + y.length) (h : SwapTo (p ++ x ++ y ++ z ++ q) cur a b n) : cur = p ++ z ++ y ++ x ++ q := by
  apply List.ext_getElem?
  intro j
  rw [h.2 j]
  subst ha
  by_cases c1 : p.length ≤ j ∧ j < p.length + n
  · rw [if_pos c1]
    obtain ⟨d, rfl⟩ : ∃ d, j = p.length + d := ⟨j - p.length, by omega⟩
    have e1 : (p ++ z ++ y ++ x ++ q)[p.length + d]? = z[d]? := by
      simp only [List.append_assoc]
      rw [List.getElem?_append_right (by omega), List.getElem?_append_left (by omega)]
      congr 1; omega
    have e2 : (p ++ x ++ y ++ z ++ q)[p.length + d - p.length + b]? = z[d]? := by
      rw [List.getElem?_append_left (by simp only [List.length_append]; omega), List.getElem?_append_right (by simp only [List.length_append]; omega)]
      congr 1; simp only [List.length_append]; omega
    rw [e1, e2]
  · rw [if_neg c1]
    by_cases c2 : b ≤ j ∧ j < b + n
    · rw [if_pos c2]
      obtain ⟨d, rfl⟩ : ∃ d, j = b + d := ⟨j - b, by omega⟩
      have e1 : (p ++ z ++ y ++ x ++ q)[b + d]? = x[d]? := by
        rw [List.getElem?_append_left (by simp only [List.length_append]; omega), List.getElem?_append_right (by simp only [List.length_append]; omega)]
        congr 1; simp only [List.length_append]; omega
      have e2 : (p ++ x ++ y ++ z ++ q)[b + d - b + p.length]? = x[d]? := by
        simp only [List.append_assoc]
        rw [List.getElem?_append_right (by omega), List.getElem?_append_left (by omega)]
        congr 1; omega
      rw [e1, e2]
    · rw [if_neg c2]
      by_cases c3 : j < p.length
      · rw [List.append_assoc, List.append_assoc, List.append_assoc, List.append_assoc, List.append_assoc, List.append_assoc, List.getElem?_append_left c3, List.getElem?_append_left c3]
      · by_cases c4 : j < b
        · have e1 : ∀ s t : List Value, s.length = n → (p ++ s ++ y ++ t ++ q)[j]? = y[j - p.length - n]? := fun s t hs => by
            rw [List.append_assoc, List.getElem?_append_left (by simp only [List.length_append]; omega), List.getElem?_append_right (by simp only [List.length_append]; omega)]
            congr 1; simp only [List.length_append]; omega
          rw [e1 _ _ hx, e1 _ _ hz]
        · have e1 : ∀ s t : List Value, s.length = n → t.length = n → (p ++ s ++ y ++ t ++ q)[j]? = q[j - b - n]? := fun s t hs ht => by
            rw [List.getElem?_append_right (by simp only [List.length_append]; omega)]
            congr 1; simp only [List.length_append]; omega
          rw [e1 _ _ hx hz, e1 _ _ hz hx]
end Go.Proofs.YtaoegcakefodaaaGreat

namespace Go.Proofs.YtaoegcakefodaaaGreat
open Go.RowKit Go.BigFrame
theorem StRow.swapped {S : Value → Prop} {base g cap N : Nat} {w0 w : World} {xs : List Value} (h : StRow S base g cap w0 w N xs) {i j : Nat} {a b : Value} (ha : xs[i]? = some a) (hb : xs[j]? = some b) :
    StRow S base g cap w0 ((w.setCell ⟨g, i, none⟩ b).setCell ⟨g, j, none⟩ a) N (swapL xs i j) := by
  rw [swapL_eq ha hb]
  exact (h.set i b (h.shape b (List.mem_of_getElem? hb))).set j a (h.shape a (List.mem_of_getElem? ha))
set_option maxRecDepth 100000 in
theorem swapRange_any (S : Value → Prop) (base g cap N : Nat) (w0 : World) (c : Value) (p x y z q : List Value) (a b n : Nat) (w : World) (hr : StRow S base g cap w0 w N (p ++ x ++ y ++ z ++ q)) (ha : a = p.length) (hx : x.length = n) (hz : z.length = n) (hb : b = a + n + y.length) :
    Calls Tryz.prog 139 #[.slice (some ⟨g, 0, none⟩) N cap, .int .i64 a, .int .i64 b, .int .i64 n, c] w fun e w' => e = .returned (.tuple #[]) ∧ StRow S base g cap w0 w' N (p ++ z ++ y ++ x ++ q) := by
  obtain ⟨b1, b2, -, b3⟩ := hr.bound
  have hN : b + n ≤ N := by have := hr.len; simp only [List.length_append] at this; omega
  have HD := Lib.hid (fun cur (h : SwapTo (p ++ x ++ y ++ z ++ q) cur a b n) => SwapTo.done ha hx hz hb h)
  have HL := Lib.hid hr.len
  have HR := Lib.hid hr
  have hab : a + n ≤ b := by omega
  clear hr ha hx hz hb
  generalize p ++ x ++ y ++ z ++ q = xs at HD HL HR
  generalize p ++ z ++ y ++ x ++ q = ys at HD ⊢
  go_enter Tryz.func139, Tryz.ntmps139
  go_wp2_with fail
  go_loopw [10] (fun i wr => ∃ (j : Nat) (cur : List Value), j ≤ n ∧ i = .int .i64 j ∧ SwapTo xs cur a b j ∧ StRow S base g cap w0 wr N cur) (fun i _ => n - (intOf i).toNat)
  case atStart => exact ⟨0, _, Nat.zero_le _, rfl, SwapTo.start xs a b, HR.out⟩
  case round =>
    obtain ⟨j, cur, hj, rfl, hs, hw⟩ := hrel
    have HS := Lib.hid hs
    have HW := Lib.hid hw
    clear hs hw
    by_cases hlt : j < n
    · obtain ⟨ua, ul, uc, hu, -⟩ := HW.out.slice (i := a + j) (by have := HS.out.1; have := HL.out; omega)
      obtain ⟨va, vl, vc, hv, -⟩ := HW.out.slice (i := b + j) (by have := HS.out.1; have := HL.out; omega)
      have c1 := HW.out.cell _ _ hu
      have c2 := HW.out.cell _ _ hv
      have f1 := HW.out.free (a + j)
      have f2 := HW.out.free (b + j)
      have HU := Lib.hid hu
      have HV := Lib.hid hv
      have HNX := Lib.hid (HS.out.next hab hlt (by have := HL.out; omega))
      clear hu hv
      go_wp2_with fail
      go_region
      all_goals go_wp2_with fail
      all_goals go_roundw
      case rel => exact ⟨j + 1, _, by omega, by go_num, HNX.out, (HW.out.swapped HU.out HV.out).ext (Ext.drew _)⟩
      case measure => simp [intOf]; omega
    · have HE := Lib.hid (HD.out _ ((show j = n by omega) ▸ HS.out))
      go_wp2_with fail
      go_end0
      exact ⟨rfl, HE.out ▸ HW.out⟩
def TurnTo (ys cur : List Value) (m i j : Nat) : Prop := ∃ P U V Q, cur = P ++ U ++ V ++ Q ∧ ys = P ++ V ++ U ++ Q ∧ U.length = i ∧ V.length = j ∧ P.length + i = m
set_option maxRecDepth 100000 in
set_option maxHeartbeats 2000000 in
theorem rotate_any (S : Value → Prop) (base g cap N : Nat) (w0 : World) (c : Value) (p u v q : List Value) (a m b : Nat) (w : World) (hr : StRow S base g cap w0 w N (p ++ u ++ v ++ q)) (ha : a = p.length) (hm : m = a + u.length) (hb : b = m + v.length) (hu : 0 < u.length) (hv : 0 < v.length) :
    Calls Tryz.prog 121 #[.slice (some ⟨g, 0, none⟩) N cap, .int .i64 a, .int .i64 m, .int .i64 b, c] w fun e w' => e = .returned (.tuple #[]) ∧ StRow S base g cap w0 w' N (p ++ v ++ u ++ q) := by
  obtain ⟨b1, b2, -, b3⟩ := hr.bound
  have hN : b ≤ N := by have := hr.len; simp only [List.length_append] at this; omega
  have HT := Lib.hid (show TurnTo (p ++ v ++ u ++ q) (p ++ u ++ v ++ q) m (m - a) (b - m) from ⟨p, u, v, q, rfl, rfl, by omega, by omega, by omega⟩)
  have HR := Lib.hid hr
  have HSW := Lib.hid (fun p x y z q a b n w => swapRange_any S base g cap N w0 c p x y z q a b n w)
  have ham : a < m := by omega
  have hmb : m < b := by omega
  clear hr ha hm hb hu hv
  generalize p ++ u ++ v ++ q = xs at HT HR
  generalize p ++ v ++ u ++ q = ys at HT ⊢
  go_enter Tryz.func121, Tryz.ntmps121
  go_wp2_with fail
  go_loopw [10, 11] (fun i j wr => ∃ (I J : Nat) (cur : List Value), 0 < I ∧ 0 < J ∧ I ≤ m ∧ m + J ≤ N ∧ i = .int .i64 I ∧ j = .int .i64 J ∧ TurnTo ys cur m I J ∧ StRow S base g cap w0 wr N cur) (fun i j _ => (intOf i).toNat + (intOf j).toNat)
  case atStart => exact ⟨m - a, b - m, _, by omega, by omega, by omega, by omega, by go_num, by go_num, HT.out, HR.out⟩
  case round =>
    obtain ⟨I, J, cur, hI, hJ, hIm, hJN, rfl, rfl, ht, hw⟩ := hrel
    have HW := Lib.hid hw
    obtain ⟨P, U, V, Q, rfl, rfl, hU, hV, hP⟩ := ht
    clear hw
    by_cases hIJ : I = J
    · have q1 : ((I : Int) != (J : Int)) = false := by simp [hIJ]
      have HC := Lib.hid (HSW.out P U [] V Q (m - I) m I wr (by rw [List.append_nil]; exact HW.out) (by omega) hU (by omega) (by simp; omega))
      rw [List.append_nil] at HC
      have e1 : ((m - I : Nat) : Int) = (m : Int) - (I : Int) := by omega
      rw [e1] at HC
      clear hU hV hP hIJ e1
      go_wp2_with fail
      refine HC.out.mono ?_
      rintro e w1 ⟨rfl, hw⟩
      have HW1 := Lib.hid hw
      clear hw
      go_wp2_with fail
      go_end0
      exact ⟨rfl, HW1.out⟩
    · have q1 : ((I : Int) != (J : Int)) = true := bne_iff_ne.2 (by omega)
      have hne : I < J ∨ J < I := by omega
      clear hIJ
      by_cases hgt : J < I
      · have hx : (U.take J).length = J := by rw [List.length_take]; omega
        have HC := Lib.hid (HSW.out P (U.take J) (U.drop J) V Q (m - I) m J wr (by rw [List.append_assoc P, List.take_append_drop]; exact HW.out) (by omega) hx hV (by rw [List.length_drop]; omega))
        have HTT := Lib.hid (show TurnTo (P ++ V ++ U ++ Q) (P ++ V ++ U.drop J ++ U.take J ++ Q) m (I - J) J from ⟨P ++ V, U.drop J, U.take J, Q, rfl, by rw [List.append_assoc (P ++ V) (U.take J) (U.drop J), List.take_append_drop], by rw [List.length_drop]; omega, hx, by rw [List.length_append]; omega⟩)
        have e1 : ((m - I : Nat) : Int) = (m : Int) - (I : Int) := by omega
        rw [e1] at HC
        clear hU hV hP hx e1
        generalize P ++ V ++ U.drop J ++ U.take J ++ Q = cur2 at HC HTT
        go_wp2_with fail
        refine HC.out.mono ?_
        rintro e w1 ⟨rfl, hw⟩
        have HW1 := Lib.hid hw
        clear hw
        go_wp2_with fail
        go_roundw
        case rel => exact ⟨I - J, J, cur2, by omega, by omega, by omega, by omega, by go_num, rfl, HTT.out, HW1.out⟩
        case measure => simp [intOf]; omega
      · have hx : (V.drop (J - I)).length = I := by rw [List.length_drop]; omega
        have HC := Lib.hid (HSW.out P U (V.take (J - I)) (V.drop (J - I)) Q (m - I) (m + J - I) I wr (by rw [List.append_assoc (P ++ U), List.take_append_drop]; exact HW.out) (by omega) hU hx (by rw [List.length_take]; omega))
        have HTT := Lib.hid (show TurnTo (P ++ V ++ U ++ Q) (P ++ V.drop (J - I) ++ V.take (J - I) ++ U ++ Q) m I (J - I) from ⟨P, V.drop (J - I), V.take (J - I), U ++ Q, by simp, by rw [List.append_assoc P (V.take _), List.take_append_drop]; simp, hx, by rw [List.length_take]; omega, by omega⟩)
        have e1 : ((m - I : Nat) : Int) = (m : Int) - (I : Int) := by omega
        have e2 : ((m + J - I : Nat) : Int) = (m : Int) + (J : Int) - (I : Int) := by omega
        rw [e1, e2] at HC
        have hlt : I < J := by omega
        clear hU hV hP hx e1 e2 hne
        generalize P ++ V.drop (J - I) ++ V.take (J - I) ++ U ++ Q = cur2 at HC HTT
        go_wp2_with fail
        refine HC.out.mono ?_
        rintro e w1 ⟨rfl, hw⟩
        have HW1 := Lib.hid hw
        clear hw
        go_wp2_with fail
        go_roundw
        case rel => exact ⟨I, J - I, cur2, by omega, by omega, by omega, by omega, rfl, by go_num, HTT.out, HW1.out⟩
        case measure => simp [intOf]; omega
end Go.Proofs.YtaoegcakefodaaaGreat

namespace Go.Proofs.YtaoegcakefodaaaGreat
open Go.RowKit Go.BigFrame
def InsTo (f : Value → Value → Int) (p s r : List Value) (x : Value) (cur : List Value) (j : Nat) : Prop :=
  ∃ s1 s2, s = s1 ++ s2 ∧ cur = p ++ s1 ++ x :: (s2 ++ r) ∧ j = p.length + s1.length ∧ ∀ y ∈ s2, 0 < f y x
theorem InsTo.at {f : Value → Value → Int} {p s r : List Value} {x : Value} {cur : List Value} {j : Nat} (h : InsTo f p s r x cur j) : cur[j]? = some x := by
  obtain ⟨s1, s2, -, rfl, rfl, -⟩ := h
  rw [← List.length_append]
  simp
theorem InsTo.le {f : Value → Value → Int} {p s r : List Value} {x : Value} {cur : List Value} {j : Nat} (h : InsTo f p s r x cur j) : p.length ≤ j := by
  obtain ⟨s1, s2, -, -, rfl, -⟩ := h
  omega
theorem InsTo.next {f : Value → Value → Int} {p s r : List Value} {x y : Value} {cur : List Value} {j : Nat} (h : InsTo f p s r x cur j) (hj : p.length < j) (hy : cur[j - 1]? = some y) (hf : 0 < f y x) :
    InsTo f p s r x (swapL cur j (j - 1)) (j - 1) := by
  have hx := h.at
  obtain ⟨s1, s2, rfl, rfl, rfl, h2⟩ := h
  have hne : s1 ≠ [] := by rintro rfl; simp at hj
  obtain ⟨t, z, rfl⟩ : ∃ t z, s1 = t ++ [z] := ⟨s1.dropLast, s1.getLast hne, (List.dropLast_concat_getLast hne).symm⟩
  have e1 : p.length + (t ++ [z]).length - 1 = (p ++ t).length := by simp
  have e2 : p.length + (t ++ [z]).length = (p ++ t).length + 1 := by simp; omega
  have e3 : p ++ (t ++ [z]) ++ x :: (s2 ++ r) = (p ++ t) ++ z :: x :: (s2 ++ r) := by simp
  rw [e1, e3] at hy
  rw [e2, e3] at hx
  have hzy : z = y := by
    rw [(OrdPure.at_next rfl).1] at hy
    exact Option.some.inj hy
  subst hzy
  refine ⟨t, z :: s2, by simp, ?_, by rw [e1, List.length_append], ?_⟩
  · rw [e1, e2, e3, swapL_eq hx (OrdPure.at_next rfl).1, (OrdPure.swap_next rfl).2]
    simp
  · intro y hy
    rcases List.mem_cons.1 hy with rfl | hy
    · exact hf
    · exact h2 y hy
theorem InsTo.done {f : Value → Value → Int} (hf : OrdPure.Pre f) {p s r u : List Value} {x : Value} {cur : List Value} {j : Nat} (h : InsTo f p s r x cur j) (hs : OrdPure.IsSort f u s) (he : p.length < j → ∃ y, cur[j - 1]? = some y ∧ f y x ≤ 0) :
    ∃ s', OrdPure.IsSort f (u ++ [x]) s' ∧ cur = p ++ s' ++ r := by
  obtain ⟨s1, s2, rfl, rfl, rfl, h2⟩ := h
  have hp : OrdPure.IsPlace f (s1 ++ s2) x s1.length := by
    refine ⟨by simp, fun y hy => ?_, fun k hk hk2 => ?_⟩
    · rw [List.drop_left] at hy
      exact h2 y hy
    · obtain ⟨y, hy, hfy⟩ := he (by omega)
      rw [show p.length + s1.length - 1 = p.length + k by omega, List.append_assoc, List.getElem?_append_right (by omega), Nat.add_sub_cancel_left, List.getElem?_append_left (by omega)] at hy
      rw [List.getElem_append_left (by omega)]
      rw [List.getElem?_eq_getElem (by omega)] at hy
      exact (Option.some.inj hy) ▸ hfy
  refine ⟨s1 ++ x :: s2, ?_, by simp⟩
  have := hs.snoc hf hp
  rwa [List.take_left, List.drop_left] at this
def InsAt (f : Value → Value → Int) (p u q cur : List Value) (k : Nat) : Prop := ∃ s, OrdPure.IsSort f (u.take k) s ∧ cur = p ++ s ++ u.drop k ++ q
theorem InsAt.start (f : Value → Value → Int) (p u q : List Value) : InsAt f p u q (p ++ u ++ q) 1 :=
  ⟨u.take 1, OrdPure.IsSort.self (by cases u with | nil => exact List.Pairwise.nil | cons a t => exact List.pairwise_singleton ..), by rw [List.append_assoc p (u.take 1), List.take_append_drop]⟩
theorem InsAt.done {f : Value → Value → Int} {p u q cur : List Value} {k : Nat} (h : InsAt f p u q cur k) (hk : u.length ≤ k) : ∃ s, OrdPure.IsSort f u s ∧ cur = p ++ s ++ q := by
  obtain ⟨s, h1, h2⟩ := h
  rw [List.take_of_length_le hk] at h1
  rw [List.drop_of_length_le hk, List.append_nil] at h2
  exact ⟨s, h1, h2⟩
theorem InsAt.to {f : Value → Value → Int} (hf : OrdPure.Pre f) {p u q cur : List Value} {k : Nat} (h : InsAt f p u q cur k) (hk : k < u.length) :
    ∃ s x, OrdPure.IsSort f (u.take k) s ∧ u[k]? = some x ∧ InsTo f p s (u.drop (k + 1) ++ q) x cur (p.length + k) := by
  obtain ⟨s, h1, rfl⟩ := h
  have hl := h1.length hf
  rw [List.length_take] at hl
  refine ⟨s, u[k], h1, List.getElem?_eq_getElem hk, s, [], by simp, ?_, by omega, by simp⟩
  rw [List.drop_eq_getElem_cons hk]
  simp only [List.append_assoc, List.cons_append, List.nil_append]
theorem InsAt.next {f : Value → Value → Int} {p u q cur s' : List Value} {x : Value} {k : Nat} (hx : u[k]? = some x) (hs : OrdPure.IsSort f (u.take k ++ [x]) s') (hc : cur = p ++ s' ++ (u.drop (k + 1) ++ q)) : InsAt f p u q cur (k + 1) := by
  obtain ⟨hk, rfl⟩ := List.getElem?_eq_some_iff.1 hx
  refine ⟨s', ?_, by rw [hc, List.append_assoc, List.append_assoc, List.append_assoc]⟩
  rw [List.take_succ_eq_append_getElem hk]
  exact hs
set_option maxRecDepth 100000 in
set_option maxHeartbeats 4000000 in
theorem insertion_any (G : Nat) (pc : Value) (f : Value → Value → Int) (S : Value → Prop) (base g cap N : Nat) (w0 : World) (hc : CmpOk G pc f S g w0) (p u q : List Value) (a b : Nat) (w : World) (hr : StRow S base g cap w0 w N (p ++ u ++ q)) (ha : a = p.length) (hb : b = a + u.length) :
    Calls Tryz.prog 98 #[.slice (some ⟨g, 0, none⟩) N cap, .int .i64 a, .int .i64 b, .func (.func G) #[] #[pc]] w fun e w' => e = .returned (.tuple #[]) ∧ ∃ s, OrdPure.IsSort f u s ∧ StRow S base g cap w0 w' N (p ++ s ++ q) := by
  obtain ⟨b1, b2, -, b3⟩ := hr.bound
  have hN : b ≤ N := by have := hr.len; simp only [List.length_append] at this; omega
  have HI := Lib.hid (InsAt.start f p u q)
  have HD := Lib.hid (fun cur k (h : InsAt f p u q cur k) (hk : b ≤ a + k) => h.done (by omega))
  have HTO := Lib.hid (fun cur k (h : InsAt f p u q cur k) (hk : a + k < b) => h.to hc.pre (by omega))
  have HA := Lib.hid ha
  rw [← ha] at HTO
  have HP := Lib.hid hc.pre
  have HEN := hc.enters
  have HC := Lib.hid hc.call
  have HR := Lib.hid hr
  have hab : a ≤ b := by omega
  clear hr ha hb hc
  generalize p ++ u ++ q = xs at HI HR
  go_enter Tryz.func98, Tryz.ntmps98
  go_wp2_with fail
  go_loopw [8] (fun i wr => ∃ (k : Nat) (cur : List Value), 1 ≤ k ∧ a + k ≤ b + 1 ∧ i = .int .i64 ((a + k : Nat) : Int) ∧ InsAt f p u q cur k ∧ StRow S base g cap w0 wr N cur) (fun i _ => b + 1 - (intOf i).toNat)
  case atStart => exact ⟨1, _, by omega, by omega, by go_num, HI.out, HR.out⟩
  case round =>
    obtain ⟨k, cur, hk1, hk2, rfl, hi, hw⟩ := hrel
    have HW := Lib.hid hw
    have HIA := Lib.hid hi
    clear hi hw
    obtain ⟨I, hI⟩ : ∃ I : Nat, I = a + k := ⟨_, rfl⟩
    rw [← hI]
    by_cases hlt : I < b
    · obtain ⟨s, x, hs, hx, hto⟩ := HTO.out cur k HIA.out (by omega)
      rw [← hI] at hto
      have HS := Lib.hid hs
      have HX := Lib.hid hx
      have HT := Lib.hid hto
      have HII := Lib.hid hI
      have hIa : a < I := by omega
      clear hs hx hto HIA hI
      go_wp2_with fail
      generalize wr = wo at HW ⊢
      go_loopw [9] (fun j wr => ∃ (J : Nat) (cur : List Value), J ≤ I ∧ a ≤ J ∧ j = .int .i64 J ∧ InsTo f p s (u.drop (k + 1) ++ q) x cur J ∧ StRow S base g cap w0 wr N cur) (fun j _ => (intOf j).toNat)
      case atStart => exact ⟨I, _, Nat.le_refl _, by omega, rfl, HT.out, HW.out⟩
      case round =>
        obtain ⟨J, cur2, hJ1, hJ2, rfl, ht, hw⟩ := hrel
        have HT2 := Lib.hid ht
        have HW2 := Lib.hid hw
        clear ht hw
        have c0 := HW2.out.cell _ _ HT2.out.at
        have HSX := Lib.hid (HW2.out.shape x (List.mem_of_getElem? HT2.out.at))
        by_cases hja : a < J
        · obtain ⟨ya, yl, yc, hy, hsy⟩ := HW2.out.slice (i := J - 1) (by have := (List.getElem?_eq_some_iff.1 HT2.out.at).1; omega)
          have c1 := HW2.out.cell _ _ hy
          have HY := Lib.hid hy
          have HCX := Lib.hid (fun W h => HC.out _ _ HSX.out.1 hsy W h)
          have HQ := Lib.hid (HP.out.neg x (.slice ya yl yc))
          have e1 : ((J - 1 : Nat) : Int) = (J : Int) - 1 := by omega
          have d0 : decide ((J : Int) > (a : Int)) = true := decide_eq_true (by omega)
          obtain ⟨-, xa, xl, xc, rfl⟩ := HSX.out
          generalize hF : f (.slice xa xl xc) (.slice ya yl yc) = F at HCX HQ
          have HF := Lib.hid hF
          have z0 : ∀ z : Later Ext wr.drew, z.val.cell? ⟨g, J, none⟩ = some (.slice xa xl xc) := fun z => ((Ext.trans (Ext.drew wr) z.ext).cell (lt_of_cell c0)).trans c0
          have z1 : ∀ z : Later Ext wr.drew, z.val.cell? ⟨g, J - 1, none⟩ = some (.slice ya yl yc) := fun z => ((Ext.trans (Ext.drew wr) z.ext).cell (lt_of_cell c1)).trans c1
          clear hy hsy hF c0 c1
          go_wp2_with fail
          refine wp_region_segs Ext Ext.keeps [([0, 1, 2, 3, 4, 5, 6, 7, 8, 9, 10, 11, 12, 13], some 14), ([15, 16], none)] (by kernel_rfl) (by kernel_rfl) (fun c a a' w e h => (by exact ⟨e ▸ h.1, h.2⟩)) ?_
          simp only [pickSegs, pickOps, List.map_cons, List.map_nil, Option.map_some, Option.map_none, Option.getD_some, List.getElem?_toArray, List.getElem?_cons_zero, List.getElem?_cons_succ]
          refine wpSegs_some fun K' hK' => ?_
          repeat go_big_quiet_step (fail)
          refine wpQuiet_nil ?_
          clear z0 z1
          go_wp2_with fail
          refine (HCX.out _ (OnlyP.trans HW2.out.only (OnlyP.of_ext (Ext.drew _)))).mono ?_
          rintro e w3 ⟨rfl, hx3⟩
          have HX3 := Lib.hid hx3
          have HW3 := Lib.hid (HW2.out.ext (Ext.trans (Ext.drew wr) hx3))
          clear hx3
          go_wp2_with fail
          refine ⟨HX3.out, hK' _ _ ?_⟩
          clear hK' K'
          refine wpSegs_none ?_
          by_cases hF0 : F < 0
          · have d1 : decide (F < 0) = true := decide_eq_true hF0
            have HTN := Lib.hid (HT2.out.next (by have := HA.out; omega) HY.out (by have := HQ.out; omega))
            have HWN := Lib.hid (HW3.out.swapped HT2.out.at HY.out)
            have c0 := HW3.out.cell _ _ HT2.out.at
            have c1 := HW3.out.cell _ _ HY.out
            have f0 := HW3.out.free J
            have f1 := HW3.out.free (J - 1)
            clear hF0
            repeat go_big_quiet_step (fail)
            refine wpQuiet_nil (wpSegs_nil ?_)
            go_wp2_with fail
            go_region
            all_goals go_wp2_with fail
            all_goals go_roundw
            case rel => exact ⟨J - 1, _, by omega, by omega, by go_num, HTN.out, HWN.out.ext (Ext.drew _)⟩
            case measure => simp [intOf]; omega
          · have d1 : decide (F < 0) = false := decide_eq_false hF0
            have HE := Lib.hid (HT2.out.done HP.out HS.out fun _ => ⟨_, HY.out, by have := HQ.out; omega⟩)
            clear hF0
            repeat go_big_quiet_step (fail)
            refine wpQuiet_nil (wpSegs_nil ?_)
            go_wp2_with fail
            obtain ⟨s', hs', hcur⟩ := HE.out
            have HNX := Lib.hid (InsAt.next HX.out hs' hcur)
            clear hs' hcur
            go_roundw
            case rel => exact ⟨k + 1, _, by omega, by have := HII.out; omega, by have := HII.out; go_num, HNX.out, HW3.out⟩
            case measure => have := HII.out; simp [intOf]; omega
        · have d0 : decide ((J : Int) > (a : Int)) = false := decide_eq_false (by omega)
          have HE := Lib.hid (HT2.out.done HP.out HS.out fun h => absurd h (by have := HA.out; omega))
          clear c0
          go_wp2_with fail
          refine wp_region_segs Ext Ext.keeps [([0, 1, 2, 3, 4, 5, 6, 7, 8, 9, 10, 11, 12, 13], some 14), ([15, 16], none)] (by kernel_rfl) (by kernel_rfl) (fun c a a' w e h => (by exact ⟨e ▸ h.1, h.2⟩)) ?_
          simp only [pickSegs, pickOps, List.map_cons, List.map_nil, Option.map_some, Option.map_none, Option.getD_some, List.getElem?_toArray, List.getElem?_cons_zero, List.getElem?_cons_succ]
          refine wpSegs_some fun K' hK' => ?_
          repeat go_big_quiet_step (fail)
          refine wpQuiet_nil ?_
          go_wp2_with fail
          refine ⟨Ext.keeps.refl _, hK' _ _ ?_⟩
          clear hK' K'
          refine wpSegs_none ?_
          repeat go_big_quiet_step (fail)
          refine wpQuiet_nil (wpSegs_nil ?_)
          go_wp2_with fail
          obtain ⟨s', hs', hcur⟩ := HE.out
          have HNX := Lib.hid (InsAt.next HX.out hs' hcur)
          clear hs' hcur
          go_roundw
          case rel => exact ⟨k + 1, _, by omega, by have := HII.out; omega, by have := HII.out; go_num, HNX.out, HW2.out.ext (Ext.drew _)⟩
          case measure => have := HII.out; simp [intOf]; omega
    · have HE := Lib.hid (HD.out _ _ HIA.out (by omega))
      clear hI
      go_wp2_with fail
      go_end0
      obtain ⟨s, hs, rfl⟩ := HE.out
      exact ⟨rfl, s, hs, HW.out⟩
end Go.Proofs.YtaoegcakefodaaaGreat

namespace Go.Proofs.YtaoegcakefodaaaGreat
open Go.RowKit Go.BigFrame
theorem half_of (I J : Nat) (_h : I + J ≤ 4000000) : ((I : Int) + (J : Int)) / 2 = (((I + J) / 2 : Nat) : Int) := by omega
def OneTo (p v q : List Value) (x : Value) (cur : List Value) (k : Nat) : Prop := k ≤ v.length ∧ cur = p ++ v.take k ++ x :: (v.drop k ++ q)
theorem OneTo.start (p v q : List Value) (x : Value) : OneTo p v q x (p ++ x :: v ++ q) 0 := ⟨Nat.zero_le _, by simp⟩
theorem OneTo.at {p v q : List Value} {x : Value} {cur : List Value} {k : Nat} (h : OneTo p v q x cur k) : cur[p.length + k]? = some x := by
  obtain ⟨h1, rfl⟩ := h
  have e : p.length + k = (p ++ v.take k).length := by rw [List.length_append, List.length_take]; omega
  rw [e]
  simp
theorem OneTo.next {p v q : List Value} {x y : Value} {cur : List Value} {k : Nat} (h : OneTo p v q x cur k) (hk : k < v.length) (hy : cur[p.length + k + 1]? = some y) : OneTo p v q x (swapL cur (p.length + k) (p.length + k + 1)) (k + 1) := by
  have hx := h.at
  obtain ⟨h1, rfl⟩ := h
  have e : p.length + k = (p ++ v.take k).length := by rw [List.length_append, List.length_take]; omega
  rw [List.drop_eq_getElem_cons hk] at hx hy ⊢
  rw [e] at hx hy ⊢
  simp only [List.cons_append] at hx hy ⊢
  have hz : v[k] = y := by
    rw [(OrdPure.at_next rfl).2] at hy
    exact Option.some.inj hy
  subst hz
  refine ⟨by omega, ?_⟩
  rw [swapL_eq hx hy, (OrdPure.swap_next rfl).1, List.take_succ_eq_append_getElem hk]
  simp only [List.append_assoc, List.cons_append, List.nil_append]
theorem OneTo.back {p v q : List Value} {x y : Value} {cur : List Value} {k : Nat} (h : OneTo p v q x cur (k + 1)) (hy : cur[p.length + k]? = some y) : OneTo p v q x (swapL cur (p.length + k + 1) (p.length + k)) k := by
  have hx : cur[p.length + k + 1]? = some x := h.at
  obtain ⟨h1, rfl⟩ := h
  have e : p.length + k = (p ++ v.take k).length := by rw [List.length_append, List.length_take]; omega
  have e2 : p ++ v.take (k + 1) ++ x :: (v.drop (k + 1) ++ q) = (p ++ v.take k) ++ v[k] :: x :: (v.drop (k + 1) ++ q) := by
    rw [List.take_succ_eq_append_getElem (by omega)]
    simp only [List.append_assoc, List.cons_append, List.nil_append]
  rw [e2] at hx hy ⊢
  rw [e] at hx hy ⊢
  have hz : v[k] = y := by
    rw [(OrdPure.at_next rfl).1] at hy
    exact Option.some.inj hy
  subst hz
  refine ⟨by omega, ?_⟩
  rw [swapL_eq hx hy, (OrdPure.swap_next rfl).2, List.drop_eq_getElem_cons (show k < v.length by omega)]
  simp only [List.append_assoc, List.cons_append]
theorem one_at (p v q : List Value) (x : Value) (d : Nat) (hd : d < v.length) : (p ++ x :: v ++ q)[p.length + 1 + d]? = some v[d] := by
  have e : p ++ x :: v ++ q = (p ++ [x]) ++ (v ++ q) := by simp
  rw [e, List.getElem?_append_right (by simp), List.length_append, List.length_singleton, Nat.add_sub_cancel_left, List.getElem?_append_left hd, List.getElem?_eq_getElem hd]
theorem behind_at (p u q : List Value) (x : Value) (d : Nat) (hd : d < u.length) : (p ++ u ++ x :: q)[p.length + d]? = some u[d] := by
  rw [List.append_assoc, List.getElem?_append_right (by simp), Nat.add_sub_cancel_left, List.getElem?_append_left hd, List.getElem?_eq_getElem hd]
set_option maxRecDepth 100000 in
set_option maxHeartbeats 4000000 in
theorem symOne_any (G : Nat) (pc : Value) (f : Value → Value → Int) (S : Value → Prop) (base g cap N : Nat) (w0 : World) (hc : CmpOk G pc f S g w0) (p v q : List Value) (x : Value) (a m b : Nat) (w : World) (hr : StRow S base g cap w0 w N (p ++ x :: v ++ q)) (ha : a = p.length) (hm : m = a + 1) (hb : b = m + v.length) (hv : OrdPure.Rising f v) :
    Calls Tryz.prog 99 #[.slice (some ⟨g, 0, none⟩) N cap, .int .i64 a, .int .i64 m, .int .i64 b, .func (.func G) #[] #[pc]] w fun e w' => e = .returned (.tuple #[]) ∧ ∃ s, OrdPure.IsSort f (x :: v) s ∧ StRow S base g cap w0 w' N (p ++ s ++ q) := by
  obtain ⟨b1, b2, -, b3⟩ := hr.bound
  have hN : b ≤ N := by have := hr.len; simp only [List.length_append, List.length_cons] at this; omega
  have hxs : ∃ xs, xs = p ++ x :: v ++ q := ⟨_, rfl⟩
  obtain ⟨xs, hxs⟩ := hxs
  rw [← hxs] at hr
  have HXS := Lib.hid hxs
  have HP := Lib.hid hc.pre
  have HEN := hc.enters
  have HC := Lib.hid hc.call
  have HR := Lib.hid hr
  have HV := Lib.hid hv
  have HA := Lib.hid ha
  have HB := Lib.hid hb
  have HM := Lib.hid hm
  have hx : xs[a]? = some x := by rw [hxs, ha]; simp
  have HX := Lib.hid hx
  have hmb : m ≤ b := by omega
  have q1 : ((m : Int) - (a : Int) == 1) = true := beq_iff_eq.2 (by omega)
  have ham : a < m := by omega
  clear hr ha hb hc hxs hv hx hm
  go_enter Tryz.func99, Tryz.ntmps99
  go_wp2_with fail
  go_loopw [10, 11] (fun i j wr => ∃ I J : Nat, m ≤ I ∧ I ≤ J ∧ J ≤ b ∧ i = .int .i64 I ∧ j = .int .i64 J ∧ (∀ y, m < I → xs[I - 1]? = some y → f y x < 0) ∧ (∀ y, J < b → xs[J]? = some y → 0 ≤ f y x) ∧ StRow S base g cap w0 wr N xs) (fun i j _ => (intOf j).toNat - (intOf i).toNat)
  case atStart => exact ⟨m, b, Nat.le_refl _, hmb, Nat.le_refl _, rfl, rfl, fun y h => absurd h (Nat.lt_irrefl _), fun y h => absurd h (Nat.lt_irrefl _), HR.out⟩
  case round =>
    obtain ⟨I, J, hI, hIJ, hJ, rfl, rfl, hlo, hhi, hw⟩ := hrel
    have HLO := Lib.hid hlo
    have HHI := Lib.hid hhi
    have HW := Lib.hid hw
    clear hlo hhi hw
    by_cases hlt : I < J
    · obtain ⟨H, hH⟩ : ∃ H : Nat, (I + J) / 2 = H := ⟨_, rfl⟩
      have hHI : I ≤ H := by omega
      have hHJ : H < J := by omega
      have hh := half_of I J (by omega)
      rw [hH] at hh
      obtain ⟨ya, yl, yc, hy, hsy⟩ := HW.out.slice (i := H) (by rw [HW.out.len]; omega)
      have c1 := HW.out.cell _ _ hy
      have hx := HX.out
      have c0 := HW.out.cell _ _ hx
      obtain ⟨hsx, xa, xl, xc, rfl⟩ := HW.out.shape x (List.mem_of_getElem? hx)
      have HCX := Lib.hid (fun W h => HC.out _ _ hsy hsx W h)
      have HY := Lib.hid hy
      generalize hF : f (.slice ya yl yc) (.slice xa xl xc) = F at HCX
      have HF := Lib.hid hF
      have z0 : ∀ z : Later Ext wr.drew, z.val.cell? ⟨g, a, none⟩ = some (.slice xa xl xc) := fun z => ((Ext.trans (Ext.drew wr) z.ext).cell (lt_of_cell c0)).trans c0
      have z1 : ∀ z : Later Ext wr.drew, z.val.cell? ⟨g, H, none⟩ = some (.slice ya yl yc) := fun z => ((Ext.trans (Ext.drew wr) z.ext).cell (lt_of_cell c1)).trans c1
      clear hy hsy hF c0 c1 hx hsx hH
      go_wp2_with fail
      clear hh
      refine wp_region_segs Ext Ext.keeps [([0, 1, 2, 3, 4, 5, 6, 7, 8], some 9), ([10], none)] (by kernel_rfl) (by kernel_rfl) (fun c a a' w e h => (by exact ⟨e ▸ h.1, h.2⟩)) ?_
      simp only [pickSegs, pickOps, List.map_cons, List.map_nil, Option.map_some, Option.map_none, Option.getD_some, List.getElem?_toArray, List.getElem?_cons_zero, List.getElem?_cons_succ]
      refine wpSegs_some fun K' hK' => ?_
      repeat go_big_quiet_step (fail)
      refine wpQuiet_nil ?_
      clear z0 z1
      go_wp2_with fail
      refine (HCX.out _ (OnlyP.trans HW.out.only (OnlyP.of_ext (Ext.drew _)))).mono ?_
      rintro e w3 ⟨rfl, hx3⟩
      have HX3 := Lib.hid hx3
      have HW3 := Lib.hid (HW.out.ext (Ext.trans (Ext.drew wr) hx3))
      clear hx3
      go_wp2_with fail
      refine ⟨HX3.out, hK' _ _ ?_⟩
      clear hK' K'
      refine wpSegs_none ?_
      by_cases hF0 : F < 0
      · have d1 : decide (F < 0) = true := decide_eq_true hF0
        have HN1 := Lib.hid (show ∀ y, m < H + 1 → xs[H + 1 - 1]? = some y → f y (.slice xa xl xc) < 0 from fun y _ hy => by
          rw [Nat.add_sub_cancel, HY.out] at hy
          rw [← Option.some.inj hy, HF.out]
          exact hF0)
        clear hF0
        repeat go_big_quiet_step (fail)
        refine wpQuiet_nil (wpSegs_nil ?_)
        go_wp2_with fail
        go_roundw
        case rel => exact ⟨H + 1, J, by omega, by omega, by omega, by go_num, rfl, HN1.out, HHI.out, HW3.out⟩
        case measure => simp [intOf]; omega
      · have d1 : decide (F < 0) = false := decide_eq_false hF0
        have HN1 := Lib.hid (show ∀ y, H < b → xs[H]? = some y → 0 ≤ f y (.slice xa xl xc) from fun y _ hy => by
          rw [HY.out] at hy
          rw [← Option.some.inj hy, HF.out]
          omega)
        clear hF0
        repeat go_big_quiet_step (fail)
        refine wpQuiet_nil (wpSegs_nil ?_)
        go_wp2_with fail
        go_roundw
        case rel => exact ⟨I, H, by omega, by omega, by omega, rfl, by go_num, HLO.out, HN1.out, HW3.out⟩
        case measure => simp [intOf]; omega
    · have HS := Lib.hid (show OrdPure.IsSort f (x :: v) (v.take (I - m) ++ x :: v.drop (I - m)) from by
        have hxs := HXS.out
        have hb := HB.out
        have hm := HM.out
        have ha := HA.out
        refine OrdPure.one_ahead HP.out (by omega) HV.out (fun h => ?_) (fun h => ?_)
        · have h1 := HHI.out v[I - m] (by omega) (by rw [hxs, show J = p.length + 1 + (I - m) by omega]; exact one_at p v q x _ h)
          have := HP.out.neg x v[I - m]
          omega
        · have h1 := HLO.out (v[I - m - 1]'(by omega)) (by omega) (by rw [hxs, show I - 1 = p.length + 1 + (I - m - 1) by omega]; exact one_at p v q x _ (by omega))
          have := HP.out.neg (v[I - m - 1]'(by omega)) x
          omega)
      have HST := Lib.hid (show OneTo p v q x xs 0 from by rw [HXS.out]; exact OneTo.start p v q x)
      have HD := Lib.hid (show ∀ cur, OneTo p v q x cur (I - m) → cur = p ++ (v.take (I - m) ++ x :: v.drop (I - m)) ++ q from fun cur h => by rw [h.2]; simp)
      have HVL := Lib.hid (show v.length = b - m by have := HB.out; omega)
      have hIb : I ≤ b := by omega
      clear HLO HHI HV HXS
      go_wp2_with fail
      generalize wr = wo at HW ⊢
      go_loopw [13] (fun k wr => ∃ (d : Nat) (cur : List Value), d ≤ I - m ∧ k = .int .i64 ((a + d : Nat) : Int) ∧ OneTo p v q x cur d ∧ StRow S base g cap w0 wr N cur) (fun k _ => b - (intOf k).toNat)
      case atStart => exact ⟨0, _, Nat.zero_le _, by go_num, HST.out, HW.out⟩
      case round =>
        obtain ⟨d, cur, hd, rfl, hto, hw⟩ := hrel
        have HT := Lib.hid hto
        have HW2 := Lib.hid hw
        obtain ⟨D, hD⟩ : ∃ D : Nat, D = a + d := ⟨_, rfl⟩
        rw [← hD]
        clear hto hw
        by_cases hlt2 : d < I - m
        · have hDI : D + 1 < I := by have := HM.out; omega
          have hat := HT.out.at
          rw [← HA.out, ← hD] at hat
          obtain ⟨ya, yl, yc, hy, -⟩ := HW2.out.slice (i := D + 1) (by rw [HW2.out.len]; omega)
          have HTN := Lib.hid (HT.out.next (by have := HVL.out; omega) (by rw [← HA.out, ← hD]; exact hy))
          rw [← HA.out, ← hD] at HTN
          have HWN := Lib.hid (HW2.out.swapped hat hy)
          have c0 := HW2.out.cell _ _ hat
          have c1 := HW2.out.cell _ _ hy
          have f0 := HW2.out.free D
          have f1 := HW2.out.free (D + 1)
          obtain ⟨-, xa, xl, xc, rfl⟩ := HW2.out.shape x (List.mem_of_getElem? hat)
          have HDD := Lib.hid hD
          clear hat hy hD hlt
          go_wp2_with fail
          go_region
          all_goals go_wp2_with fail
          all_goals go_roundw
          case rel => exact ⟨d + 1, _, by omega, by have := HDD.out; go_num, HTN.out, HWN.out.ext (Ext.drew _)⟩
          case measure => have := HDD.out; simp [intOf]; omega
        · have hDI : ¬ D + 1 < I := by have := HM.out; omega
          have HE := Lib.hid (HD.out cur ((show d = I - m by omega) ▸ HT.out))
          clear hD hlt
          go_wp2_with fail
          refine bodyPost_ret (v := .tuple #[]) (results_none rfl _ _ _) rfl ?_
          exact ⟨rfl, _, HS.out, HE.out ▸ HW2.out⟩
set_option maxRecDepth 100000 in
set_option maxHeartbeats 4000000 in
theorem symLast_any (G : Nat) (pc : Value) (f : Value → Value → Int) (S : Value → Prop) (base g cap N : Nat) (w0 : World) (hc : CmpOk G pc f S g w0) (p u q : List Value) (x : Value) (a m b : Nat) (w : World) (hr : StRow S base g cap w0 w N (p ++ u ++ x :: q)) (ha : a = p.length) (hm : m = a + u.length) (hb : b = m + 1) (hu : 1 < u.length) (hv : OrdPure.Rising f u) :
    Calls Tryz.prog 99 #[.slice (some ⟨g, 0, none⟩) N cap, .int .i64 a, .int .i64 m, .int .i64 b, .func (.func G) #[] #[pc]] w fun e w' => e = .returned (.tuple #[]) ∧ ∃ s, OrdPure.IsSort f (u ++ [x]) s ∧ StRow S base g cap w0 w' N (p ++ s ++ q) := by
  obtain ⟨b1, b2, -, b3⟩ := hr.bound
  have hN : b ≤ N := by have := hr.len; simp only [List.length_append, List.length_cons] at this; omega
  have hxs : ∃ xs, xs = p ++ u ++ x :: q := ⟨_, rfl⟩
  obtain ⟨xs, hxs⟩ := hxs
  rw [← hxs] at hr
  have HXS := Lib.hid hxs
  have HP := Lib.hid hc.pre
  have HEN := hc.enters
  have HC := Lib.hid hc.call
  have HR := Lib.hid hr
  have HV := Lib.hid hv
  have HA := Lib.hid ha
  have HB := Lib.hid hb
  have HM := Lib.hid hm
  have hx : xs[m]? = some x := by rw [hxs, hm, ha, ← List.length_append]; simp
  have HX := Lib.hid hx
  have hmb : m < b := by omega
  have ham2 : a + 1 < m := by omega
  have q1 : ((m : Int) - (a : Int) == 1) = false := beq_eq_false_iff_ne.2 (by omega)
  have q2 : ((b : Int) - (m : Int) == 1) = true := beq_iff_eq.2 (by omega)
  have HU := Lib.hid hu
  have ham : a < m := by omega
  clear hr ha hb hc hxs hv hx hm hu
  go_enter Tryz.func99, Tryz.ntmps99
  go_wp2_with fail
  go_loopw [14, 15] (fun i j wr => ∃ I J : Nat, a ≤ I ∧ I ≤ J ∧ J ≤ m ∧ i = .int .i64 I ∧ j = .int .i64 J ∧ (∀ y, a < I → xs[I - 1]? = some y → 0 ≤ f x y) ∧ (∀ y, J < m → xs[J]? = some y → f x y < 0) ∧ StRow S base g cap w0 wr N xs) (fun i j _ => (intOf j).toNat - (intOf i).toNat)
  case atStart => exact ⟨a, m, Nat.le_refl _, Nat.le_of_lt ham, Nat.le_refl _, rfl, rfl, fun y h => absurd h (Nat.lt_irrefl _), fun y h => absurd h (Nat.lt_irrefl _), HR.out⟩
  case round =>
    obtain ⟨I, J, hI, hIJ, hJ, rfl, rfl, hlo, hhi, hw⟩ := hrel
    have HLO := Lib.hid hlo
    have HHI := Lib.hid hhi
    have HW := Lib.hid hw
    clear hlo hhi hw
    by_cases hlt : I < J
    · obtain ⟨H, hH⟩ : ∃ H : Nat, (I + J) / 2 = H := ⟨_, rfl⟩
      have hHI : I ≤ H := by omega
      have hHJ : H < J := by omega
      have hh := half_of I J (by omega)
      rw [hH] at hh
      obtain ⟨ya, yl, yc, hy, hsy⟩ := HW.out.slice (i := H) (by rw [HW.out.len]; omega)
      have c1 := HW.out.cell _ _ hy
      have hx := HX.out
      have c0 := HW.out.cell _ _ hx
      obtain ⟨hsx, xa, xl, xc, rfl⟩ := HW.out.shape x (List.mem_of_getElem? hx)
      have HCX := Lib.hid (fun W h => HC.out _ _ hsx hsy W h)
      have HY := Lib.hid hy
      generalize hF : f (.slice xa xl xc) (.slice ya yl yc) = F at HCX
      have HF := Lib.hid hF
      have z0 : ∀ z : Later Ext wr.drew, z.val.cell? ⟨g, m, none⟩ = some (.slice xa xl xc) := fun z => ((Ext.trans (Ext.drew wr) z.ext).cell (lt_of_cell c0)).trans c0
      have z1 : ∀ z : Later Ext wr.drew, z.val.cell? ⟨g, H, none⟩ = some (.slice ya yl yc) := fun z => ((Ext.trans (Ext.drew wr) z.ext).cell (lt_of_cell c1)).trans c1
      clear hy hsy hF c0 c1 hx hsx hH
      go_wp2_with fail
      clear hh
      refine wp_region_segs Ext Ext.keeps [([0, 1, 2, 3, 4, 5, 6, 7, 8], some 9), ([10, 11], none)] (by kernel_rfl) (by kernel_rfl) (fun c a a' w e h => (by exact ⟨e ▸ h.1, h.2⟩)) ?_
      simp only [pickSegs, pickOps, List.map_cons, List.map_nil, Option.map_some, Option.map_none, Option.getD_some, List.getElem?_toArray, List.getElem?_cons_zero, List.getElem?_cons_succ]
      refine wpSegs_some fun K' hK' => ?_
      repeat go_big_quiet_step (fail)
      refine wpQuiet_nil ?_
      clear z0 z1
      go_wp2_with fail
      refine (HCX.out _ (OnlyP.trans HW.out.only (OnlyP.of_ext (Ext.drew _)))).mono ?_
      rintro e w3 ⟨rfl, hx3⟩
      have HX3 := Lib.hid hx3
      have HW3 := Lib.hid (HW.out.ext (Ext.trans (Ext.drew wr) hx3))
      clear hx3
      go_wp2_with fail
      refine ⟨HX3.out, hK' _ _ ?_⟩
      clear hK' K'
      refine wpSegs_none ?_
      by_cases hF0 : F < 0
      · have d1 : decide (F < 0) = true := decide_eq_true hF0
        have HN1 := Lib.hid (show ∀ y, H < m → xs[H]? = some y → f (.slice xa xl xc) y < 0 from fun y _ hy => by
          rw [HY.out] at hy
          rw [← Option.some.inj hy, HF.out]
          exact hF0)
        clear hF0
        repeat go_big_quiet_step (fail)
        refine wpQuiet_nil (wpSegs_nil ?_)
        go_wp2_with fail
        go_roundw
        case rel => exact ⟨I, H, by omega, by omega, by omega, rfl, by go_num, HLO.out, HN1.out, HW3.out⟩
        case measure => simp [intOf]; omega
      · have d1 : decide (F < 0) = false := decide_eq_false hF0
        have HN1 := Lib.hid (show ∀ y, a < H + 1 → xs[H + 1 - 1]? = some y → 0 ≤ f (.slice xa xl xc) y from fun y _ hy => by
          rw [Nat.add_sub_cancel, HY.out] at hy
          rw [← Option.some.inj hy, HF.out]
          omega)
        clear hF0
        repeat go_big_quiet_step (fail)
        refine wpQuiet_nil (wpSegs_nil ?_)
        go_wp2_with fail
        go_roundw
        case rel => exact ⟨H + 1, J, by omega, by omega, by omega, by go_num, rfl, HN1.out, HHI.out, HW3.out⟩
        case measure => simp [intOf]; omega
    · have HS := Lib.hid (show OrdPure.IsSort f (u ++ [x]) (u.take (I - a) ++ x :: u.drop (I - a)) from by
        have hxs := HXS.out
        have hb := HB.out
        have hm := HM.out
        have ha := HA.out
        refine OrdPure.one_behind HP.out (by omega) HV.out (fun h => ?_) (fun h => ?_)
        · have h1 := HLO.out (u[I - a - 1]'(by omega)) (by omega) (by rw [hxs, show I - 1 = p.length + (I - a - 1) by omega]; exact behind_at p u q x _ (by omega))
          have := HP.out.neg x (u[I - a - 1]'(by omega))
          omega
        · have h1 := HHI.out u[I - a] (by omega) (by rw [hxs, show J = p.length + (I - a) by omega]; exact behind_at p u q x _ h)
          have := HP.out.neg x u[I - a]
          omega)
      have HST := Lib.hid (show OneTo p u q x xs (m - a) from by
        refine ⟨by have := HM.out; omega, ?_⟩
        rw [HXS.out, show m - a = u.length by have := HM.out; omega, List.take_length, List.drop_length, List.nil_append])
      have HD := Lib.hid (show ∀ cur, OneTo p u q x cur (I - a) → cur = p ++ (u.take (I - a) ++ x :: u.drop (I - a)) ++ q from fun cur h => by rw [h.2]; simp)
      have HVL := Lib.hid (show u.length = m - a by have := HM.out; omega)
      have hIb : I ≤ m := by omega
      clear HLO HHI HV HXS
      go_wp2_with fail
      generalize wr = wo at HW ⊢
      go_loopw [17] (fun k wr => ∃ (d : Nat) (cur : List Value), I - a ≤ d ∧ d ≤ m - a ∧ k = .int .i64 ((a + d : Nat) : Int) ∧ OneTo p u q x cur d ∧ StRow S base g cap w0 wr N cur) (fun k _ => (intOf k).toNat)
      case atStart => exact ⟨m - a, _, by omega, Nat.le_refl _, by go_num, HST.out, HW.out⟩
      case round =>
        obtain ⟨d, cur, hd, hd2, rfl, hto, hw⟩ := hrel
        have HT := Lib.hid hto
        have HW2 := Lib.hid hw
        obtain ⟨D, hD⟩ : ∃ D : Nat, D = a + d := ⟨_, rfl⟩
        rw [← hD]
        clear hto hw
        by_cases hlt2 : I - a < d
        · have hDI : I < D := by omega
          have hDm : D ≤ m := by omega
          have hat := HT.out.at
          rw [← HA.out, ← hD] at hat
          obtain ⟨ya, yl, yc, hy, -⟩ := HW2.out.slice (i := D - 1) (by rw [HW2.out.len]; omega)
          have HTN := Lib.hid (show OneTo p u q x (swapL cur D (D - 1)) (d - 1) from by
            have h := HT.out
            rw [show d = d - 1 + 1 by omega] at h
            have h2 := h.back (y := .slice ya yl yc) (by rw [← HA.out, show a + (d - 1) = D - 1 by omega]; exact hy)
            rw [← HA.out, show a + (d - 1) + 1 = D by omega, show a + (d - 1) = D - 1 by omega] at h2
            exact h2)
          have HWN := Lib.hid (HW2.out.swapped hat hy)
          have c0 := HW2.out.cell _ _ hat
          have c1 := HW2.out.cell _ _ hy
          have f0 := HW2.out.free D
          have f1 := HW2.out.free (D - 1)
          obtain ⟨-, xa, xl, xc, rfl⟩ := HW2.out.shape x (List.mem_of_getElem? hat)
          have HDD := Lib.hid hD
          clear hat hy hD hlt
          go_wp2_with fail
          go_region
          all_goals go_wp2_with fail
          all_goals go_roundw
          case rel => exact ⟨d - 1, _, by omega, by omega, by have := HDD.out; go_num, HTN.out, HWN.out.ext (Ext.drew _)⟩
          case measure => have := HDD.out; simp [intOf]; omega
        · have hDI : ¬ I < D := by omega
          have HE := Lib.hid (HD.out cur ((show d = I - a by omega) ▸ HT.out))
          clear hD hlt
          go_wp2_with fail
          refine bodyPost_ret (v := .tuple #[]) (results_none rfl _ _ _) rfl ?_
          exact ⟨rfl, _, HS.out, HE.out ▸ HW2.out⟩
end Go.Proofs.YtaoegcakefodaaaGreat

