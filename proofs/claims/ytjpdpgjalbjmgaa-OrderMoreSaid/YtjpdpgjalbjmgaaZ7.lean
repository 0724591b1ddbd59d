/-
  Texts of this proof, merged: StabSort, StabHeads, Panics, CellRefE, CellAs, CellSay0, CellSay1, OrdQ1.
-/
import Derived.WalkKit
import Derived.Laws.Pointers
import Derived.Defers
import Derived.Recover
import Derived.Lib.Strings
import Derived.Lib.Bytealg
import Derived.Lib.Walk
import Derived.Test.YtjpdpgjalbjmgaaZ6
import Derived.Test.YtjpdpgjalbjmgaaZ4
import Derived.Test.YtjpdpgjalbjmgaaZ2
import Derived.Test.YtjpdpgjalbjmgaaProg
import Derived.Test.YtjpdpgjalbjmgaaZ1
import Derived.Test.YtjpdpgjalbjmgaaZ3
/-
  Sorting rows in place, as the library does it: slices.SortStableFunc at rows.
-/
namespace Go.Proofs.Ytjpdpgjalbjmgaa
open Go.RowKit Go.BigFrame

/-- The blocks of one length are sorted. -/
def BlocksOk (f : Value → Value → Int) (l : List Value) (B : Nat) : Prop := ∀ k, OrdPure.Rising f (OrdPure.seg l (k * B) B)
/-- So many blocks of one length are sorted. -/
def BlocksUp (f : Value → Value → Int) (l : List Value) (B c : Nat) : Prop := ∀ k, k < c → OrdPure.Rising f (OrdPure.seg l (k * B) B)
/-- So many pairs of blocks have become one each. -/
def BlocksTo (f : Value → Value → Int) (l : List Value) (B c : Nat) : Prop := BlocksUp f l (2 * B) c ∧ ∀ k, 2 * c ≤ k → OrdPure.Rising f (OrdPure.seg l (k * B) B)

theorem BlocksUp.next {f : Value → Value → Int} {p u s q : List Value} {B c : Nat} (h : BlocksUp f (p ++ u ++ q) B c) (hp : p.length = c * B) (hs : s.length ≤ B) (hq : s.length = B ∨ q = []) (hr : OrdPure.Rising f s) : BlocksUp f (p ++ s ++ q) B (c + 1) := by
  intro k hk
  by_cases h1 : k < c
  · have h2 : (k + 1) * B ≤ c * B := Nat.mul_le_mul_right _ h1
    rw [Nat.add_mul, Nat.one_mul] at h2
    rw [OrdPure.seg_ahead (by omega) u q]
    exact h k h1
  · obtain rfl : k = c := by omega
    rw [← hp]
    rcases hq with hq | rfl
    · rw [OrdPure.seg_mid hq]
      exact hr
    · rw [List.append_nil, OrdPure.seg_end hs]
      exact hr
theorem BlocksUp.all {f : Value → Value → Int} {l : List Value} {B c : Nat} (h : BlocksUp f l B c) (hl : l.length ≤ c * B) : BlocksOk f l B := by
  intro k
  by_cases h1 : k < c
  · exact h k h1
  · have h2 : c * B ≤ k * B := Nat.mul_le_mul_right _ (by omega)
    rw [OrdPure.seg_past (by omega)]
    exact OrdPure.rising_nil
theorem BlocksOk.to {f : Value → Value → Int} {l : List Value} {B : Nat} (h : BlocksOk f l B) : BlocksTo f l B 0 := ⟨fun _ hk => absurd hk (Nat.not_lt_zero _), fun k _ => h k⟩
theorem BlocksTo.next {f : Value → Value → Int} {p u s q : List Value} {B c : Nat} (h : BlocksTo f (p ++ u ++ q) B c) (hp : p.length = c * (2 * B)) (hu : u.length = 2 * B) (hs : s.length = 2 * B) (hr : OrdPure.Rising f s) : BlocksTo f (p ++ s ++ q) B (c + 1) := by
  refine ⟨BlocksUp.next h.1 hp (by omega) (.inl hs) hr, fun k hk => ?_⟩
  have h2 : (2 * (c + 1)) * B ≤ k * B := Nat.mul_le_mul_right _ hk
  have h3 : (2 * (c + 1)) * B = c * (2 * B) + 2 * B := by rw [Nat.mul_add, Nat.add_mul, Nat.mul_comm 2 c, Nat.mul_assoc]
  rw [OrdPure.seg_behind (s' := u) (by omega) (by omega)]
  exact h.2 k (by omega)
theorem BlocksTo.last {f : Value → Value → Int} {p u s : List Value} {B c : Nat} (h : BlocksTo f (p ++ u) B c) (hp : p.length = c * (2 * B)) (hs : s.length ≤ 2 * B) (hr : OrdPure.Rising f s) : BlocksOk f (p ++ s) (2 * B) := by
  have h1 : BlocksUp f (p ++ u ++ []) (2 * B) c := by rw [List.append_nil]; exact h.1
  have h2 := BlocksUp.next h1 hp hs (.inr rfl) hr
  rw [List.append_nil] at h2
  exact h2.all (by rw [List.length_append, Nat.add_mul]; omega)
theorem BlocksTo.short {f : Value → Value → Int} {l : List Value} {B c : Nat} (h : BlocksTo f l B c) (h1 : l.length ≤ c * (2 * B) + B) : BlocksOk f l (2 * B) := by
  have h2 : l = l.take (c * (2 * B)) ++ l.drop (c * (2 * B)) := (List.take_append_drop _ _).symm
  by_cases h3 : c * (2 * B) ≤ l.length
  · have h4 := h.2 (2 * c) (Nat.le_refl _)
    have h5 : 2 * c * B = c * (2 * B) := by rw [Nat.mul_comm 2 c, Nat.mul_assoc]
    rw [h5] at h4
    unfold OrdPure.seg at h4
    rw [List.take_of_length_le (by rw [List.length_drop]; omega)] at h4
    have h6 := h
    rw [h2] at h6 ⊢
    exact BlocksTo.last h6 (by rw [List.length_take]; omega) (by rw [List.length_drop]; omega) h4
  · exact h.1.all (by omega)
theorem BlocksTo.pair {f : Value → Value → Int} {l : List Value} {B c : Nat} (h : BlocksTo f l B c) : OrdPure.Rising f (OrdPure.seg l (c * (2 * B)) B) ∧ OrdPure.Rising f (OrdPure.seg l (c * (2 * B) + B) B) := by
  have h1 := h.2 (2 * c) (Nat.le_refl _)
  have h2 := h.2 (2 * c + 1) (by omega)
  have h5 : 2 * c * B = c * (2 * B) := by rw [Nat.mul_comm 2 c, Nat.mul_assoc]
  rw [Nat.add_mul, Nat.one_mul, h5] at h2
  rw [h5] at h1
  exact ⟨h1, h2⟩
theorem BlocksOk.whole {f : Value → Value → Int} {l : List Value} {B : Nat} (h : BlocksOk f l B) (hl : l.length ≤ B) : OrdPure.Rising f l := by
  have h1 := h 0
  rw [Nat.zero_mul, OrdPure.seg_all hl] at h1
  exact h1
theorem seg_one (l : List Value) (a n : Nat) (_h : a + n ≤ l.length) : l = l.take a ++ OrdPure.seg l a n ++ l.drop (a + n) ∧ (l.take a).length = a ∧ (OrdPure.seg l a n).length = n :=
  ⟨OrdPure.seg_three l a n, by rw [List.length_take]; omega, by rw [OrdPure.seg_length]; omega⟩

set_option maxRecDepth 100000 in
set_option maxHeartbeats 8000000 in
theorem stable_any (G : Nat) (pc : Value) (f : Value → Value → Int) (S : Value → Prop) (base g cap N : Nat) (w0 : World) (hc : CmpOk G pc f S g w0) (xs : List Value) (w : World) (hr : StRow S base g cap w0 w N xs) :
    Calls Try.prog 41 #[.slice (some ⟨g, 0, none⟩) N cap, .int .i64 N, .func (.func G) #[] #[pc]] w fun e w' => e = .returned (.tuple #[]) ∧ ∃ s, OrdPure.IsSort f xs s ∧ StRow S base g cap w0 w' N s := by
  obtain ⟨b1, b2, -, b3⟩ := hr.bound
  have HINS := Lib.hid (fun p u q a b w => insertion_any G pc f S base g cap N w0 hc p u q a b w)
  have HSYM := Lib.hid (fun p u v q a m b w (h : StRow S base g cap w0 w N (p ++ (u ++ v) ++ q)) => symMerge_any G pc f S base g cap N w0 hc _ p u v q a m b w (Nat.lt_succ_self _) h)
  have HP := Lib.hid hc.pre
  have HR := Lib.hid hr
  clear hr hc
  go_enter Try.func41, Try.ntmps41
  go_wp2_with fail
  go_loopw [7, 8] (fun a b wr => ∃ (c : Nat) (cur : List Value), c * 20 ≤ N ∧ a = .int .i64 ((c * 20 : Nat) : Int) ∧ b = .int .i64 ((c * 20 + 20 : Nat) : Int) ∧ BlocksUp f cur 20 c ∧ OrdPure.Stable f xs cur ∧ StRow S base g cap w0 wr N cur) (fun a _ _ => N + 20 - (intOf a).toNat)
  case atStart => exact ⟨0, xs, by omega, rfl, rfl, fun k hk => absurd hk (Nat.not_lt_zero _), OrdPure.Stable.refl _, HR.out⟩
  case round =>
    obtain ⟨c, cur, hcN, rfl, rfl, hb, hs, hw⟩ := hrel
    have HBU := Lib.hid hb
    have HST := Lib.hid hs
    have HW := Lib.hid hw
    obtain ⟨A, hA⟩ : ∃ A, A = c * 20 := ⟨_, rfl⟩
    rw [← hA] at hcN ⊢
    have HAA := Lib.hid hA
    clear hb hs hw hA
    by_cases hlt : A + 20 ≤ N
    · obtain ⟨t1, t2, t3⟩ := seg_one cur A 20 (by rw [HW.out.len]; exact hlt)
      have HCALL := Lib.hid (HINS.out (cur.take A) (OrdPure.seg cur A 20) (cur.drop (A + 20)) A (A + 20) wr (t1 ▸ HW.out) t2.symm (by rw [t3]))
      have HT1 := Lib.hid t1
      have HT2 := Lib.hid t2
      have HT3 := Lib.hid t3
      have e1 : ((A + 20 : Nat) : Int) = (A : Int) + 20 := by omega
      rw [e1] at HCALL
      clear t1 t2 t3
      generalize cur.take A = p at HCALL HT1 HT2
      generalize OrdPure.seg cur A 20 = u at HCALL HT1 HT3
      generalize cur.drop (A + 20) = q at HCALL HT1
      go_wp2_with fail
      refine HCALL.out.mono ?_
      rintro e w1 ⟨rfl, s, hs, hw⟩
      have HW1 := Lib.hid hw
      have HNB := Lib.hid (show BlocksUp f (p ++ s ++ q) 20 (c + 1) from BlocksUp.next (HT1.out ▸ HBU.out) (by rw [HT2.out, HAA.out]) (by rw [hs.length HP.out, HT3.out]; omega) (.inl (by rw [hs.length HP.out, HT3.out])) hs.1)
      have HNS := Lib.hid (show OrdPure.Stable f xs (p ++ s ++ q) from OrdPure.Stable.trans HST.out (by
        rw [HT1.out]
        exact OrdPure.Stable.append (OrdPure.Stable.append (OrdPure.Stable.refl p) hs.2) (OrdPure.Stable.refl q)))
      clear hs hw e1
      go_wp2_with fail
      go_roundw
      case rel => exact ⟨c + 1, _, by have := HAA.out; omega, by have := HAA.out; go_num, by have := HAA.out; go_num, HNB.out, HNS.out, HW1.out⟩
      case measure => have := HAA.out; simp [intOf]; omega
    · have hlen := HW.out.len
      have HT1 := Lib.hid (show cur = cur.take A ++ cur.drop A ++ [] by rw [List.append_nil, List.take_append_drop])
      have HT2 := Lib.hid (show (cur.take A).length = A by rw [List.length_take]; omega)
      have HT3 := Lib.hid (show (cur.drop A).length = N - A by rw [List.length_drop]; omega)
      have HCALL := Lib.hid (HINS.out (cur.take A) (cur.drop A) [] A N wr (HT1.out ▸ HW.out) HT2.out.symm (by rw [HT3.out]; omega))
      clear hlen
      generalize cur.take A = p at HCALL HT1 HT2
      generalize cur.drop A = u at HCALL HT1 HT3
      go_wp2_with fail
      refine HCALL.out.mono ?_
      rintro e w1 ⟨rfl, s, hs, hw⟩
      have HW1 := Lib.hid hw
      have HNB := Lib.hid (show BlocksOk f (p ++ s ++ []) 20 from BlocksUp.all (c := c + 1) (BlocksUp.next (HT1.out ▸ HBU.out) (by rw [HT2.out, HAA.out]) (by rw [hs.length HP.out, HT3.out]; omega) (.inr rfl) hs.1) (by
        rw [hw.len]
        have := HAA.out
        omega))
      have HNS := Lib.hid (show OrdPure.Stable f xs (p ++ s ++ []) from OrdPure.Stable.trans HST.out (by
        rw [HT1.out]
        exact OrdPure.Stable.append (OrdPure.Stable.append (OrdPure.Stable.refl p) hs.2) (OrdPure.Stable.refl [])))
      clear hs hw HT1 HT2 HT3 HCALL HBU HST HAA HW hlt hcN
      generalize p ++ s ++ [] = cur1 at HW1 HNB HNS
      go_wp2_with fail
      generalize w1 = wa at HW1 ⊢
      go_loopw [6, 7, 8, 9] (fun B _ _ _ wr => ∃ (b : Nat) (cur : List Value), 0 < b ∧ b ≤ 2000000 ∧ B = .int .i64 b ∧ BlocksOk f cur b ∧ OrdPure.Stable f xs cur ∧ StRow S base g cap w0 wr N cur) (fun B _ _ _ _ => N - (intOf B).toNat)
      case atStart => exact ⟨20, cur1, by omega, by omega, rfl, HNB.out, HNS.out, HW1.out⟩
      case round =>
        obtain ⟨B, cur2, hB0, hB1, rfl, hb, hs, hw⟩ := hrel
        have HBO := Lib.hid hb
        have HST := Lib.hid hs
        have HW := Lib.hid hw
        clear hb hs hw
        by_cases hlt : B < N
        · go_wp2_with fail
          generalize wr = wo at HW ⊢
          go_loopw [7, 8] (fun a b wr => ∃ (c : Nat) (cur : List Value), c * (2 * B) ≤ N ∧ a = .int .i64 ((c * (2 * B) : Nat) : Int) ∧ b = .int .i64 ((c * (2 * B) + 2 * B : Nat) : Int) ∧ BlocksTo f cur B c ∧ OrdPure.Stable f xs cur ∧ StRow S base g cap w0 wr N cur) (fun a _ _ => N + 1 - (intOf a).toNat)
          case atStart => exact ⟨0, cur2, by omega, by simp, by simp, HBO.out.to, HST.out, HW.out⟩
          case round =>
            obtain ⟨c, cur3, hcN, rfl, rfl, hb, hs, hw⟩ := hrel
            have HBT := Lib.hid hb
            have HS3 := Lib.hid hs
            have HW3 := Lib.hid hw
            obtain ⟨A, hA⟩ : ∃ A, A = c * (2 * B) := ⟨_, rfl⟩
            have HPR := Lib.hid hb.pair
            rw [← hA] at hcN HPR ⊢
            have HAA := Lib.hid hA
            have HAN := Lib.hid (show (c + 1) * (2 * B) = A + 2 * B by rw [Nat.add_mul, Nat.one_mul, hA])
            clear hb hs hw hA
            by_cases hlt2 : A + 2 * B ≤ N
            · have hlen := HW3.out.len
              have HT1 := Lib.hid (OrdPure.seg_four cur3 A B B)
              have HT2 := Lib.hid (show (cur3.take A).length = A by rw [List.length_take]; omega)
              have HT3 := Lib.hid (show (OrdPure.seg cur3 A B).length = B by rw [OrdPure.seg_length]; omega)
              have HT4 := Lib.hid (show (OrdPure.seg cur3 (A + B) B).length = B by rw [OrdPure.seg_length]; omega)
              have HCALL := Lib.hid (HSYM.out (cur3.take A) (OrdPure.seg cur3 A B) (OrdPure.seg cur3 (A + B) B) (cur3.drop (A + B + B)) A (A + B) (A + 2 * B) wr (HT1.out ▸ HW3.out) HT2.out.symm (by rw [HT3.out]) (by rw [HT4.out]; omega) (by rw [HT3.out]; exact hB0) (by rw [HT4.out]; exact hB0) HPR.out.1 HPR.out.2)
              have e1 : ((A + B : Nat) : Int) = (A : Int) + (B : Int) := by omega
              have e2 : ((A + 2 * B : Nat) : Int) = (A : Int) + 2 * (B : Int) := by omega
              rw [e1, e2] at HCALL
              clear hlen HPR
              generalize cur3.take A = p at HCALL HT1 HT2
              generalize OrdPure.seg cur3 A B = u at HCALL HT1 HT3
              generalize OrdPure.seg cur3 (A + B) B = v at HCALL HT1 HT4
              generalize cur3.drop (A + B + B) = q at HCALL HT1
              clear e1 e2
              go_wp2_with fail
              refine HCALL.out.mono ?_
              rintro e w1 ⟨rfl, s, hs, hw⟩
              have HW1 := Lib.hid hw
              have HNB := Lib.hid (show BlocksTo f (p ++ s ++ q) B (c + 1) from BlocksTo.next (HT1.out ▸ HBT.out) (by rw [HT2.out, HAA.out]) (by rw [List.length_append, HT3.out, HT4.out]; omega) (by rw [hs.length HP.out, List.length_append, HT3.out, HT4.out]; omega) hs.1)
              have HNS := Lib.hid (show OrdPure.Stable f xs (p ++ s ++ q) from OrdPure.Stable.trans HS3.out (by
                rw [HT1.out]
                exact OrdPure.Stable.append (OrdPure.Stable.append (OrdPure.Stable.refl p) hs.2) (OrdPure.Stable.refl q)))
              clear hs hw
              go_wp2_with fail
              go_roundw
              case rel => exact ⟨c + 1, _, by rw [HAN.out]; exact hlt2, by rw [HAN.out]; go_num, by rw [HAN.out]; go_num, HNB.out, HNS.out, HW1.out⟩
              case measure => simp [intOf]; omega
            · by_cases hlt3 : A + B < N
              · have hlen := HW3.out.len
                have HT1 := Lib.hid (show cur3 = cur3.take A ++ (OrdPure.seg cur3 A B ++ OrdPure.seg cur3 (A + B) B) ++ [] from by
                  have h := OrdPure.seg_four cur3 A B B
                  rwa [List.drop_of_length_le (show cur3.length ≤ A + B + B by omega)] at h)
                have HT2 := Lib.hid (show (cur3.take A).length = A by rw [List.length_take]; omega)
                have HT3 := Lib.hid (show (OrdPure.seg cur3 A B).length = B by rw [OrdPure.seg_length]; omega)
                have HT4 := Lib.hid (show (OrdPure.seg cur3 (A + B) B).length = N - (A + B) by rw [OrdPure.seg_length]; omega)
                have HCALL := Lib.hid (HSYM.out (cur3.take A) (OrdPure.seg cur3 A B) (OrdPure.seg cur3 (A + B) B) [] A (A + B) N wr (HT1.out ▸ HW3.out) HT2.out.symm (by rw [HT3.out]) (by rw [HT4.out]; omega) (by rw [HT3.out]; exact hB0) (by rw [HT4.out]; omega) HPR.out.1 HPR.out.2)
                have e1 : ((A + B : Nat) : Int) = (A : Int) + (B : Int) := by omega
                rw [e1] at HCALL
                clear hlen HPR
                generalize cur3.take A = p at HCALL HT1 HT2
                generalize OrdPure.seg cur3 A B = u at HCALL HT1 HT3
                generalize OrdPure.seg cur3 (A + B) B = v at HCALL HT1 HT4
                clear e1
                go_wp2_with fail
                refine HCALL.out.mono ?_
                rintro e w1 ⟨rfl, s, hs, hw⟩
                have HW1 := Lib.hid hw
                have HNB := Lib.hid (show BlocksOk f (p ++ s ++ []) (2 * B) from by
                  have h : BlocksTo f (p ++ (u ++ v)) B c := by
                    have h := HT1.out ▸ HBT.out
                    rwa [List.append_nil] at h
                  rw [List.append_nil]
                  exact BlocksTo.last h (by rw [HT2.out, HAA.out]) (by rw [hs.length HP.out, List.length_append, HT3.out, HT4.out]; omega) hs.1)
                have HNS := Lib.hid (show OrdPure.Stable f xs (p ++ s ++ []) from OrdPure.Stable.trans HS3.out (by
                  rw [HT1.out]
                  exact OrdPure.Stable.append (OrdPure.Stable.append (OrdPure.Stable.refl p) hs.2) (OrdPure.Stable.refl [])))
                clear hs hw
                go_wp2_with fail
                go_roundw
                case rel => exact ⟨2 * B, _, by omega, by omega, by go_num, HNB.out, HNS.out, HW1.out⟩
                case measure => simp [intOf]; omega
              · have HNB := Lib.hid (show BlocksOk f cur3 (2 * B) from HBT.out.short (by rw [HW3.out.len, ← HAA.out]; omega))
                clear HPR
                go_wp2_with fail
                go_roundw
                case rel => exact ⟨2 * B, _, by omega, by omega, by go_num, HNB.out, HS3.out, HW3.out⟩
                case measure => simp [intOf]; omega
        · have HFIN := Lib.hid (show OrdPure.IsSort f xs cur2 from ⟨HBO.out.whole (by rw [HW.out.len]; omega), HST.out⟩)
          go_wp2_with fail
          go_end0
          exact ⟨rfl, cur2, HFIN.out, HW.out⟩

set_option maxRecDepth 100000 in
theorem sortStable_any (G : Nat) (pc : Value) (f : Value → Value → Int) (S : Value → Prop) (base g cap N : Nat) (w0 : World) (hc : CmpOk G pc f S g w0) (xs : List Value) (w : World) (hr : StRow S base g cap w0 w N xs) :
    Calls Try.prog 29 #[.slice (some ⟨g, 0, none⟩) N cap, .func (.func G) #[] #[pc]] w fun e w' => e = .returned (.tuple #[]) ∧ ∃ s, OrdPure.IsSort f xs s ∧ StRow S base g cap w0 w' N s := by
  have HS := Lib.hid (stable_any G pc f S base g cap N w0 hc xs w hr)
  clear hr hc
  go_enter Try.func29, Try.ntmps29
  go_wp2_with fail
  refine HS.out.mono ?_
  rintro e w1 ⟨rfl, s, hs, hw⟩
  have HW := Lib.hid hw
  have HSO := Lib.hid hs
  clear hw hs
  go_wp2_with fail
  go_end0
  exact ⟨rfl, s, HSO.out, HW.out⟩

end Go.Proofs.Ytjpdpgjalbjmgaa

/-
  Copies of rows, sorted by what the rows hold.
-/
namespace Go.Proofs.Ytjpdpgjalbjmgaa
open Go.RowKit Go.BigFrame

/-- A slice reads as one row only. -/
theorem RdVals.one {w : World} {v : Value} {r r' : List V} (h : RdVals w v r) (h' : RdVals w v r') : r = r' := by
  obtain ⟨ao, c, e1, -, -, h1⟩ := h
  obtain ⟨ao', c', e2, -, -, h2⟩ := h'
  rw [e1] at e2
  simp only [Value.slice.injEq] at e2
  obtain ⟨rfl, hl, rfl⟩ := e2
  apply List.ext_getElem hl
  intro i hi hi'
  obtain ⟨g, off, e3, k1⟩ := h1 i hi
  obtain ⟨g', off', e4, k2⟩ := h2 i hi'
  rw [e3] at e4
  simp only [Option.some.injEq, Addr.mk.injEq, and_true] at e4
  obtain ⟨rfl, rfl⟩ := e4
  have a0 := (k1 0 _ rfl).symm.trans (k2 0 _ rfl)
  have a1 := (k1 1 _ rfl).symm.trans (k2 1 _ rfl)
  have a2 := (k1 2 _ rfl).symm.trans (k2 2 _ rfl)
  have b0 : r[i].k = r'[i].k := by simpa using a0
  have b1 : r[i].n = r'[i].n := by simpa using a1
  have b2 : r[i].s = r'[i].s := by simpa using a2
  generalize r[i] = x at b0 b1 b2
  generalize r'[i] = y at b0 b1 b2
  obtain ⟨xk, xn, xs⟩ := x
  obtain ⟨yk, yn, ys⟩ := y
  simp only at b0 b1 b2
  rw [b0, b1, b2]

open Classical in
/-- What a slice reads as. -/
noncomputable def rowOf (w : World) (v : Value) : List V := if h : ∃ r, RdVals w v r then h.choose else []
theorem rowOf_eq {w : World} {v : Value} {r : List V} (h : RdVals w v r) : rowOf w v = r := by
  have he : ∃ r, RdVals w v r := ⟨r, h⟩
  unfold rowOf
  rw [dif_pos he]
  exact RdVals.one he.choose_spec h
theorem rows_of {w : World} {hs : List Value} {rs : List (List V)} (h : HdRows w hs rs) : hs.map (rowOf w) = rs := by
  apply List.ext_getElem (by rw [List.length_map, h.1])
  intro i h1 h2
  rw [List.getElem_map]
  exact rowOf_eq (h.2 i (by simpa using h1) h2)

theorem OwnV.onlyP {base g base' n : Nat} {w w' : World} {u v : Value} {r : List V} {ys : List Value} (h : OwnV base w u r) (ho : w.ownsRow base' 33 1 v n ys) (hg : v.ownBlock = some g) (hw : OnlyP g w w') : OwnV base w' u r :=
  h.beside ho (OnlyS.of_onlyP hw hg)

theorem CopyRows.sorted {base g base' n : Nat} {w w' : World} {v : Value} {hs s : List Value} {rs : List (List V)} {ks : List Ky} (h : CopyRows base w hs rs) (ho : w.ownsRow base' 33 1 v n hs) (hg : v.ownBlock = some g) (hw : OnlyP g w w')
    (hs' : OrdPure.IsSort (fun x y => cmpR ks (rowOf w x) (rowOf w y)) hs s) : CopyRows base w' s (sortS ks rs) := by
  have hp : OrdPure.Pre fun x y => cmpR ks (rowOf w x) (rowOf w y) := (cmpR_pre ks).on (rowOf w)
  have h1 := hs'.map (cmpR_pre ks)
  rw [rows_of h.rd] at h1
  have h2 := sortS_eq h1
  rw [← h2]
  refine ⟨by rw [List.length_map], fun i hi hi' => ?_⟩
  rw [List.getElem_map]
  have hm : s[i] ∈ hs := (hs'.mem hp).1 (List.getElem_mem hi)
  obtain ⟨j, hj, e⟩ := List.mem_iff_getElem.1 hm
  have h3 := h.2 j hj (h.1 ▸ hj)
  rw [← e, rowOf_eq h3.rd]
  exact h3.onlyP ho hg hw

end Go.Proofs.Ytjpdpgjalbjmgaa

/-
  'panics' of layer 4: what a function's panic is told as.
-/
namespace Go.Proofs.Ytjpdpgjalbjmgaa
open Go.RowKit

theorem bool_block {w w2 : World} {b : Bool} (h : Ext (w.alloc (.cells #[.bool b] 4)) w2) : w2.heap[w.heap.size]? = some (.cells #[.bool b] 4 (0, 0)) := by
  rw [h.block w.heap.size (by simp)]
  exact heap_alloc_new w _

end Go.Proofs.Ytjpdpgjalbjmgaa

/-
  The contracts of the document's own Equal and Less.
-/
namespace Go.Proofs.Ytjpdpgjalbjmgaa
open Go.RowKit Go.BigFrame

theorem new_cell (w : World) (xs : List Value) (t : TypeId) : ∀ j u, xs[j]? = some u → (w.alloc (.cells xs.toArray t)).cell? ⟨w.heap.size, j, none⟩ = some u := by
  intro j u hj
  unfold World.cell?
  rw [heap_alloc_new]
  simpa using hj
theorem kept_cell {w w' : World} {b : Nat} {xs : List Value} (h : ∀ j u, xs[j]? = some u → w.cell? ⟨b, j, none⟩ = some u) (hb : Ext w w') : ∀ j u, xs[j]? = some u → w'.cell? ⟨b, j, none⟩ = some u := fun j u hj => by
  have hc := h j u hj
  rw [← hc]
  exact hb.cell (lt_of_cell hc)
theorem cells_two0 (w : World) (xs ys : List Value) (t : TypeId) : ∀ j u, xs[j]? = some u → ((w.alloc (.cells xs.toArray t)).alloc (.cells ys.toArray t)).cell? ⟨w.heap.size, j, none⟩ = some u :=
  kept_cell (new_cell w xs t) (ext_one _ _)
theorem cells_two1 (w : World) (xs ys : List Value) (t : TypeId) : ∀ j u, ys[j]? = some u → ((w.alloc (.cells xs.toArray t)).alloc (.cells ys.toArray t)).cell? ⟨w.heap.size + 1, j, none⟩ = some u := by
  have h := new_cell (w.alloc (.cells xs.toArray t)) ys t
  have e : (w.alloc (.cells xs.toArray t)).heap.size = w.heap.size + 1 := by simp
  rw [e] at h
  exact h
/-- What is there stays, in whatever later world of a statement. -/
theorem later_cell {w : World} {b : Nat} {xs : List Value} (h : ∀ j u, xs[j]? = some u → w.cell? ⟨b, j, none⟩ = some u) (j : Nat) (u : Value) (hj : xs[j]? = some u) : ∀ z : Later Ext w.drew, z.val.cell? ⟨b, j, none⟩ = some u :=
  fun z => kept_cell h (Ext.trans (Ext.drew w) z.ext) j u hj

theorem now_cell {w : World} {b : Nat} {xs : List Value} (h : ∀ j u, xs[j]? = some u → w.cell? ⟨b, j, none⟩ = some u) (j : Nat) (u : Value) (hj : xs[j]? = some u) : ∀ z : Later Ext w, z.val.cell? ⟨b, j, none⟩ = some u :=
  fun z => kept_cell h z.ext j u hj

theorem equalT_eq (a b : V) : equalT a b = knownT a b (decide (a = b)) := by
  unfold equalT
  rw [decide_eq_decide.2 cmpV_zero]

end Go.Proofs.Ytjpdpgjalbjmgaa

/-
  Assertions of a type (with two results) at a number, a text, a truth, nothing.
-/
namespace Go.Proofs.Ytjpdpgjalbjmgaa
open Go.RowKit Go.BigFrame

theorem as_hit (u : Value) (w : World) : (Instr.typeAssert (.iface 4 u) 20 4 true).run Try.prog w = .ok (.tuple #[u, .bool true]) w ∧
    (Instr.typeAssert (.iface 3 u) 20 3 true).run Try.prog w = .ok (.tuple #[u, .bool true]) w ∧
    (Instr.typeAssert (.iface 9 u) 20 9 true).run Try.prog w = .ok (.tuple #[u, .bool true]) w := by
  simp [Instr.typeAssert, run_underlying Try.underlying4, run_underlying Try.underlying3, run_underlying Try.underlying9]

theorem as_miss (T : TypeId) (u : Value) (w : World) : (T ≠ 4 → (Instr.typeAssert (.iface T u) 20 4 true).run Try.prog w = .ok (.tuple #[.bool false, .bool false]) w) ∧
    (T ≠ 3 → (Instr.typeAssert (.iface T u) 20 3 true).run Try.prog w = .ok (.tuple #[.int .i64 0, .bool false]) w) ∧
    (T ≠ 9 → (Instr.typeAssert (.iface T u) 20 9 true).run Try.prog w = .ok (.tuple #[.string ⟨#[]⟩, .bool false]) w) := by
  refine ⟨fun h => ?_, fun h => ?_, fun h => ?_⟩ <;>
  simp [Instr.typeAssert, run_underlying Try.underlying4, run_underlying Try.underlying3, run_underlying Try.underlying9, Try.zeroValue4, Try.zeroValue3, Try.zeroValue9, h]

theorem as_nil (w : World) : (Instr.typeAssert .nilIface 20 4 true).run Try.prog w = .ok (.tuple #[.bool false, .bool false]) w ∧
    (Instr.typeAssert .nilIface 20 3 true).run Try.prog w = .ok (.tuple #[.int .i64 0, .bool false]) w ∧
    (Instr.typeAssert .nilIface 20 9 true).run Try.prog w = .ok (.tuple #[.string ⟨#[]⟩, .bool false]) w := by
  refine ⟨?_, ?_, ?_⟩ <;>
  simp [Instr.typeAssert, run_underlying Try.underlying4, run_underlying Try.underlying3, run_underlying Try.underlying9, Try.zeroValue4, Try.zeroValue3, Try.zeroValue9]

end Go.Proofs.Ytjpdpgjalbjmgaa

/-
  The program's contracts of layer 4: truths, and how two values stand.
-/
namespace Go.Proofs.Ytjpdpgjalbjmgaa
open Go.RowKit Go.BigFrame

/-! ### Truths -/

/-! ### The order -/

theorem pNaN_u8 (a : Int) (w : World) : Calls Try.prog 47 #[.int .u8 a] w fun e w' => e = .returned (.bool false) ∧ w' = w := by
  go_enter Try.func47, Try.ntmps47
  go_wp2_with fail
  go_ret
  exact ⟨rfl, rfl⟩
theorem pNaN_int (a : Int) (w : World) : Calls Try.prog 52 #[.int .i64 a] w fun e w' => e = .returned (.bool false) ∧ w' = w := by
  go_enter Try.func52, Try.ntmps52
  go_wp2_with fail
  go_ret
  exact ⟨rfl, rfl⟩

theorem pCompare_u8 (a b : Int) (w : World) :
    Calls Try.prog 43 #[.int .u8 a, .int .u8 b] w fun e w' => e = .returned (.int .i64 (cmpN a b)) ∧ w' = w := by
  have HA := Lib.hid (pNaN_u8 a)
  have HB := Lib.hid (pNaN_u8 b)
  unfold cmpN
  by_cases h : a = b
  · subst h
    rw [if_pos rfl]
    go_enter Try.func43, Try.ntmps43
    go_wp2_with fail
    refine (HA.out _).mono ?_
    rintro e w' ⟨rfl, rfl⟩
    go_wp2_with fail
    refine (HA.out _).mono ?_
    rintro e w' ⟨rfl, rfl⟩
    go_wp2_with fail
    go_ret
    exact ⟨rfl, rfl⟩
  · rw [if_neg h]
    by_cases h2 : a < b
    · have hd : decide (a < b) = true := decide_eq_true h2
      rw [if_pos h2]
      clear h h2
      go_enter Try.func43, Try.ntmps43
      go_wp2_with fail
      refine (HA.out _).mono ?_
      rintro e w' ⟨rfl, rfl⟩
      go_wp2_with fail
      refine (HB.out _).mono ?_
      rintro e w' ⟨rfl, rfl⟩
      go_wp2_with fail
      go_ret
      exact ⟨rfl, rfl⟩
    · have hd : decide (a < b) = false := decide_eq_false h2
      have hd2 : decide (b < a) = true := decide_eq_true (by omega)
      rw [if_neg h2]
      clear h h2
      go_enter Try.func43, Try.ntmps43
      go_wp2_with fail
      refine (HA.out _).mono ?_
      rintro e w' ⟨rfl, rfl⟩
      go_wp2_with fail
      refine (HB.out _).mono ?_
      rintro e w' ⟨rfl, rfl⟩
      go_wp2_with fail
      go_ret
      exact ⟨rfl, rfl⟩

theorem pCompare_int (a b : Int) (w : World) :
    Calls Try.prog 49 #[.int .i64 a, .int .i64 b] w fun e w' => e = .returned (.int .i64 (cmpN a b)) ∧ w' = w := by
  have HA := Lib.hid (pNaN_int a)
  have HB := Lib.hid (pNaN_int b)
  unfold cmpN
  by_cases h : a = b
  · subst h
    rw [if_pos rfl]
    go_enter Try.func49, Try.ntmps49
    go_wp2_with fail
    refine (HA.out _).mono ?_
    rintro e w' ⟨rfl, rfl⟩
    go_wp2_with fail
    refine (HA.out _).mono ?_
    rintro e w' ⟨rfl, rfl⟩
    go_wp2_with fail
    go_ret
    exact ⟨rfl, rfl⟩
  · rw [if_neg h]
    by_cases h2 : a < b
    · have hd : decide (a < b) = true := decide_eq_true h2
      rw [if_pos h2]
      clear h h2
      go_enter Try.func49, Try.ntmps49
      go_wp2_with fail
      refine (HA.out _).mono ?_
      rintro e w' ⟨rfl, rfl⟩
      go_wp2_with fail
      refine (HB.out _).mono ?_
      rintro e w' ⟨rfl, rfl⟩
      go_wp2_with fail
      go_ret
      exact ⟨rfl, rfl⟩
    · have hd : decide (a < b) = false := decide_eq_false h2
      have hd2 : decide (b < a) = true := decide_eq_true (by omega)
      rw [if_neg h2]
      clear h h2
      go_enter Try.func49, Try.ntmps49
      go_wp2_with fail
      refine (HA.out _).mono ?_
      rintro e w' ⟨rfl, rfl⟩
      go_wp2_with fail
      refine (HB.out _).mono ?_
      rintro e w' ⟨rfl, rfl⟩
      go_wp2_with fail
      go_ret
      exact ⟨rfl, rfl⟩

theorem compareBytes_eq : ∀ (a b : List UInt8), Lib.compareBytes a b = cmpB a b
  | [], [] => rfl
  | [], _ :: _ => rfl
  | _ :: _, [] => rfl
  | x :: a, y :: b => by
    have ih := compareBytes_eq a b
    unfold Lib.compareBytes
    rw [ih]
    unfold cmpB
    rw [show Op.bytesLess (x :: a) (y :: b) = (decide (x < y) || (x == y && Op.bytesLess a b)) by simp only [Op.bytesLess]]
    by_cases hxy : x = y
    · subst hxy
      have hn : ¬ x < x := by simp
      rw [if_neg hn, if_neg hn]
      simp [hn]
    · rw [if_neg (fun h : x :: a = y :: b => hxy (List.cons.inj h).1)]
      by_cases hl : x < y
      · simp [hl]
      · have hg : y < x := by
          rcases Nat.lt_or_ge y.toNat x.toNat with h | h
          · exact h
          · exact absurd (UInt8.toNat_inj.1 (Nat.le_antisymm h (Nat.le_of_not_lt hl))) hxy
        simp [hl, hg, hxy]

set_option maxRecDepth 100000 in
theorem pCompareString (a b : ByteArray) (w : World) :
    Calls Try.prog 53 #[.string a, .string b] w fun e w' => e = .returned (.int .i64 (Lib.compareBytes a.data.toList b.data.toList)) ∧ w' = w := by
  go_enter Try.func53, Try.ntmps53
  go_wp2
  rw [run_callFunc_extern Try.func55 (by kernel_rfl) (by kernel_rfl) (by kernel_rfl) (e := Extern.BytealgCompare.compare) (by kernel_rfl), Lib.run_compareString]
  simp only [Result.andThen]
  rw [Oper.upon_value]
  go_wp2
  go_ret
  exact ⟨rfl, rfl⟩

theorem pCompare_text (a b : List UInt8) (w : World) :
    Calls Try.prog 50 #[.string ⟨a.toArray⟩, .string ⟨b.toArray⟩] w fun e w' => e = .returned (.int .i64 (cmpB a b)) ∧ w' = w := by
  have HC := Lib.hid (fun w => pCompareString ⟨a.toArray⟩ ⟨b.toArray⟩ w)
  simp only [compareBytes_eq] at HC
  go_enter Try.func50, Try.ntmps50
  go_wp2_with fail
  refine (HC.out _).mono ?_
  rintro e w' ⟨rfl, rfl⟩
  go_wp2_with fail
  go_ret
  exact ⟨rfl, rfl⟩

end Go.Proofs.Ytjpdpgjalbjmgaa

/-
  The program's contracts of layer 4: Compare, Equal, Less.
-/
namespace Go.Proofs.Ytjpdpgjalbjmgaa
open Go.RowKit Go.BigFrame

/-- The first that is not 0. -/
def firstNZ : List Int → Int
  | [] => 0
  | x :: t => if x = 0 then firstNZ t else x

theorem pOr_any (x : Addr) (xs : List Int) (L cap : Nat) (w : World) (hL : L = xs.length) (h1 : L ≤ cap) (h2 : cap ≤ 9223372036854775807) (hc : ∀ i u, (xs.map (Value.int .i64))[i]? = some u → w.cell? (x.add i) = some u) :
    Calls Try.prog 48 #[.slice (some x) L cap] w fun e w' => e = .returned (.int .i64 (firstNZ xs)) ∧ w' = w := by
  have HL := Lib.hid hL
  have HC := Lib.hid hc
  clear hL hc
  go_enter Try.func48, Try.ntmps48
  go_wp2_with fail
  go_loopw [5, 8] (fun _ i wr => ∃ j : Nat, j ≤ L ∧ i = .int .i64 j ∧ firstNZ xs = firstNZ (xs.drop j) ∧ wr = w) (fun _ i _ => L - (intOf i).toNat)
  case atStart => exact ⟨0, Nat.zero_le _, rfl, rfl, rfl⟩
  case round =>
    obtain ⟨j, hj, rfl, hf, rfl⟩ := hrel
    have HF := Lib.hid hf
    clear hf
    by_cases hlt : j < L
    · have hjl : j < xs.length := by have := HL.out; omega
      have hc := HC.out j (.int .i64 xs[j]) (by rw [List.getElem?_map, List.getElem?_eq_getElem hjl]; rfl)
      have HD := Lib.hid (show firstNZ (xs.drop j) = if xs[j] = 0 then firstNZ (xs.drop (j + 1)) else xs[j] by rw [List.drop_eq_getElem_cons hjl]; rfl)
      generalize xs[j] = c at hc HD
      by_cases h0 : c = 0
      · subst h0
        have HE := Lib.hid (show firstNZ (xs.drop j) = firstNZ (xs.drop (j + 1)) by rw [HD.out, if_pos rfl])
        clear HD
        go_wp2_with fail
        go_roundw
        case rel => exact ⟨j + 1, by omega, by go_num, by rw [HF.out, HE.out], trivial⟩
        case measure => simp [intOf]; omega
      · have HE := Lib.hid (show firstNZ (xs.drop j) = c by rw [HD.out, if_neg h0])
        have hq : (c == 0) = false := beq_eq_false_iff_ne.2 h0
        clear HD h0
        go_wp2_with fail
        go_ret
        exact ⟨by rw [HF.out, HE.out]; rfl, rfl⟩
    · have hjL : xs.drop j = [] := List.drop_eq_nil_of_le (by have := HL.out; omega)
      have HE := Lib.hid (show firstNZ xs = 0 by rw [HF.out, hjL]; rfl)
      clear hjL
      go_wp2_with fail
      go_ret
      exact ⟨by rw [HE.out]; rfl, rfl⟩

theorem cmpV_firstNZ (a b : V) : cmpV a b = firstNZ [cmpN a.k b.k, cmpN a.n b.n, cmpB a.s b.s] := by
  unfold cmpV
  simp only [firstNZ]
  by_cases hk : a.k = b.k
  · rw [if_pos hk, if_pos (cmpN_zero.2 hk)]
    by_cases hn : a.n = b.n
    · rw [if_pos hn, if_pos (cmpN_zero.2 hn)]
      split
      · assumption
      · rfl
    · rw [if_neg hn, if_neg (fun h => hn (cmpN_zero.1 h))]
  · rw [if_neg hk, if_neg (fun h => hk (cmpN_zero.1 h))]

set_option maxRecDepth 100000 in
set_option maxHeartbeats 1000000 in
theorem Compare_any (a b : V) (_ha : a.fits) (_hb : b.fits) (_hal : a.s.length ≤ 5000) (_hbl : b.s.length ≤ 5000) (w : World) :
    Calls Try.prog 44 #[a.val, b.val] w fun e w' => e = .returned (.int .i64 (cmpV a b)) ∧ Ext w w' := by
  rw [cmpV_firstNZ]
  clear _ha _hb _hal _hbl
  obtain ⟨k, n, s⟩ := a
  obtain ⟨k', n', s'⟩ := b
  unfold V.val
  simp only
  have H1 := Lib.hid (pCompare_u8 k k')
  have H2 := Lib.hid (pCompare_int n n')
  have H3 := Lib.hid (pCompare_text s s')
  generalize cmpN k k' = x1 at H1 ⊢
  generalize cmpN n n' = x2 at H2 ⊢
  generalize cmpB s s' = x3 at H3 ⊢
  go_enter Try.func44, Try.ntmps44
  go_wp2_with fail
  have HX := Lib.hid (ext_two w (.cells #[.int .u8 k, .int .i64 n, .string ⟨s.toArray⟩] 35) (.cells #[.int .u8 k', .int .i64 n', .string ⟨s'.toArray⟩] 35))
  have ha := cells_two0 w [.int .u8 k, .int .i64 n, .string ⟨s.toArray⟩] [.int .u8 k', .int .i64 n', .string ⟨s'.toArray⟩] 35
  have hb := cells_two1 w [.int .u8 k, .int .i64 n, .string ⟨s.toArray⟩] [.int .u8 k', .int .i64 n', .string ⟨s'.toArray⟩] 35
  generalize (w.alloc (.cells #[.int .u8 k, .int .i64 n, .string ⟨s.toArray⟩] 35)).alloc (.cells #[.int .u8 k', .int .i64 n', .string ⟨s'.toArray⟩] 35) = W at ha hb HX ⊢
  have ha0 := later_cell ha 0 _ rfl
  have ha1 := later_cell ha 1 _ rfl
  have ha2 := later_cell ha 2 _ rfl
  have hb0 := later_cell hb 0 _ rfl
  have hb1 := later_cell hb 1 _ rfl
  have hb2 := later_cell hb 2 _ rfl
  clear ha hb
  refine wp_region_segs Ext Ext.keeps [([0, 1, 2, 3, 5, 6, 7, 8, 10, 11, 12, 13], some 4), ([], some 9), ([], some 14), ([], some 15), ([], some 16), ([17], none)] (by kernel_rfl) (by kernel_rfl) (fun c a a' w e h => (by exact ⟨e ▸ h.1, h.2⟩)) ?_
  simp only [pickSegs, pickOps, List.map_cons, List.map_nil, Option.map_some, Option.map_none, Option.getD_some, List.getElem?_toArray, List.getElem?_cons_zero, List.getElem?_cons_succ]
  refine wpSegs_some fun K hK => ?_
  repeat go_big_quiet_step (fail)
  refine wpQuiet_nil ?_
  clear ha0 ha1 ha2 hb0 hb1 hb2
  go_wp2_with fail
  refine (H1.out _).mono ?_
  rintro e w2 ⟨rfl, rfl⟩
  go_wp2_with fail
  refine ⟨Ext.keeps.refl _, hK _ _ ?_⟩
  clear hK K
  refine wpSegs_some fun K hK => ?_
  refine wpQuiet_nil ?_
  go_wp2_with fail
  refine (H2.out _).mono ?_
  rintro e w2 ⟨rfl, rfl⟩
  go_wp2_with fail
  refine ⟨Ext.keeps.refl _, hK _ _ ?_⟩
  clear hK K
  refine wpSegs_some fun K hK => ?_
  refine wpQuiet_nil ?_
  go_wp2_with fail
  refine (H3.out _).mono ?_
  rintro e w2 ⟨rfl, rfl⟩
  go_wp2_with fail
  refine ⟨Ext.keeps.refl _, hK _ _ ?_⟩
  clear hK K
  refine wpSegs_some fun K hK => ?_
  refine wpQuiet_nil ?_
  go_wp2_with fail
  have HO := Lib.hid (pOr_any ⟨W.heap.size, 0, none⟩ [x1, x2, x3] 3 3 (W.drew.alloc (.cells #[.int .i64 x1, .int .i64 x2, .int .i64 x3] 3)) rfl (by decide) (by decide) (fun i u hu => by rw [add_at, Nat.zero_add]; exact new_cell W.drew [.int .i64 x1, .int .i64 x2, .int .i64 x3] 3 i u hu))
  have HY := Lib.hid (ext_one W.drew (.cells #[.int .i64 x1, .int .i64 x2, .int .i64 x3] 3))
  rw [show (W.alloc (.cells #[.int .i64 x1, .int .i64 x2, .int .i64 x3] 3)).drew = W.drew.alloc (.cells #[.int .i64 x1, .int .i64 x2, .int .i64 x3] 3) from rfl]
  rw [show (⟨W.heap.size, 0, none⟩ : Addr) = ⟨W.drew.heap.size, 0, none⟩ from rfl] at HO
  generalize W.drew.alloc (.cells #[.int .i64 x1, .int .i64 x2, .int .i64 x3] 3) = W2 at HY HO ⊢
  refine ⟨HY.out, hK _ _ ?_⟩
  clear hK K
  refine wpSegs_some fun K hK => ?_
  refine wpQuiet_nil ?_
  go_wp2_with fail
  refine HO.out.mono ?_
  rintro e w2 ⟨rfl, rfl⟩
  go_wp2_with fail
  refine ⟨Ext.keeps.refl _, hK _ _ ?_⟩
  clear hK K
  refine wpSegs_none ?_
  repeat go_big_quiet_step (fail)
  refine wpQuiet_nil (wpSegs_nil ?_)
  go_wp2_with fail
  go_ret
  exact ⟨rfl, Ext.trans HX.out (Ext.trans (Ext.drew _) HY.out)⟩

end Go.Proofs.Ytjpdpgjalbjmgaa

/-
  The program's contracts of layer 15: a row's value, how two rows stand.
-/
namespace Go.Proofs.Ytjpdpgjalbjmgaa
open Go.RowKit Go.BigFrame

/-- A row's value there, as it lies. -/
def valAt (r : List V) (c : Int) : V := if 0 ≤ c then match r[c.toNat]? with | some v => v | none => V.zero else V.zero
theorem valAt_out {r : List V} {c : Int} (h : c < 0 ∨ (r.length : Int) ≤ c) : valAt r c = V.zero := by
  unfold valAt
  split
  · rw [List.getElem?_eq_none (by omega)]
  · rfl
theorem valAt_in {r : List V} {c : Nat} (h : c < r.length) : valAt r c = r[c] := by
  unfold valAt
  rw [if_pos (by omega), Int.toNat_natCast, List.getElem?_eq_getElem h]
theorem valAt_fits {m : Nat} {r : List V} (h : FitR m r) (c : Int) : (valAt r c).fits ∧ (valAt r c).s.length ≤ m := by
  unfold valAt
  have hz : V.zero.fits ∧ V.zero.s.length ≤ m := ⟨V.zero_fits, Nat.zero_le _⟩
  split
  · split
    · rename_i v hv
      exact h v (List.mem_of_getElem? hv)
    · exact hz
  · exact hz
theorem atV_valAt {m : Nat} {r : List V} (h : FitR m r) (c : Int) : atV r c = if (valAt r c).k = 0 then V.zero else valAt r c := by
  by_cases h0 : c < 0 ∨ (r.length : Int) ≤ c
  · rw [atV_out h0, valAt_out h0]
    simp [V.zero]
  · obtain ⟨C, rfl⟩ : ∃ C : Nat, c = (C : Int) := ⟨c.toNat, by omega⟩
    have hl : C < r.length := by omega
    rw [atV_fit h hl, valAt_in hl]

/-- How two values stand by a key. -/
def byK (down : Bool) (v u : V) : Int := if v.k = 0 ∨ u.k = 0 then cmpN v.k u.k else if down = true then cmpV u v else cmpV v u
theorem cmpK_byK {m : Nat} {a b : List V} (k : Ky) (ha : FitR m a) (hb : FitR m b) : cmpK k a b = byK k.down (valAt a k.col) (valAt b k.col) := by
  unfold cmpK byK
  simp only
  rw [atV_valAt ha, atV_valAt hb]
  generalize valAt a k.col = x
  generalize valAt b k.col = y
  have hz : V.zero.k = 0 := rfl
  have px : x.k = 0 → (if x.k = 0 then V.zero else x) = V.zero := fun h => if_pos h
  have nx : ¬ x.k = 0 → (if x.k = 0 then V.zero else x) = x := fun h => if_neg h
  have py : y.k = 0 → (if y.k = 0 then V.zero else y) = V.zero := fun h => if_pos h
  have ny : ¬ y.k = 0 → (if y.k = 0 then V.zero else y) = y := fun h => if_neg h
  by_cases hx : x.k = 0
  · rw [px hx, if_neg (fun h => h.2.1 hz), if_pos (Or.inl hx)]
    by_cases hy : y.k = 0
    · rw [py hy, hx, hy, cmpV_zero.2 rfl, cmpN_zero.2 rfl]
    · rw [ny hy, hx]
      unfold cmpV
      rw [hz, if_neg (fun h => hy h.symm)]
  · by_cases hy : y.k = 0
    · rw [nx hx, py hy, if_neg (fun h => h.2.2 hz), if_pos (Or.inr hy), hy]
      unfold cmpV
      rw [hz, if_neg hx]
    · have hno : ¬ (x.k = 0 ∨ y.k = 0) := fun h => Or.elim h hx hy
      rw [nx hx, ny hy, if_neg hno]
      by_cases hd : k.down = true
      · rw [if_pos ⟨hd, hx, hy⟩, if_pos hd, cmpV_neg x y]
      · rw [if_neg (fun h => hd h.1), if_neg hd]

theorem pIn15_any (n i : Int) (w : World) :
    Calls Try.prog 33 #[.int .i64 n, .int .i64 i] w fun e w' => e = .returned (.bool (decide (0 ≤ i ∧ i < n))) ∧ w' = w := by
  by_cases h0 : 0 ≤ i
  · have d1 : decide (0 ≤ i) = true := decide_eq_true h0
    obtain ⟨B, hB⟩ : ∃ B, decide (i < n) = B := ⟨_, rfl⟩
    have HB := Lib.hid (show decide (0 ≤ i ∧ i < n) = B by rw [← hB]; simp [h0])
    clear h0
    go_enter Try.func33, Try.ntmps33
    go_wp2_with fail
    go_ret
    exact ⟨by rw [HB.out]; rfl, rfl⟩
  · have d1 : decide (0 ≤ i) = false := decide_eq_false h0
    have HB := Lib.hid (show decide (0 ≤ i ∧ i < n) = false by simp [h0])
    clear h0
    go_enter Try.func33, Try.ntmps33
    go_wp2_with fail
    go_ret
    exact ⟨by rw [HB.out]; rfl, rfl⟩

set_option maxRecDepth 100000 in
set_option maxHeartbeats 1000000 in
theorem pValue15_any (u : Value) (r : List V) (c : Int) (w : World) (hu : RdVals w u r) :
    Calls Try.prog 37 #[u, .int .i64 c] w fun e w' => e = .returned (valAt r c).val ∧ Ext w w' := by
  obtain ⟨ao, cap, rfl, -, -⟩ := hu.shape
  obtain ⟨-, h1, h2, hc⟩ := hu.plain
  have HC := Lib.hid hc
  have HX := Lib.hid (ext_new w (.cells #[.int .u8 0, .int .i64 0, .string ⟨#[]⟩] 35))
  have HB := Lib.hid (Blk.new w [.int .u8 0, .int .i64 0, .string ⟨#[]⟩] 35)
  unfold maxLen at h2
  obtain ⟨N, hN⟩ : ∃ N, r.length = N := ⟨_, rfl⟩
  have HN := Lib.hid hN
  have HIN := Lib.hid (pIn15_any (N : Int) c)
  rw [hN] at h1 ⊢
  clear hu hc hN
  by_cases hin : 0 ≤ c ∧ c < (N : Int)
  · rw [decide_eq_true hin] at HIN
    obtain ⟨C, rfl⟩ : ∃ C : Nat, c = (C : Int) := ⟨c.toNat, by omega⟩
    have hlt : C < N := by omega
    have hjl : C < r.length := by have := HN.out; omega
    obtain ⟨g, off, rfl, c0, c1, c2⟩ := HC.out C hjl
    have HV := Lib.hid (valAt_in hjl)
    have x0 := (HX.out.cell (lt_of_cell c0)).trans c0
    have x1 := (HX.out.cell (lt_of_cell c1)).trans c1
    have x2 := (HX.out.cell (lt_of_cell c2)).trans c2
    generalize r[C] = v at x0 x1 x2 HV
    obtain ⟨vk, vn, vs⟩ := v
    simp only at x0 x1 x2
    clear c0 c1 c2 hin
    go_enter Try.func37, Try.ntmps37
    go_wp2_with fail
    refine (HIN.out _).mono ?_
    rintro e w1 ⟨rfl, rfl⟩
    go_wp2_with fail
    refine bodyPost_ret (results_cell_row (P := Try.prog) (fn := Try.f37) rfl _ _ w.heap.size 35 _ (0, 0) _ rfl (Blk.new w [.int .u8 vk, .int .i64 vn, .string ⟨vs.toArray⟩] 35) Try.underlying35 rfl (by kernel_rfl)) rfl ?_
    exact ⟨by rw [HV.out]; rfl, ext_new _ _⟩
  · rw [decide_eq_false hin] at HIN
    have HV := Lib.hid (valAt_out (r := r) (c := c) (by have := HN.out; omega))
    clear hin
    go_enter Try.func37, Try.ntmps37
    go_wp2_with fail
    refine (HIN.out _).mono ?_
    rintro e w1 ⟨rfl, rfl⟩
    go_wp2_with fail
    refine bodyPost_ret (results_cell_row (P := Try.prog) (fn := Try.f37) rfl _ _ w.heap.size 35 _ (0, 0) _ rfl HB.out Try.underlying35 rfl (by kernel_rfl)) rfl ?_
    exact ⟨by rw [HV.out]; rfl, HX.out⟩

set_option maxRecDepth 100000 in
set_option maxHeartbeats 1000000 in
theorem pByKey15_any (a b : V) (d : Bool) (ha : a.fits) (hb : b.fits) (hal : a.s.length ≤ 5000) (hbl : b.s.length ≤ 5000) (w : World) :
    Calls Try.prog 36 #[a.val, b.val, .bool d] w fun e w' => e = .returned (.int .i64 (byK d a b)) ∧ Ext w w' := by
  have HC := Lib.hid (fun w => Compare_any a b ha hb hal hbl w)
  have HC' := Lib.hid (fun w => Compare_any b a hb ha hbl hal w)
  have HK := Lib.hid (fun w => pCompare_u8 a.k b.k w)
  have hT : byK d a b = if a.k = 0 ∨ b.k = 0 then cmpN a.k b.k else if d = true then cmpV b a else cmpV a b := rfl
  rw [hT]
  clear hT ha hb hal hbl
  generalize cmpV a b = C at HC ⊢
  generalize cmpV b a = C' at HC' ⊢
  generalize cmpN a.k b.k = D at HK ⊢
  obtain ⟨k, n, s⟩ := a
  obtain ⟨k', n', s'⟩ := b
  unfold V.val at HC HC' ⊢
  simp only at HC HC' HK ⊢
  have hc0 := cells_two0 w [.int .u8 k, .int .i64 n, .string ⟨s.toArray⟩] [.int .u8 k', .int .i64 n', .string ⟨s'.toArray⟩] 35
  have hc1 := cells_two1 w [.int .u8 k, .int .i64 n, .string ⟨s.toArray⟩] [.int .u8 k', .int .i64 n', .string ⟨s'.toArray⟩] 35
  have HX := Lib.hid (ext_two w (.cells #[.int .u8 k, .int .i64 n, .string ⟨s.toArray⟩] 35) (.cells #[.int .u8 k', .int .i64 n', .string ⟨s'.toArray⟩] 35))
  clear hc0 hc1
  by_cases h0 : k = 0
  · subst h0
    rw [if_pos (.inl rfl)]
    go_enter Try.func36, Try.ntmps36
    go_wp2_with fail
    refine (HK.out _).mono ?_
    rintro e w2 ⟨rfl, rfl⟩
    go_wp2_with fail
    go_ret
    exact ⟨rfl, HX.out⟩
  · have q : (k == 0) = false := beq_eq_false_iff_ne.2 h0
    by_cases h1 : k' = 0
    · subst h1
      rw [if_pos (.inr rfl)]
      clear h0
      go_enter Try.func36, Try.ntmps36
      go_wp2_with fail
      refine (HK.out _).mono ?_
      rintro e w2 ⟨rfl, rfl⟩
      go_wp2_with fail
      go_ret
      exact ⟨rfl, HX.out⟩
    · have q' : (k' == 0) = false := beq_eq_false_iff_ne.2 h1
      rw [if_neg (fun h => h.elim h0 h1)]
      clear h0 h1
      cases d with
      | true =>
        rw [if_pos rfl]
        go_enter Try.func36, Try.ntmps36
        go_wp2_with fail
        refine (HC'.out _).mono ?_
        rintro e w2 ⟨rfl, hb⟩
        have HB := Lib.hid (Ext.trans HX.out hb)
        clear hb
        go_wp2_with fail
        go_ret
        exact ⟨rfl, HB.out⟩
      | false =>
        rw [if_neg (by decide)]
        go_enter Try.func36, Try.ntmps36
        go_wp2_with fail
        refine (HC.out _).mono ?_
        rintro e w2 ⟨rfl, hb⟩
        have HB := Lib.hid (Ext.trans HX.out hb)
        clear hb
        go_wp2_with fail
        go_ret
        exact ⟨rfl, HB.out⟩

set_option maxRecDepth 100000 in
set_option maxHeartbeats 2000000 in
theorem pCompareQ_any (u v x : Value) (a b : List V) (ks : List Ky) (w : World) (hu : RdVals w u a) (hv : RdVals w v b) (hx : RdKs w x ks) (ha : FitR 5000 a) (hb : FitR 5000 b) :
    Calls Try.prog 24 #[u, v, x] w fun e w' => e = .returned (.int .i64 (cmpR ks a b)) ∧ Ext w w' := by
  obtain ⟨ko, kcap, rfl, -, -⟩ := hx.shape
  obtain ⟨-, h1, h2, hc⟩ := hx.plain
  have HC := Lib.hid hc
  have HA := Lib.hid (fun c W (h : Ext w W) => pValue15_any u a c W (hu.mono h))
  have HB := Lib.hid (fun c W (h : Ext w W) => pValue15_any v b c W (hv.mono h))
  have HFA := Lib.hid (fun c => valAt_fits ha c)
  have HFB := Lib.hid (fun c => valAt_fits hb c)
  have HBY := Lib.hid (fun k => cmpK_byK k ha hb)
  unfold maxLen at h2
  obtain ⟨N, hN⟩ : ∃ N, ks.length = N := ⟨_, rfl⟩
  have HN := Lib.hid hN
  rw [hN] at h1 ⊢
  clear hu hv hx hc ha hb hN
  go_enter Try.func24, Try.ntmps24
  go_wp2_with fail
  go_loopw [12, 8, 9] (fun i _ _ wr => ∃ j : Nat, j ≤ N ∧ i = .int .i64 j ∧ cmpR ks a b = cmpR (ks.drop j) a b ∧ Ext w wr) (fun i _ _ _ => N - (intOf i).toNat)
  case atStart => exact ⟨0, Nat.zero_le _, rfl, rfl, Ext.keeps.refl _⟩
  case round =>
    obtain ⟨j, hj, rfl, hd, hext⟩ := hrel
    have HD := Lib.hid hd
    have HE := Lib.hid hext
    clear hd hext
    by_cases hlt : j < N
    · have hjl : j < ks.length := by have := HN.out; omega
      obtain ⟨g, off, rfl, c0, c1⟩ := HC.out j hjl
      have HS := Lib.hid (show cmpR (ks.drop j) a b = if cmpK ks[j] a b = 0 then cmpR (ks.drop (j + 1)) a b else cmpK ks[j] a b by rw [List.drop_eq_getElem_cons hjl]; rfl)
      rw [HBY.out] at HS
      have HAC := Lib.hid (HA.out ks[j].col)
      have HBC := Lib.hid (HB.out ks[j].col)
      have HCM := Lib.hid (pByKey15_any (valAt a ks[j].col) (valAt b ks[j].col) ks[j].down (HFA.out _).1 (HFB.out _).1 (HFA.out _).2 (HFB.out _).2)
      have x0 := (HE.out.cell (lt_of_cell c0)).trans c0
      have x1 := (HE.out.cell (lt_of_cell c1)).trans c1
      generalize byK ks[j].down (valAt a ks[j].col) (valAt b ks[j].col) = C at HS HCM
      generalize ks[j].col = col at x0 HAC HBC HCM
      generalize ks[j].down = down at x1 HCM
      generalize valAt a col = X at HAC HCM
      generalize valAt b col = Y at HBC HCM
      obtain ⟨xk, xn, xs⟩ := X
      obtain ⟨yk, yn, ys⟩ := Y
      unfold V.val at HAC HBC HCM
      simp only at HAC HBC HCM
      have HXK := Lib.hid (ext_new wr (.cells #[.int .i64 col, .bool down] 43))
      have HBK := Lib.hid (Blk.new wr [.int .i64 col, .bool down] 43)
      clear c0 c1
      go_upto_region 4 with fail
      generalize wr.alloc (.cells #[.int .i64 col, .bool down] 43) = W at HXK HBK ⊢
      clear x0 x1
      have z0 : ∀ z : Later Ext W.drew, z.val.cell? ⟨wr.heap.size, 0, none⟩ = some (.int .i64 col) := fun z => (HBK.out.ext (Ext.trans (Ext.drew W) z.ext)).cell 0 _ rfl
      have z1 : ∀ z : Later Ext W.drew, z.val.cell? ⟨wr.heap.size, 1, none⟩ = some (.bool down) := fun z => (HBK.out.ext (Ext.trans (Ext.drew W) z.ext)).cell 1 _ rfl
      have HEW := Lib.hid (Ext.trans (Ext.trans HE.out HXK.out) (Ext.drew W))
      go_wp2_with fail
      refine wp_region_segs Ext Ext.keeps [([0, 1, 2, 4, 5, 6, 8, 9], some 3), ([], some 7), ([], some 10), ([11], none)] (by kernel_rfl) (by kernel_rfl) (fun c a a' w e h => (by exact ⟨e ▸ h.1, h.2⟩)) ?_
      simp only [pickSegs, pickOps, List.map_cons, List.map_nil, Option.map_some, Option.map_none, Option.getD_some, List.getElem?_toArray, List.getElem?_cons_zero, List.getElem?_cons_succ]
      refine wpSegs_some fun K' hK' => ?_
      repeat go_big_quiet_step (fail)
      refine wpQuiet_nil ?_
      clear z0 z1
      go_wp2_with fail
      refine (HAC.out _ HEW.out).mono ?_
      rintro e w3 ⟨rfl, hx3⟩
      have HX3 := Lib.hid hx3
      have HE3 := Lib.hid (Ext.trans HEW.out hx3)
      clear hx3
      go_wp2_with fail
      refine ⟨HX3.out, hK' _ _ ?_⟩
      clear hK' K'
      refine wpSegs_some fun K' hK' => ?_
      refine wpQuiet_nil ?_
      go_wp2_with fail
      refine (HBC.out _ HE3.out).mono ?_
      rintro e w4 ⟨rfl, hx4⟩
      have HX4 := Lib.hid hx4
      have HE4 := Lib.hid (Ext.trans HE3.out hx4)
      clear hx4
      go_wp2_with fail
      refine ⟨HX4.out, hK' _ _ ?_⟩
      clear hK' K'
      refine wpSegs_some fun K' hK' => ?_
      refine wpQuiet_nil ?_
      go_wp2_with fail
      refine (HCM.out w4).mono ?_
      rintro e w5 ⟨rfl, hx5⟩
      have HX5 := Lib.hid hx5
      have HE5 := Lib.hid (Ext.trans HE4.out hx5)
      clear hx5
      go_wp2_with fail
      refine ⟨HX5.out, hK' _ _ ?_⟩
      clear hK' K'
      refine wpSegs_none ?_
      repeat go_big_quiet_step (fail)
      refine wpQuiet_nil (wpSegs_nil ?_)
      by_cases hR : C = 0
      · have HN1 := Lib.hid (show cmpR ks a b = cmpR (ks.drop (j + 1)) a b by rw [HD.out, HS.out, if_pos hR])
        subst hR
        go_wp2_with fail
        go_roundw
        case rel => exact ⟨j + 1, by omega, by go_num, HN1.out, HE5.out⟩
        case measure => simp [intOf]; omega
      · have HN1 := Lib.hid (show cmpR ks a b = C by rw [HD.out, HS.out, if_neg hR])
        have q1 : (C != (0 : Int)) = true := bne_iff_ne.2 hR
        clear hR
        go_wp2_with fail
        go_ret
        exact ⟨by rw [HN1.out]; rfl, HE5.out⟩
    · have HN1 := Lib.hid (show cmpR ks a b = 0 by rw [HD.out, List.drop_of_length_le (by have := HN.out; omega)]; rfl)
      go_wp2_with fail
      go_ret
      exact ⟨by rw [HN1.out]; rfl, HE.out⟩

end Go.Proofs.Ytjpdpgjalbjmgaa
