/-
  Texts of this proof, merged.
-/
import Derived.Test.YtaoegcakefodaaaGreatZ1
import Derived.Test.YtaoegcakefodaaaGreatZ2
import Derived.Test.YtaoegcakefodaaaGreatZ3
import Derived.Test.YtaoegcakefodaaaGreatZ4
import Derived.Test.YtaoegcakefodaaaGreatZ5
import Derived.Test.YtaoegcakefodaaaGreatZ7
import Derived.Test.YtaoegcakefodaaaGreatZ9
import Derived.Test.YtaoegcakefodaaaGreatZ10
import Derived.Test.YtaoegcakefodaaaGreatZ11
import Derived.Test.YtaoegcakefodaaaGreatZ12
import Derived.Test.YtaoegcakefodaaaGreatZ13
import Derived.Test.YtaoegcakefodaaaGreatZ14
import Derived.Test.YtaoegcakefodaaaGreatZ15
namespace Go.Proofs.YtaoegcakefodaaaGreat
open Go.RowKit Go.BigFrame
set_option maxRecDepth 100000 in
theorem take_nilO (b : Value) (w : World) (hr : Rd w b []) :
    Calls Tryz.prog 167 #[b] w (TookO w []) := by
  obtain ⟨a, cap, rfl, _, _⟩ := hr.shape
  go_enter Tryz.func167, Tryz.ntmps167
  go_wp2_with fail
  refine bodyPost_ret (v := .tuple #[.agg #[.int .u8 0, .int .i64 0, .string ⟨#[]⟩], .slice none 0 0, .int .i64 6]) (by simp [results, Tryz.results167, go_sem]) rfl ⟨.inr ⟨rfl, rfl⟩, ext_one _ _⟩
theorem rd_rest {bb off L cap k : Nat} {l m : List UInt8} {w : World} (hr : Rd w (.slice (some ⟨bb, off, none⟩) L cap) l) (hL : L = l.length) (hm : m = l.drop k) (hk : k ≤ l.length) :
    (cap = L - m.length → Rd w (.slice (some ⟨bb, off, none⟩) (L - (L - m.length)) 0) m) ∧ (¬ cap = L - m.length → Rd w (.slice (some ⟨bb, off + (L - m.length), none⟩) (L - (L - m.length)) (cap - (L - m.length))) m) ∧ m.length ≤ L := by
  have hml : m.length = l.length - k := by rw [hm, List.length_drop]
  have e1 : L - m.length = k := by omega
  have e2 : L - k = m.length := by omega
  rw [e1, e2]
  rcases hr with ⟨h0, _⟩ | ⟨x, cap', h1, h2, h3, h4⟩
  · cases h0
  · simp only [Value.slice.injEq, Option.some.injEq] at h1
    obtain ⟨rfl, _, rfl⟩ := h1
    rw [List.length_map] at h2
    refine ⟨fun hc => ?_, fun hc => ?_, by omega⟩
    · have hm0 : m = [] := List.length_eq_zero_iff.1 (by omega)
      subst hm0
      exact .inr ⟨_, 0, rfl, Nat.le_refl _, by unfold maxLen; omega, fun i u hu => by simp at hu⟩
    · refine .inr ⟨⟨bb, off + k, none⟩, cap - k, by rw [List.length_map], by rw [List.length_map]; omega, by omega, fun i u hu => ?_⟩
      rw [add_at]
      have := h4 (k + i) u (by rw [hm, List.map_drop, List.getElem?_drop] at hu; exact hu)
      rw [add_at] at this
      rw [Nat.add_assoc]
      exact this
theorem pright_is {v : V} {x : Bool} (h : rightV v = x) (hv : v.fits) (hl : v.s.length ≤ 5000) (W : World) : Calls Tryz.prog 105 #[v.val] W fun e w' => e = .returned (.bool x) ∧ Ext W w' := by
  subst h
  exact Right_any v hv hl W
theorem pright_1 {k n : Int} {s : List UInt8} {x : Bool} (h : rightV ⟨k, n, s⟩ = x) (hv : (⟨k, n, s⟩ : V).fits) (hl : s.length ≤ 5000) (W : World) : Calls Tryz.prog 105 #[.agg #[.int .u8 k, .int .i64 n, .string ⟨s.toArray⟩]] W fun e w' => e = .returned (.bool x) ∧ Ext W w' :=
  pright_is h hv hl W
theorem TakeO_any (b : Value) (l : List UInt8) (w : World) (hr : Rd w b l) (hl : l.length ≤ 1000000) :
    Calls Tryz.prog 167 #[b] w (TookO w l) := by
  cases l with
  | nil => exact take_nilO b w hr
  | cons c t =>
    have hr0 := hr
    rcases hr with ⟨rfl, h1⟩ | ⟨x, cap, rfl, h2, h3, h4⟩
    · cases h1
    have hc0 := h4 0 (bv c) (by simp)
    rw [add_zero] at hc0
    obtain ⟨bb, off, rfl, _⟩ := plain_of hc0
    have hLL : ((c :: t).map bv).length = t.length + 1 := by simp
    rw [hLL] at hr0 ⊢
    have htl : t.length < 1000000 := by simp at hl; omega
    obtain ⟨a1, cap1, hrt, hsl1⟩ := slice_from _ (c :: t) 1 w hr0 (by simp)
    have hsl : ∀ W, (Instr.slice 36 (.slice (some ⟨bb, off, none⟩) (t.length + 1) cap) (some (.int .i64 1)) none none).run Tryz.prog W = .ok (.slice a1 (t.length + 1 - 1) cap1) W := fun W => hsl1 1 W rfl
    replace hrt : Rd w (.slice a1 (t.length + 1 - 1) cap1) t := hrt
    have rest : ∀ m k, m = (c :: t).drop k → k ≤ t.length + 1 → _ := fun m k hm hk => rd_rest (m := m) (k := k) hr0 (by simp) hm (by simpa using hk)
    clear h2 h3 h4 hLL hsl1
    by_cases e0 : c = 0
    · subst e0
      obtain ⟨m1, m2, m3⟩ := rest t 1 rfl (by omega)
      exact take_0 bb off (t.length + 1) cap a1 cap1 t w hc0 hrt hsl rfl htl (pright_is (v := V.zero) (by decide) ⟨by decide, by decide, by decide, by decide⟩ (by decide)) m1 m2 m3 rfl
    obtain ⟨n, s, hfr⟩ : ∃ n s, front t = (n, s) := ⟨_, _, rfl⟩
    have hf1 : (front t).1 = n := by rw [hfr]
    have hf2 : (front t).2 = s := by rw [hfr]
    have hsl0 : s ≠ 0 → s ≤ t.length := fun _ => front_le hfr
    have hn64 : s ≠ 0 → n < 2 ^ 64 := fun hs => (front_sound t n s hfr hs).1
    by_cases e1 : c = 1
    · subst e1
      by_cases hf : s = 0
      · have hI : ∀ B b W, Rdr B W b t false → Calls Tryz.prog 174 #[.pointer (some ⟨b, 0, none⟩)] W fun e w' => e = .returned (.int .i64 0) ∧ Rdr B w' b [] true ∧ Only b W w' := fun B b W h => RInt_no B b t W h (by rw [hf2, hf])
        have hV := takeV_no1 t 1 (.inl rfl) (by rw [hf2, hf])
        exact take_1_bad bb off (t.length + 1) cap a1 cap1 t w 0 hc0 hrt hsl rfl htl hI hV
      · have hI : ∀ B b W, Rdr B W b t false → Calls Tryz.prog 174 #[.pointer (some ⟨b, 0, none⟩)] W fun e w' => e = .returned (.int .i64 (zag n)) ∧ Rdr B w' b (t.drop s) false ∧ Only b W w' := fun B b W h => RInt_yes B b t n s W h hfr hf
        have hfit := zag_fits 1 (by decide) (by decide) n (hn64 hf)
        have hs := hsl0 hf
        have hV1 := fun h => takeV_yes1 t 1 (.inl rfl) (by rw [hf2]; exact hf) h
        have hV2 := fun h => takeV_wrong1 t 1 (.inl rfl) (by rw [hf2]; exact hf) h
        rw [hf1, hf2] at hV1
        rw [hf1] at hV2
        obtain ⟨m1, m2, m3⟩ := rest (t.drop s) (s + 1) rfl (by omega)
        generalize zag n = N at hI hfit hV1 hV2
        generalize t.drop s = m at hI hV1 m1 m2 m3
        clear rest hf1 hf2 hfr
        cases hrv : rightV ⟨1, N, []⟩ with
        | true => exact take_1_right bb off (t.length + 1) cap a1 cap1 t w m N hc0 hrt hsl rfl htl hI (pright_1 (s := []) hrv hfit (Nat.zero_le 5000)) m1 m2 m3 (hV1 hrv)
        | false => exact take_1_wrong bb off (t.length + 1) cap a1 cap1 t w m N hc0 hrt hsl rfl htl hI (pright_1 (s := []) hrv hfit (Nat.zero_le 5000)) (hV2 hrv)
    by_cases e2 : c = 2
    · subst e2
      by_cases hf : s = 0
      · have hI : ∀ B b W, Rdr B W b t false → Calls Tryz.prog 174 #[.pointer (some ⟨b, 0, none⟩)] W fun e w' => e = .returned (.int .i64 0) ∧ Rdr B w' b [] true ∧ Only b W w' := fun B b W h => RInt_no B b t W h (by rw [hf2, hf])
        have hV := takeV_no1 t 2 (.inr rfl) (by rw [hf2, hf])
        exact take_2_bad bb off (t.length + 1) cap a1 cap1 t w 0 hc0 hrt hsl rfl htl hI hV
      · have hI : ∀ B b W, Rdr B W b t false → Calls Tryz.prog 174 #[.pointer (some ⟨b, 0, none⟩)] W fun e w' => e = .returned (.int .i64 (zag n)) ∧ Rdr B w' b (t.drop s) false ∧ Only b W w' := fun B b W h => RInt_yes B b t n s W h hfr hf
        have hfit := zag_fits 2 (by decide) (by decide) n (hn64 hf)
        have hs := hsl0 hf
        have hV1 := fun h => takeV_yes1 t 2 (.inr rfl) (by rw [hf2]; exact hf) h
        rw [hf1, hf2] at hV1
        obtain ⟨m1, m2, m3⟩ := rest (t.drop s) (s + 1) rfl (by omega)
        generalize zag n = N at hI hfit hV1
        generalize t.drop s = m at hI hV1 m1 m2 m3
        clear rest hf1 hf2 hfr
        have hrv : rightV ⟨2, N, []⟩ = true := by simp [rightV]
        exact take_2_right bb off (t.length + 1) cap a1 cap1 t w m N hc0 hrt hsl rfl htl hI (pright_1 (s := []) hrv hfit (Nat.zero_le 5000)) m1 m2 m3 (hV1 hrv)
    by_cases e3 : c = 3
    · subst e3
      by_cases hf : s = 0
      · have hI : ∀ B b W, Rdr B W b t false → Calls Tryz.prog 175 #[.pointer (some ⟨b, 0, none⟩)] W fun e w' => e = .returned (.string ⟨([] : List UInt8).toArray⟩) ∧ Rdr B w' b [] true ∧ Only b W w' := fun B b W h => RText_no B b t W h (by rw [hf2, hf])
        have hV := takeV_no3 t (by rw [hf2, hf])
        exact take_3_bad bb off (t.length + 1) cap a1 cap1 t w [] hc0 hrt hsl rfl htl hI hV
      · have hs := hsl0 hf
        by_cases hn : n ≤ 1024 ∧ n ≤ (t.drop s).length
        · have hI : ∀ B b W, Rdr B W b t false → Calls Tryz.prog 175 #[.pointer (some ⟨b, 0, none⟩)] W fun e w' => e = .returned (.string ⟨((t.drop s).take n).toArray⟩) ∧ Rdr B w' b ((t.drop s).drop n) false ∧ Only b W w' := fun B b W h => RText_yes B b t (t.drop s) n s W h hfr hf rfl hn.1 hn.2
          have hV1 := fun h => takeV_yes3 t (by rw [hf2]; exact hf) h
          rw [hf1, hf2] at hV1
          replace hV1 := hV1 hn
          have hln : ((t.drop s).take n).length ≤ 1024 := by rw [List.length_take]; omega
          obtain ⟨m1, m2, m3⟩ := rest ((t.drop s).drop n) (s + n + 1) (by rw [List.drop_drop]; rfl) (by have := hn.2; rw [List.length_drop] at this; omega)
          generalize (t.drop s).take n = S at hI hV1 hln
          generalize (t.drop s).drop n = m at hI hV1 m1 m2 m3
          clear rest hf1 hf2 hfr
          have hrv : rightV ⟨3, 0, S⟩ = true := by simp [rightV]; omega
          exact take_3_right bb off (t.length + 1) cap a1 cap1 t w m S hc0 hrt hsl rfl htl hI (pright_1 hrv (fits_no 3 _ (by decide) (by decide)) (Nat.le_trans hln (by decide))) m1 m2 m3 hV1
        · have hI : ∀ B b W, Rdr B W b t false → Calls Tryz.prog 175 #[.pointer (some ⟨b, 0, none⟩)] W fun e w' => e = .returned (.string ⟨([] : List UInt8).toArray⟩) ∧ Rdr B w' b [] true ∧ Only b W w' := fun B b W h => RText_long B b t (t.drop s) n s W h hfr hf rfl (by rcases Nat.lt_or_ge 1024 n with h1 | h1; exact .inl h1; rcases Nat.lt_or_ge (t.drop s).length n with h2 | h2; exact .inr h2; exact absurd ⟨h1, h2⟩ hn)
          have hV := takeV_long3 t (by rw [hf2]; exact hf) (by rw [hf1, hf2]; exact hn)
          exact take_3_bad bb off (t.length + 1) cap a1 cap1 t w [] hc0 hrt hsl rfl htl hI hV
    have n0 : c.toNat ≠ 0 := fun h => e0 (UInt8.toNat_inj.1 h)
    have n1 : c.toNat ≠ 1 := fun h => e1 (UInt8.toNat_inj.1 h)
    have n2 : c.toNat ≠ 2 := fun h => e2 (UInt8.toNat_inj.1 h)
    have n3 : c.toNat ≠ 3 := fun h => e3 (UInt8.toNat_inj.1 h)
    have hcu := c.toNat_lt
    have hrv : rightV ⟨(c.toNat : Int), 0, []⟩ = false := by simp [rightV]; omega
    refine take_o bb off (t.length + 1) cap a1 cap1 t w c (c.toNat : Int) hc0 hrt hsl rfl htl (beq_eq_false_iff_ne.2 (by omega)) (beq_eq_false_iff_ne.2 (by omega)) (beq_eq_false_iff_ne.2 (by omega)) (pright_1 (s := []) hrv (fits_no _ _ (by omega) (by omega)) (Nat.zero_le 5000)) ?_
    unfold takeV
    dsimp only
    rw [if_neg e0, if_neg (by rintro (h | h) <;> contradiction), if_neg e3]
end Go.Proofs.YtaoegcakefodaaaGreat

namespace Go.Proofs.YtaoegcakefodaaaGreat
open Go.RowKit Go.BigFrame
theorem enters_num17 : ∀ args w, (callFunc 161 args).run Tryz.prog w = .ok (.enter 161 args) w := enters_of Tryz.func161 (by kernel_rfl) rfl
theorem enters_val17 : ∀ args w, (callFunc 166 args).run Tryz.prog w = .ok (.enter 166 args) w := enters_of Tryz.func166 (by kernel_rfl) rfl
set_option maxRecDepth 100000 in
set_option maxHeartbeats 1000000 in
theorem pNumCut17_any (v : Value) (b : List UInt8) (w : World) (hr : Rd w v b) :
    Calls Tryz.prog 161 #[v] w fun e w' => e = .returned (.bool (numCut b)) ∧ w = w' := by
  obtain ⟨ao, cap, rfl, h1, h2, hc⟩ := RdV.cellsAt hr
  rw [List.length_map] at h1 ⊢
  unfold maxLen at h2
  have HC := Lib.hid hc
  clear hc hr
  rcases b with _ | ⟨c, _ | ⟨d, t⟩⟩
  · clear HC
    go_enter Tryz.func161, Tryz.ntmps161
    go_wp2_with fail
    go_ret
    exact ⟨rfl, rfl⟩
  · obtain ⟨x, rfl, c0⟩ := HC.out 0 (bv c) rfl
    rw [add_zero] at c0
    unfold bv at c0
    have hn : numCut [c] = decide (247 < c.toNat) := rfl
    have hq : decide (((c.toNat : Nat) : Int) > 247) = decide (247 < c.toNat) := by rw [decide_eq_decide]; omega
    rw [hn, ← hq]
    generalize c.toNat = C at c0
    clear HC hn hq
    rw [List.length_singleton] at h1 ⊢
    go_enter Tryz.func161, Tryz.ntmps161
    go_wp2_with fail
    go_ret
    exact ⟨rfl, rfl⟩
  · obtain ⟨x, rfl, c0⟩ := HC.out 0 (bv c) rfl
    obtain ⟨x', e, c1⟩ := HC.out 1 (bv d) rfl
    simp only [Option.some.injEq] at e
    subst e
    rw [add_zero] at c0
    obtain ⟨g, off, rfl, -⟩ := plain_of c0
    rw [add_at] at c1
    unfold bv at c0 c1
    have hn : numCut (c :: d :: t) = (decide (t.length + 2 + 247 ≤ c.toNat) && !(d == 0)) := rfl
    have hd : (d == 0) = (((d.toNat : Nat) : Int) == 0) := by
      rw [Bool.eq_iff_iff, beq_iff_eq, beq_iff_eq]
      constructor
      · rintro rfl; rfl
      · intro h
        exact UInt8.toNat_inj.1 (by rw [show d.toNat = 0 by omega]; rfl)
    have hcc : c.toNat ≤ 255 := by have := c.toNat_lt; omega
    rw [hn, hd]
    have hl : (c :: d :: t).length = t.length + 2 := rfl
    rw [hl] at h1 ⊢
    generalize c.toNat = C at c0 hcc
    generalize d.toNat = D at c1
    generalize t.length = T at h1
    clear HC hn hd hl
    by_cases hq : T + 2 + 247 ≤ C
    · rw [decide_eq_true hq]
      have d1 : decide ((((T + 2 : Nat)) : Int) ≤ (C : Int) - 247) = true := decide_eq_true (by omega)
      go_enter Tryz.func161, Tryz.ntmps161
      go_wp2_with fail
      go_ret
      exact ⟨rfl, rfl⟩
    · rw [decide_eq_false hq]
      have d1 : decide ((((T + 2 : Nat)) : Int) ≤ (C : Int) - 247) = false := decide_eq_false (by omega)
      go_enter Tryz.func161, Tryz.ntmps161
      go_wp2_with fail
      go_ret
      exact ⟨rfl, rfl⟩
theorem pLeft17_any (P : Nat → Prop) (g : Nat) (l : List UInt8) (bad : Bool) (w : World) (hbl : bad = true → l = []) (h : RdO P w g l bad) :
    Calls Tryz.prog 165 #[.pointer (some ⟨g, 0, none⟩)] w fun e w' => e = .returned (.int .i64 l.length) ∧ w = w' := by
  cases bad with
  | true =>
    have hl := hbl rfl
    subst hl
    exact Left_badP P g [] w h
  | false => exact Left_anyP P g l w h
theorem Below.of_only {g N : Nat} {w w' : World} (h : Only g w w') (hN : N ≤ w.heap.size) (hg : N ≤ g) : Below N w w' := ⟨h.os, h.tape, h.output, h.size, fun k hk => h.block k (by omega) (fun e => by have : k = g := (by simpa using e); omega)⟩
set_option maxRecDepth 100000 in
set_option maxHeartbeats 1000000 in
theorem pTextCut17_any (v : Value) (b : List UInt8) (w : World) (hr : Rd w v b) (hl : b.length ≤ 1000000) :
    Calls Tryz.prog 173 #[v] w fun e w' => e = .returned (.bool (textCut b)) ∧ Ext w w' := by
  have HN := Lib.hid (pNumCut17_any v b w hr)
  have HR := Lib.hid hr
  obtain ⟨ao, cap, rfl, -, -⟩ := hr.shape
  cases hnc : numCut b with
  | true =>
    rw [hnc] at HN
    have HT := Lib.hid (show textCut b = decide (cmpB b (enc 1024) ≤ 0) by unfold textCut; rw [if_pos hnc])
    have HNUM := Lib.hid (Num_any (.slice none 0 0) [] 1024 w (.inl ⟨rfl, rfl⟩) (by simp) (by omega))
    rw [HT.out]
    generalize hcmp : cmpB b (enc 1024) = C
    have HCM := Lib.hid hcmp
    clear hr hnc HT hcmp
    go_enter Tryz.func173, Tryz.ntmps173
    go_wp2_with fail
    refine HN.out.mono ?_
    rintro e w1 ⟨rfl, rfl⟩
    go_wp2_with fail
    refine HNUM.out.mono ?_
    rintro e w2 ⟨v2, rfl, ho2, hx2⟩
    have HC := Lib.hid (pCompare17_any _ v2 b (enc 1024) w2 (HR.out.mono hx2) (by
      have := RdV.of_owns ho2
      rwa [List.nil_append] at this))
    rw [HCM.out] at HC
    have HX2 := Lib.hid (show Ext w w2 from hx2)
    clear ho2 hx2
    go_wp2_with fail
    refine HC.out.mono ?_
    rintro e w3 ⟨rfl, rfl⟩
    go_wp2_with fail
    go_ret
    exact ⟨rfl, HX2.out⟩
  | false =>
    rw [hnc] at HN
    have HT := Lib.hid (show textCut b = decide ((tk b).1 ≤ 1024 ∧ (tk b).2.1.length < (tk b).1) by unfold textCut; rw [if_neg (by rw [hnc]; decide)])
    have HNEW := Lib.hid (New_anyP _ b w hr (by omega))
    have HLT := Lib.hid (tk_lt b)
    have hlen := (tk_len b).1
    have HBAD := Lib.hid (fun h => show (tk b).2.1 = [] from by rw [tk_bad h])
    obtain ⟨R, hR⟩ : ∃ R, textCut b = R := ⟨_, rfl⟩
    rw [hR]
    have HRQ := Lib.hid (hR.symm.trans HT.out)
    clear hr hnc HT hR
    go_enter Tryz.func173, Tryz.ntmps173
    go_wp2_with fail
    refine HN.out.mono ?_
    rintro e w1 ⟨rfl, rfl⟩
    go_wp2_with fail
    refine HNEW.out.mono ?_
    rintro e w2 ⟨g, rfl, hg1, hg2, hrd, hx2⟩
    have HNUM := Lib.hid (RNum_tk _ g b false w2 (fun h => by cases h) hrd)
    have HX2 := Lib.hid hx2
    clear hrd hx2
    generalize tk b = q at HNUM HLT hlen HBAD HRQ
    obtain ⟨n, l, bad⟩ := q
    simp only at HNUM HLT hlen HBAD HRQ
    go_wp2_with fail
    refine HNUM.out.mono ?_
    rintro e w3 ⟨rfl, hrd3, ho3⟩
    have HLF := Lib.hid (pLeft17_any _ g l bad w3 HBAD.out hrd3)
    have HX3 := Lib.hid (show Ext w w3 from HX2.out.trans (Below.of_only ho3 HX2.out.size hg1))
    have hn64 := HLT.out
    clear hrd3 ho3
    generalize l.length = L at HLF hlen HRQ
    by_cases h1 : n ≤ 1024
    · have d1 : decide ((n : Int) ≤ 1024) = true := decide_eq_true (by omega)
      go_wp2_with fail
      refine HLF.out.mono ?_
      rintro e w4 ⟨rfl, rfl⟩
      go_wp2_with fail
      go_ret
      refine ⟨?_, HX3.out⟩
      rw [HRQ.out]
      have hq : decide (n ≤ 1024 ∧ L < n) = decide (L < n) := by rw [decide_eq_decide]; omega
      rw [hq]
      rfl
    · have d1 : decide ((n : Int) ≤ 1024) = false := decide_eq_false (by omega)
      go_wp2_with fail
      go_ret
      refine ⟨?_, HX3.out⟩
      rw [HRQ.out, decide_eq_false (by omega)]
      rfl
set_option maxRecDepth 100000 in
set_option maxHeartbeats 1000000 in
theorem pValCut17_any (v : Value) (b : List UInt8) (w : World) (hr : Rd w v b) (hl : b.length ≤ 1000000) :
    Calls Tryz.prog 166 #[v] w fun e w' => e = .returned (.bool (valCut b)) ∧ Ext w w' := by
  obtain ⟨ao, cap, rfl, h1, h2, hc⟩ := RdV.cellsAt hr
  rw [List.length_map] at h1 hr ⊢
  unfold maxLen at h2
  have HC := Lib.hid hc
  cases b with
  | nil =>
    clear HC hc hr
    go_enter Tryz.func166, Tryz.ntmps166
    go_wp2_with fail
    go_ret
    exact ⟨rfl, Ext.keeps.refl _⟩
  | cons c t =>
    obtain ⟨x, rfl, c0⟩ := HC.out 0 (bv c) rfl
    rw [add_zero] at c0
    unfold bv at c0
    obtain ⟨a1, cap1, hrt, hsl1⟩ := slice_from _ (c :: t) 1 w hr (by simp)
    have hlt : (c :: t).length = t.length + 1 := rfl
    have htl : t.length ≤ 1000000 := by rw [hlt] at hl; omega
    have hrt2 : Rd w (.slice a1 t.length cap1) t := hrt
    have hsl : ∀ W, (Instr.slice 36 (.slice (some x) (t.length + 1) cap) (some (.int .i64 1)) none none).run Tryz.prog W = .ok (.slice a1 t.length cap1) W := fun W => hsl1 1 W rfl
    have HNC := Lib.hid (pNumCut17_any _ t w hrt2)
    have HTC := Lib.hid (pTextCut17_any _ t w hrt2 htl)
    rw [hlt] at h1 ⊢
    clear HC hc hr hrt hrt2 hsl1 hl htl
    by_cases e1 : c = 1
    · subst e1
      have hv : valCut (1 :: t) = decide (t.length = 0) := rfl
      have hq : (((t.length + 1 : Nat) : Int) == 1) = decide (t.length = 0) := by rw [Bool.eq_iff_iff, beq_iff_eq, decide_eq_true_eq]; omega
      rw [hv, ← hq]
      clear hv hq HNC HTC hsl
      generalize t.length = T at h1
      go_enter Tryz.func166, Tryz.ntmps166
      go_wp2_with fail
      go_ret
      exact ⟨rfl, Ext.keeps.refl _⟩
    · by_cases e2 : c = 2
      · subst e2
        have hv : valCut (2 :: t) = numCut t := rfl
        rw [hv]
        clear hv HTC
        generalize numCut t = R at HNC ⊢
        go_enter Tryz.func166, Tryz.ntmps166
        go_wp2_with fail
        refine HNC.out.mono ?_
        rintro e w2 ⟨rfl, rfl⟩
        go_wp2_with fail
        go_ret
        exact ⟨rfl, Ext.keeps.refl _⟩
      · by_cases e3 : c = 3
        · subst e3
          have hv : valCut (3 :: t) = textCut t := rfl
          rw [hv]
          clear hv HNC
          generalize textCut t = R at HTC ⊢
          go_enter Tryz.func166, Tryz.ntmps166
          go_wp2_with fail
          refine HTC.out.mono ?_
          rintro e w2 ⟨rfl, hx⟩
          have HX := Lib.hid hx
          clear hx
          go_wp2_with fail
          go_ret
          exact ⟨rfl, HX.out⟩
        · have hv : valCut (c :: t) = false := by
            show (if c = 1 then _ else if c = 2 then _ else if c = 3 then _ else false) = false
            rw [if_neg e1, if_neg e2, if_neg e3]
          have q1 : (((c.toNat : Nat) : Int) == 1) = false := beq_eq_false_iff_ne.2 fun h => e1 (UInt8.toNat_inj.1 (by rw [show c.toNat = 1 by omega]; rfl))
          have q2 : (((c.toNat : Nat) : Int) == 2) = false := beq_eq_false_iff_ne.2 fun h => e2 (UInt8.toNat_inj.1 (by rw [show c.toNat = 2 by omega]; rfl))
          have q3 : (((c.toNat : Nat) : Int) == 3) = false := beq_eq_false_iff_ne.2 fun h => e3 (UInt8.toNat_inj.1 (by rw [show c.toNat = 3 by omega]; rfl))
          rw [hv]
          clear hv HNC HTC hsl e1 e2 e3
          generalize c.toNat = C at c0 q1 q2 q3
          go_enter Tryz.func166, Tryz.ntmps166
          go_wp2_with fail
          go_ret
          exact ⟨rfl, Ext.keeps.refl _⟩
end Go.Proofs.YtaoegcakefodaaaGreat

namespace Go.Proofs.YtaoegcakefodaaaGreat
open Go.RowKit Go.BigFrame
structure CuM (w : World) (c p : Nat) (is : List Nat) (rest : List UInt8) (left : Nat) (vi vr : Value) : Prop where
  blk : Blk w c [.pointer (some ⟨p, 0, none⟩), vi, vr, .int .i64 left, .int .i64 0] 150
  ids : OwnT 0 3 w vi (ivs is)
  ine : ∀ k, vi.ownBlock = some k → k ≠ c ∧ k < w.heap.size ∧ vr.ownBlock ≠ some k
  rest : OwnT (c + 1) 5 w vr (rest.map bv)
  rin : ∀ k, vr.ownBlock = some k → c < k ∧ k < w.heap.size
  few : ∀ i ∈ is, i ≤ 4096
def ownC (c : Nat) (vi vr : Value) (b : Nat) : Prop := b = c ∨ vi.ownBlock = some b ∨ vr.ownBlock = some b
theorem CuM.lt {w : World} {c p left : Nat} {is : List Nat} {rest : List UInt8} {vi vr : Value} (h : CuM w c p is rest left vi vr) {b : Nat} (hb : ownC c vi vr b) : b < w.heap.size := by
  rcases hb with rfl | hb | hb
  · exact h.blk.lt
  · exact (h.ine b hb).2.1
  · exact (h.rin b hb).2
theorem CuM.keep {X : Nat → Prop} {w w' : World} {c p left : Nat} {is : List Nat} {rest : List UInt8} {vi vr : Value} (h : CuM w c p is rest left vi vr) (ho : OnlyS X w w') (hx : ∀ b, X b → ¬ ownC c vi vr b) : CuM w' c p is rest left vi vr :=
  ⟨h.blk.onlyS ho (fun hX => hx c hX (.inl rfl)), h.ids.beside ho (fun k hX => .inr fun e => hx k hX (.inr (.inl e))), fun k hk => ⟨(h.ine k hk).1, Nat.lt_of_lt_of_le (h.ine k hk).2.1 ho.size, (h.ine k hk).2.2⟩,
   h.rest.beside ho (fun k hX => .inr fun e => hx k hX (.inr (.inr e))), fun k hk => ⟨(h.rin k hk).1, Nat.lt_of_lt_of_le (h.rin k hk).2 ho.size⟩, h.few⟩
structure PgT (s : St) (ids : List Nat) (B : List UInt8) (J M : Nat) (E : Int) : Prop where
  len : B.length ≤ 56 * ids.length
  jn : J ≤ ids.length
  few : ids.length ≤ 100000000
  good : ∀ j, (h : j < ids.length) → j < J → readS s (ids[j] : Int) = (fill ((B.drop (56 * j)).take 56), 0)
  bad : 56 * J < M → (h : J < ids.length) → readS s (ids[J] : Int) = ([], E) ∧ E ≠ 0
def Filled (O X : Nat → Prop) (w : World) (c p : Nat) (s : St) (ids : List Nat) (B : List UInt8) (pos endp J left : Nat) (E : Int) (e : Ending) (w' : World) : Prop :=
  ∃ O' vi vr, PSto O' w' p s ∧ Duo O X w O' (ownC c vi vr) w' ∧
    ((endp ≤ 56 * J ∧ e = .returned (.int .i64 0) ∧ CuM w' c p (ids.drop ((endp + 55) / 56)) (((padB B ids.length).take (56 * ((endp + 55) / 56))).drop pos) left vi vr) ∨
     (56 * J < endp ∧ e = .returned (.int .i64 E) ∧ ∃ is rest, CuM w' c p is rest left vi vr))
set_option maxRecDepth 100000 in
set_option maxHeartbeats 4000000 in
theorem pFill17_any (G : Nat) (cut : List UInt8 → Bool) (he : ∀ args w, (callFunc G args).run Tryz.prog w = .ok (.enter G args) w)
    (hG : ∀ (v : Value) (b : List UInt8) (W : World), Rd W v b → b.length ≤ 1000000 → Calls Tryz.prog G #[v] W fun e w' => e = .returned (.bool (cut b)) ∧ Ext W w')
    (O : Nat → Prop) (c p pos endp J left M : Nat) (E : Int) (s : St) (ids : List Nat) (B : List UInt8) (vi vr : Value) (w : World) (h : PSto O w p s) (hok : okS s) (hp : PgT s ids B J M E)
    (hC : CuM w c p (ids.drop ((pos + 55) / 56)) (((padB B ids.length).take (56 * ((pos + 55) / 56))).drop pos) left vi vr) (hox : ∀ b, O b → ¬ ownC c vi vr b)
    (hfew : ∀ i ∈ ids, i ≤ 4096) (hpos : pos ≤ 56 * J) (hpe : pos < endp) (hen : endp ≤ 56 * ids.length) (hshort : endp ≤ pos + 900000) (hM : endp ≤ M)
    (hcut : ∀ m, pos ≤ 56 * m → m ≤ ids.length → cut (((padB B ids.length).take (56 * m)).drop pos) = decide (56 * m < endp)) :
    Calls Tryz.prog 160 #[.pointer (some ⟨c, 0, none⟩), .func (.func G) #[] #[]] w (Filled O (ownC c vi vr) w c p s ids B pos endp J left E) := by
  obtain ⟨i5, hi5, hz0, hz1, hz2⟩ := info_parts Tryz.info5
  obtain ⟨i1, hi1, hy0, hy1, hy2⟩ := info_parts Tryz.info_int8
  have HG := Lib.hid hG
  have HOK := Lib.hid hok
  have HPG := Lib.hid hp
  have HCUT := Lib.hid hcut
  have HP := Lib.hid h
  have HCM := Lib.hid hC
  have HD0 := Lib.hid (Duo.refl w hox)
  have HEN := he
  have HPG2 := Lib.hid hfew
  clear hG hok hp hcut h hC hox
  go_enter Tryz.func160, Tryz.ntmps160
  go_wp2_with fail
  go_loopw [5] (fun _ wr => ∃ (m : Nat) (O' : Nat → Prop) (vi' vr' : Value), pos ≤ 56 * m ∧ m ≤ (endp + 55) / 56 ∧ m ≤ J ∧ PSto O' wr p s ∧ CuM wr c p (ids.drop m) (((padB B ids.length).take (56 * m)).drop pos) left vi' vr' ∧ Duo O (ownC c vi vr) w O' (ownC c vi' vr') wr) (fun _ wr => cellLen wr c 1)
  case atStart => exact ⟨(pos + 55) / 56, O, vi, vr, by omega, by omega, by omega, HP.out, HCM.out, HD0.out⟩
  case round =>
    obtain ⟨m, O', vi', vr', hm1, hm2, hm3, hp2, hC2, hd2⟩ := hrel
    obtain ⟨ra, rc, rfl, hr1, hr2⟩ := hC2.rest.shape
    obtain ⟨ia, ic, rfl, hi1', hi2'⟩ := hC2.ids.shape
    have hlenr : ((((padB B ids.length).take (56 * m)).drop pos).map bv).length = 56 * m - pos := by
      rw [List.length_map, padB_rest_len pos HPG.out.len (by have := HPG.out.jn; omega)]
    have hleni : (ivs (ids.drop m)).length = ids.length - m := by unfold ivs; rw [List.length_map, List.length_drop]
    rw [hlenr] at hr1 hC2 hd2
    rw [hleni] at hi1' hC2 hd2
    unfold maxLen at hr2 hi2'
    have HP2 := Lib.hid hp2
    have HC2 := Lib.hid hC2
    have HD2 := Lib.hid hd2
    have HLM := Lib.hid (cellLen_of (hC2.blk.cell 1 _ rfl))
    have c1 := hC2.blk.cell 1 _ rfl
    have c2 := hC2.blk.cell 2 _ rfl
    have hjn := HPG.out.jn
    have HCC := Lib.hid (HG.out _ _ wr hC2.rest.rd (by rw [padB_rest_len pos HPG.out.len (by omega)]; omega))
    rw [HCUT.out m hm1 (by omega)] at HCC
    clear hp2 hC2 hd2 hlenr hleni
    have HEND := Lib.hid (fun (h56 : endp ≤ 56 * m) => (show (endp + 55) / 56 = m by omega))
    by_cases hidn : ids.length - m = 0
    · have d1 : decide (((ids.length - m : Nat) : Int) > 0) = false := decide_eq_false (by omega)
      have d1' : decide (0 < ids.length - m) = false := decide_eq_false (by omega)
      go_wp2_with fail
      go_ret
      refine ⟨O', _, _, HP2.out, HD2.out, .inl ⟨by omega, rfl, ?_⟩⟩
      rw [HEND.out (by omega)]
      exact HC2.out
    · have d1 : decide (((ids.length - m : Nat) : Int) > 0) = true := decide_eq_true (by omega)
      have d1' : decide (0 < ids.length - m) = true := decide_eq_true (by omega)
      by_cases h56 : 56 * m < endp
      · rw [decide_eq_true h56] at HCC
        have hmn : m < ids.length := by omega
        have hid0 : (ivs (ids.drop m))[0]? = some (iv ids[m]) := by
          unfold ivs
          rw [List.getElem?_map, List.getElem?_drop, Nat.add_zero, List.getElem?_eq_getElem hmn]
          rfl
        obtain ⟨-, -, -, hcell⟩ := RdV.plainV HC2.out.ids.rd
        obtain ⟨gi, oi, rfl, ci⟩ := hcell 0 _ hid0
        unfold iv at ci
        rw [Nat.add_zero] at ci
        have hgi := HC2.out.ine gi rfl
        have hid4 : ids[m] ≤ 4096 := HC2.out.few _ (by rw [List.mem_iff_getElem]; exact ⟨0, by rw [List.length_drop]; omega, by simp⟩)
        have HRDT := Lib.hid (fun (W : World) (hW : PSto O' W p s) => pRead_any (w := W) (ids[m] : Int) hW HOK.out (by omega))
        have HGOOD := Lib.hid (fun (hj : m < J) => HPG.out.good m hmn hj)
        have HBAD := Lib.hid (fun (hj : m = J) => (show readS s (ids[m] : Int) = ([], E) ∧ E ≠ 0 by subst hj; exact HPG.out.bad (by omega) hmn))
        generalize ids[m] = id at ci hid4 HRDT HGOOD HBAD
        have HCI := Lib.hid ci
        have HGI := Lib.hid hgi
        clear hid0 hcell ci hgi
        go_wp2_with fail
        refine HCC.out.mono ?_
        rintro e w3 ⟨rfl, hx3⟩
        have HX3 := Lib.hid hx3
        have HP3 := Lib.hid (HP2.out.onlyS (OnlyS.of_ext (X := fun _ => False) hx3) (fun _ _ h => h))
        have HC3 := Lib.hid (HC2.out.keep (OnlyS.of_ext (X := fun _ => False) hx3) (fun _ h => h.elim))
        have HCI3 := Lib.hid ((hx3.cell (lt_of_cell HCI.out)).trans HCI.out)
        clear hx3 c1 c2
        have HBZ := Lib.hid (fun z : Later (OnlyS O') w3.drew => (HC3.out.blk.ext (Ext.drew w3)).onlyS z.ext (fun hO => HD2.out.apart c hO (.inl rfl)))
        have a0 : ∀ z : Later (OnlyS O') w3.drew, z.val.cell? ⟨c, 0, none⟩ = some (.pointer (some ⟨p, 0, none⟩)) := fun z => (HBZ.out z).cell 0 _ rfl
        have a1 : ∀ z : Later (OnlyS O') w3.drew, z.val.cell? ⟨c, 1, none⟩ = some (.slice (some ⟨gi, oi, none⟩) (ids.length - m) ic) := fun z => (HBZ.out z).cell 1 _ rfl
        have a2 : ∀ z : Later (OnlyS O') w3.drew, z.val.cell? ⟨gi, oi, none⟩ = some (.int .i64 (id : Int)) := fun z => z.ext.cell ((Ext.drew w3).cell (lt_of_cell HCI3.out) |>.trans HCI3.out) (fun hO => HD2.out.apart gi hO (.inr (.inl rfl)))
        have HRD := Lib.hid (HRDT.out w3.drew (HP3.out.keep (fun b hb => rfl) (Nat.le_refl _)))
        go_wp2_with fail
        refine wp_region_segs (OnlyS O') (OnlyS.keeps O') [([0, 1, 2, 3, 4, 5, 6, 7, 8, 9], some 10), ([11, 12, 13, 14, 15], none)] (by kernel_rfl) (by kernel_rfl) (fun c a a' w e h => (by exact ⟨e ▸ h.1, h.2⟩)) ?_
        simp only [pickSegs, pickOps, List.map_cons, List.map_nil, Option.map_some, Option.map_none, Option.getD_some, List.getElem?_toArray, List.getElem?_cons_zero, List.getElem?_cons_succ]
        refine wpSegs_some fun K hK => ?_
        repeat go_big_quiet_step (fail)
        refine wpQuiet_nil ?_
        clear a0 a1 a2 HBZ
        go_wp2_with fail
        refine HRD.out.mono ?_
        rintro e w4 ⟨v4, rfl, hv4, O4, k1, k2, k3, -⟩
        have HP4 := Lib.hid k1
        have HO4 := Lib.hid k2
        have HN4 := Lib.hid k3
        have HV4 := Lib.hid hv4.rd
        have HX4 := Lib.hid (show ∀ b, O4 b → ¬ ownC c (.slice (some ⟨gi, oi, none⟩) (ids.length - m) ic) (.slice ra (56 * m - pos) rc) b from fun b hb hw => by
          rcases k3 b hb with h1 | h1
          · exact HD2.out.apart b h1 hw
          · have h2 := HC3.out.lt hw
            have h3 : w3.heap.size = w3.drew.heap.size := rfl
            omega)
        have HC4 := Lib.hid ((HC3.out.keep (OnlyS.of_ext (X := fun _ => False) (Ext.drew w3)) (fun _ h => h.elim)).keep k2 HD2.out.apart)
        have HD4 := Lib.hid (HD2.out.trans (Duo.trans (Duo.ext (Ext.trans HX3.out (Ext.drew w3)) HD2.out.apart) (⟨k2.mono fun _ _ h => .inl h, k3, fun _ hb => .inl hb, HX4.out⟩ : Duo O' (ownC c (.slice (some ⟨gi, oi, none⟩) (ids.length - m) ic) (.slice ra (56 * m - pos) rc)) w3.drew O4 (ownC c (.slice (some ⟨gi, oi, none⟩) (ids.length - m) ic) (.slice ra (56 * m - pos) rc)) w4)))
        clear hv4 k1 k2 k3
        by_cases hmJ : m = J
        · obtain ⟨hb1, hb2⟩ := HBAD.out hmJ
          rw [hb1]
          have q1 : (E != 0) = true := by rw [bne_iff_ne]; exact hb2
          have q2 : (E == 0) = false := beq_eq_false_iff_ne.2 hb2
          clear hb1 hb2
          obtain ⟨va, vc, hve, -, -⟩ := HV4.out.shape
          subst hve
          go_wp2_with fail
          refine ⟨HO4.out, hK _ _ ?_⟩
          clear hK K
          refine wpSegs_none ?_
          repeat go_big_quiet_step (fail)
          refine wpQuiet_nil (wpSegs_nil ?_)
          go_wp2_with fail
          go_ret
          exact ⟨O4, _, _, HP4.out, HD4.out, .inr ⟨by omega, rfl, _, _, HC4.out⟩⟩
        · have hgd := HGOOD.out (by omega)
          rw [hgd] at HV4 ⊢
          have HFL := Lib.hid (show (fill ((B.drop (56 * m)).take 56)).length = 56 by
            unfold fill zeros
            rw [List.length_append, List.length_replicate, List.length_take]
            omega)
          obtain ⟨va, vc, hve, -, -⟩ := HV4.out.shape
          rw [HFL.out] at hve
          subst hve
          clear hgd HGOOD HBAD HRDT HRD
          go_wp2_with fail
          refine ⟨HO4.out, hK _ _ ?_⟩
          clear hK K
          refine wpSegs_none ?_
          repeat go_big_quiet_step (fail)
          refine wpQuiet_nil (wpSegs_nil ?_)
          have b2 := HC4.out.blk.cell 2 _ rfl
          have HSF := Lib.hid (show c + 1 ≤ w4.heap.size from HC4.out.blk.lt)
          have HMOST := Lib.hid HPG.out.few
          have HLR := Lib.hid (show ((((padB B ids.length).take (56 * m)).drop pos).map bv).length = 56 * m - pos by rw [List.length_map, padB_rest_len pos HPG.out.len (by omega)])
          have HLF := Lib.hid (show ((fill ((B.drop (56 * m)).take 56)).map bv).length = 56 by rw [List.length_map, HFL.out])
          obtain ⟨ai', ic', hdo, hdb, hdr⟩ := HC4.out.ids.dropG Tryz.underlying48 hi1 hy1 1 (by omega)
          have hdr1 : ∀ W, (Instr.slice 48 (.slice (some ⟨gi, oi, none⟩) (ids.length - m) ic) (some (.int .i64 1)) none none).run Tryz.prog W = .ok (.slice ai' (ids.length - m - 1) ic') W := hdr
          clear hdr
          have HDO := Lib.hid hdo
          have HDB := Lib.hid hdb
          have HB4 := Lib.hid HC4.out.blk
          clear hdo hdb
          go_wp2_with (at_builtin; go_must (refine wpList_append_tailG rfl (.tmp 42) (.tmp 43) 36 rfl (c + 1) 5 i5 (.int .u8 0) 1 Tryz.underlying36 hi5 hz0 hz1 hz2 rfl _ _ rfl HC4.out.rest _ _ rfl HV4.out (bv_oneCell _) (by rw [HLR.out, HLF.out]; have := HMOST.out; unfold maxLen; omega) (by rw [HLR.out, HLF.out]; have := HMOST.out; omega) HSF.out ?_); intro v5 w5 h5a h5b h5c h5d h5e; obtain ⟨v5a, v5c, hv5, -, -⟩ := h5a.shape; rw [List.length_append, HLR.out, HLF.out] at hv5; subst hv5; have HO5 := Lib.hid h5a; have HG5 := Lib.hid h5b; have HE5 := Lib.hid h5d; have HB5 := Lib.hid (HB4.out.onlyS h5d (fun e => by omega)); have d2 := HB5.out.cell 2 _ rfl; have d1 := HB5.out.cell 1 _ rfl; have fz := HB5.out.free; clear h5a h5b h5c h5d h5e b2)
          go_roundw
          case rel =>
            have hs : OnlyS (fun b => b = c) w5 ((w5.setCell ⟨c, 2, none⟩ (.slice v5a (56 * m - pos + 56) v5c)).setCell ⟨c, 1, none⟩ (.slice ai' (ids.length - m - 1) ic')) := (OnlyS.set0 c 2 _ _).step (OnlyS.set0 c 1 _ _)
            have hvi : ∀ k, (Value.slice ai' (ids.length - m - 1) ic').ownBlock = some k → (Value.slice (some ⟨gi, oi, none⟩) (ids.length - m) ic).ownBlock = some k := fun k hk => HDB.out ▸ hk
            have hin : ∀ k, (Value.slice ai' (ids.length - m - 1) ic').ownBlock = some k → k ≠ c ∧ k < w4.heap.size ∧ (Value.slice ra (56 * m - pos) rc).ownBlock ≠ some k := fun k hk => HC4.out.ine k (hvi k hk)
            have ho45 : OnlyS (fun b => (Value.slice ra (56 * m - pos) rc).ownBlock = some b) w4 w5 := HE5.out.mono fun b _ hb => hb.1
            have ho46 : OnlyS (ownC c (.slice (some ⟨gi, oi, none⟩) (ids.length - m) ic) (.slice ra (56 * m - pos) rc)) w4 ((w5.setCell ⟨c, 2, none⟩ (.slice v5a (56 * m - pos + 56) v5c)).setCell ⟨c, 1, none⟩ (.slice ai' (ids.length - m - 1) ic')) := (ho45.mono fun _ _ h => .inr (.inr h)).step (hs.mono fun _ _ h => .inl h)
            have hd5 : Duo O4 (ownC c (.slice (some ⟨gi, oi, none⟩) (ids.length - m) ic) (.slice ra (56 * m - pos) rc)) w4 O4 (ownC c (.slice ai' (ids.length - m - 1) ic') (.slice v5a (56 * m - pos + 56) v5c)) ((w5.setCell ⟨c, 2, none⟩ (.slice v5a (56 * m - pos + 56) v5c)).setCell ⟨c, 1, none⟩ (.slice ai' (ids.length - m - 1) ic')) := by
              refine ⟨ho46.mono fun _ _ h => .inr h, fun _ hb => .inl hb, fun b hb => ?_, fun b hb hw => ?_⟩
              · rcases hb with hb | hb | hb
                · exact .inl (.inl hb)
                · exact .inl (.inr (.inl (hvi b hb)))
                · rcases HG5.out b hb with h1 | h1
                  · exact .inl (.inr (.inr h1))
                  · exact .inr h1.1
              · rcases hw with hw | hw | hw
                · exact HX4.out b hb (.inl hw)
                · exact HX4.out b hb (.inr (.inl (hvi b hw)))
                · rcases HG5.out b hw with h1 | h1
                  · exact HX4.out b hb (.inr (.inr h1))
                  · have := HP4.out.lt b hb
                    omega
            refine ⟨m + 1, O4, .slice ai' (ids.length - m - 1) ic', .slice v5a (56 * m - pos + 56) v5c, by omega, by omega, by omega, HP4.out.onlyS ho46 (fun b hb hw => HX4.out b hb hw), ⟨(HB5.out.set 2 _).set 1 _, ?_, fun k hk => ⟨(hin k hk).1, ?_, fun e => ?_⟩, ?_, fun k hk => ?_, fun i hi => HPG2.out i (List.mem_of_mem_drop hi)⟩, HD4.out.trans hd5⟩
            · have h1 := (HDO.out.beside ho45 (fun k hk => .inr fun e => (hin k e).2.2 hk)).beside hs (fun k e => .inr fun e2 => (hin k e2).1 e)
              unfold ivs at h1 ⊢
              rwa [← List.map_drop, List.drop_drop] at h1
            · have := (hin k hk).2.1
              have := ho46.size
              omega
            · rcases HG5.out k e with h1 | h1
              · exact (hin k hk).2.2 h1
              · have := (hin k hk).2.1
                omega
            · have h1 := HO5.out.beside hs (fun k e => .inl (by omega))
              rw [← List.map_append, padB_more HPG.out.len (by omega) hm1] at h1
              exact h1
            · rcases HG5.out k hk with h1 | h1
              · have h2 := HC4.out.rin k h1
                exact ⟨h2.1, Nat.lt_of_lt_of_le h2.2 ho46.size⟩
              · have := HSF.out
                have := hs.size
                omega
          case measure =>
            have h1 : cellLen ((w5.setCell ⟨c, 2, none⟩ (.slice v5a (56 * m - pos + 56) v5c)).setCell ⟨c, 1, none⟩ (.slice ai' (ids.length - m - 1) ic')) c 1 = ids.length - m - 1 := cellLen_of (((HB5.out.set 2 _).set 1 _).cell 1 _ rfl)
            rw [h1, HLM.out]
            omega
      · rw [decide_eq_false h56] at HCC
        go_wp2_with fail
        refine HCC.out.mono ?_
        rintro e w3 ⟨rfl, hx3⟩
        have HX3 := Lib.hid hx3
        clear hx3
        go_wp2_with fail
        go_ret
        refine ⟨O', _, _, HP2.out.onlyS (OnlyS.of_ext (X := fun _ => False) HX3.out) (fun _ _ h => h), HD2.out.trans (Duo.ext HX3.out HD2.out.apart), .inl ⟨by omega, rfl, ?_⟩⟩
        rw [HEND.out (by omega)]
        exact HC2.out.keep (OnlyS.of_ext (X := fun _ => False) HX3.out) (fun _ h => h.elim)
end Go.Proofs.YtaoegcakefodaaaGreat

namespace Go.Proofs.YtaoegcakefodaaaGreat
open Go.RowKit Go.BigFrame
def Got17 (O X : Nat → Prop) (w : World) (c p : Nat) (s : St) (ids : List Nat) (B : List UInt8) (endp J left : Nat) (good bad : Ending) (e : Ending) (w' : World) : Prop :=
  ∃ O' vi vr, PSto O' w' p s ∧ Duo O X w O' (ownC c vi vr) w' ∧
    ((endp ≤ 56 * J ∧ e = good ∧ CuM w' c p (ids.drop ((endp + 55) / 56)) (((padB B ids.length).take (56 * ((endp + 55) / 56))).drop endp) left vi vr) ∨
     (56 * J < endp ∧ e = bad ∧ ∃ is rest, CuM w' c p is rest left vi vr))
theorem padB_at {B : List UInt8} {N m pos : Nat} {a t : List UInt8} (_hl : B.length ≤ 56 * N) (hat : (padB B N).drop pos = a ++ t) (_hm : m ≤ N) (he : pos + a.length ≤ 56 * m) :
    ((padB B N).take (56 * m)).drop pos = a ++ ((padB B N).take (56 * m)).drop (pos + a.length) := by
  rw [padB_rest, hat, take_app _ _ _ (by omega), padB_rest, ← List.drop_drop, hat, List.drop_left]
  congr 2
  omega
set_option maxRecDepth 100000 in
set_option maxHeartbeats 4000000 in
theorem pNumber17_any (O : Nat → Prop) (c p pos J left M n : Nat) (E : Int) (s : St) (ids : List Nat) (B t : List UInt8) (vi vr : Value) (w : World) (h : PSto O w p s) (hok : okS s) (hp : PgT s ids B J M E)
    (hC : CuM w c p (ids.drop ((pos + 55) / 56)) (((padB B ids.length).take (56 * ((pos + 55) / 56))).drop pos) left vi vr) (hox : ∀ b, O b → ¬ ownC c vi vr b)
    (hfew : ∀ i ∈ ids, i ≤ 4096) (hpos : pos ≤ 56 * J) (hat : (padB B ids.length).drop pos = enc n ++ t) (hn : n < 2 ^ 64) (hen : pos + (enc n).length ≤ 56 * ids.length) (hM : pos + (enc n).length ≤ M) :
    Calls Tryz.prog 149 #[.pointer (some ⟨c, 0, none⟩)] w (Got17 O (ownC c vi vr) w c p s ids B (pos + (enc n).length) J left (.returned (.tuple #[.int .u64 n, .int .i64 0])) (.returned (.tuple #[.int .u64 0, .int .i64 E]))) := by
  have hel := enc_length n
  have hep := enc_pos n
  have HFILL := Lib.hid (pFill17_any 161 numCut enters_num17 (fun v b W hb _ => (pNumCut17_any v b W hb).mono fun e w' hh => ⟨hh.1, hh.2 ▸ Ext.keeps.refl _⟩) O c p pos (pos + (enc n).length) J left M E s ids B vi vr w h hok hp hC hox hfew hpos (by omega) hen (by omega) hM (fun m h1 h2 => by
    rw [numCut_enc hn t _ (56 * m - pos) (by rw [padB_rest, hat]), decide_eq_decide, padB_rest_len pos hp.len h2]
    omega))
  have HPG := Lib.hid hp
  have HAT := Lib.hid hat
  obtain ⟨i5, hi5, hz0, hz1, hz2⟩ := info_parts Tryz.info5
  clear h hok hp hC hox hat
  go_enter Tryz.func149, Tryz.ntmps149
  go_wp2_with fail
  refine HFILL.out.mono ?_
  rintro e w1 ⟨O1, vi1, vr1, hp1, hd1, ⟨hle, rfl, hC1⟩ | ⟨hlt, rfl, is, rest, hC1⟩⟩
  · have HP1 := Lib.hid hp1
    have HD1 := Lib.hid hd1
    have hmn : (pos + (enc n).length + 55) / 56 ≤ ids.length := by have := HPG.out.jn; omega
    rw [padB_at HPG.out.len HAT.out hmn (by omega)] at hC1
    generalize hR : ((padB B ids.length).take (56 * ((pos + (enc n).length + 55) / 56))).drop (pos + (enc n).length) = R at hC1
    have hRl : R.length ≤ 1000 := by
      rw [← hR, padB_rest_len _ HPG.out.len hmn]
      omega
    have HR := Lib.hid hR
    clear hR
    obtain ⟨ra, rc, rfl, hr1, hr2⟩ := hC1.rest.shape
    rw [List.length_map, List.length_append] at hr1 hC1
    unfold maxLen at hr2
    rw [List.length_map, List.length_append] at HD1
    have HC1 := Lib.hid hC1
    have HNEW := Lib.hid (New_anyP _ (enc n ++ R) w1 hC1.rest.rd (by rw [List.length_append]; omega))
    have c2 := hC1.blk.cell 2 _ rfl
    clear hp1 hd1 hC1
    go_wp2_with fail
    refine HNEW.out.mono ?_
    rintro e w2 ⟨g, rfl, hg1, hg2, hrd, hx2⟩
    have HNUM := Lib.hid (RNum_tk _ g _ false w2 (fun h => by cases h) hrd)
    rw [tk_enc n R hn] at HNUM
    have HX2 := Lib.hid hx2
    clear hrd hx2
    go_wp2_with fail
    refine HNUM.out.mono ?_
    rintro e w3 ⟨rfl, hrd3, ho3⟩
    have HBAD := Lib.hid (Bad_anyP _ g R false w3 hrd3)
    have HLF := Lib.hid (pLeft17_any _ g R false w3.drew (fun h => by cases h) ⟨hrd3.choose, hrd3.choose_spec.1, hrd3.choose_spec.2.1.mono (Ext.drew w3), hrd3.choose_spec.2.2⟩)
    have HX3 := Lib.hid (show Ext w1 w3 from HX2.out.trans (Below.of_only ho3 HX2.out.size hg1))
    clear hrd3 ho3
    go_wp2_with fail
    refine HBAD.out.mono ?_
    rintro e w4 ⟨rfl, rfl⟩
    obtain ⟨ra', rc', hdo, hdb, hdr⟩ := ((HC1.out.keep (OnlyS.of_ext (X := fun _ => False) HX3.out) (fun _ h => h.elim)).rest.ext (Ext.drew w3)).dropG Tryz.underlying36 hi5 hz1 (enc n).length (by omega)
    obtain ⟨TL, hTL⟩ : ∃ TL, (enc n).length + R.length = TL := ⟨_, rfl⟩
    obtain ⟨RL, hRL⟩ : ∃ RL, R.length = RL := ⟨_, rfl⟩
    have hdr2 : ∀ W, (Instr.slice 36 (.slice ra TL rc) (some (.int .i64 ((TL : Int) - (RL : Int)))) none none).run Tryz.prog W = .ok (.slice ra' (TL - (enc n).length) rc') W := by
      intro W
      have := hdr W
      rw [hTL] at this
      rw [show ((TL : Int) - (RL : Int)) = (((enc n).length : Nat) : Int) by omega]
      exact this
    rw [hTL] at HC1 HD1 hdo hdb
    rw [hRL] at HLF
    have hT1 : TL ≤ 2000 := by omega
    have hT2 : RL ≤ TL := by omega
    have HXD := Lib.hid (Ext.trans HX3.out (Ext.drew w3))
    have HDO := Lib.hid hdo
    have HDB := Lib.hid hdb
    clear hdo hdb hdr c2 hTL hRL
    have HFIN := Lib.hid (fun (wd : World) (hx : Ext w1 wd) (hdo : OwnT (c + 1) 5 wd (.slice ra' (TL - (enc n).length) rc') (List.drop (enc n).length (List.map bv (enc n ++ R)))) => (show Got17 O (ownC c vi vr) w c p s ids B (pos + (enc n).length) J left (.returned (.tuple #[.int .u64 n, .int .i64 0])) (.returned (.tuple #[.int .u64 0, .int .i64 E])) (.returned (.tuple #[.int .u64 n, .int .i64 0])) (wd.setCell ⟨c, 2, none⟩ (.slice ra' (TL - (enc n).length) rc')) by
      have hs := OnlyS.set0 c 2 wd (.slice ra' (TL - (enc n).length) rc')
      have hC := HC1.out.keep (OnlyS.of_ext (X := fun _ => False) hx) (fun _ h => h.elim)
      have hvr : ∀ k, (Value.slice ra' (TL - (enc n).length) rc').ownBlock = some k → (Value.slice ra TL rc).ownBlock = some k := fun k hk => HDB.out ▸ hk
      have hd : Duo O1 (ownC c vi1 (.slice ra TL rc)) w1 O1 (ownC c vi1 (.slice ra' (TL - (enc n).length) rc')) (wd.setCell ⟨c, 2, none⟩ (.slice ra' (TL - (enc n).length) rc')) := by
        refine ⟨OnlyS.trans (OnlyS.of_ext hx) (hs.mono fun b _ hb => .inr (.inl hb)) fun _ _ h => h, fun _ hb => .inl hb, fun b hb => ?_, fun b hb hw => ?_⟩
        · rcases hb with hb | hb | hb
          · exact .inl (.inl hb)
          · exact .inl (.inr (.inl hb))
          · exact .inl (.inr (.inr (hvr b hb)))
        · rcases hw with hw | hw | hw
          · exact HD1.out.apart b hb (.inl hw)
          · exact HD1.out.apart b hb (.inr (.inl hw))
          · exact HD1.out.apart b hb (.inr (.inr (hvr b hw)))
      refine ⟨O1, vi1, _, (HP1.out.onlyS (OnlyS.of_ext (X := fun _ => False) hx) (fun _ _ h => h)).onlyS hs (fun b hb e => HD1.out.apart b hb (.inl e)), HD1.out.trans hd, .inl ⟨hle, rfl, ⟨hC.blk.set 2 _, hC.ids.beside hs (fun k e => .inr fun e2 => (hC.ine k e2).1 e), fun k hk => ⟨(hC.ine k hk).1, Nat.lt_of_lt_of_le (hC.ine k hk).2.1 hs.size, fun e => (hC.ine k hk).2.2 (hvr k e)⟩, ?_, fun k hk => ?_, hC.few⟩⟩⟩
      · rw [HR.out]
        have h1 := hdo.beside hs (fun k e => .inl (by omega))
        rwa [← List.map_drop, List.drop_left] at h1
      · have h1 := hC.rin k (hvr k hk)
        exact ⟨h1.1, Nat.lt_of_lt_of_le h1.2 hs.size⟩))
    have HB4 := Lib.hid ((HC1.out.keep (OnlyS.of_ext (X := fun _ => False) HX3.out) (fun _ h => h.elim)).blk.ext (Ext.drew w3))
    have c2 := HB4.out.cell 2 _ rfl
    have HFI := Lib.hid (HFIN.out w3.drew HXD.out HDO.out)
    clear HFIN HDO
    go_wp2_with fail
    refine wp_region_plan (OnlyS (fun b => b = c)) (OnlyS.keeps _) (.quiet [0, 1, 2, 3, 5, 6, 7, 10] (.three 4 (.two 8 (.quiet [9] (.one 11 (.quiet [12, 13, 14, 15] (.one 16 .done)))) 11 (.one 8 (.quiet [9] (.quiet [12, 13, 14, 15] (.one 16 .done))))) 8 (.quiet [9] (.two 4 (.one 11 (.quiet [12, 13, 14, 15] (.one 16 .done))) 11 (.quiet [12] (.one 4 (.quiet [13, 14, 15] (.one 16 .done)))))) 11 (.two 4 (.one 8 (.quiet [9] (.quiet [12, 13, 14, 15] (.one 16 .done)))) 8 (.quiet [9, 12] (.one 4 (.quiet [13, 14, 15] (.one 16 .done))))))) (by kernel_rfl) (by kernel_rfl) (fun c a a' w e h => (by exact ⟨e ▸ h.1, h.2⟩)) ?_
    refine wpPlan_quiet fun K3 hK3 => ?_
    simp only [pickOps, List.map_cons, List.map_nil, Option.getD_some, List.getElem?_toArray, List.getElem?_cons_zero, List.getElem?_cons_succ]
    repeat go_big_quiet_step (fail)
    refine wpQuiet_nil (hK3 _ ?_)
    clear hK3 K3
    refine wpPlan_three (fun K1 hK1 => ?_) (fun K1 hK1 => ?_) (fun K1 hK1 => ?_)
    · simp only [pickOps, List.map_cons, List.map_nil, Option.getD_some, List.getElem?_toArray, List.getElem?_cons_zero, List.getElem?_cons_succ]
      go_wp2_with fail
      refine ⟨OnlyS.refl _ _, hK1 _ _ ?_⟩
      clear hK1 K1
      refine wpPlan_two (fun K1 hK1 => ?_) (fun K1 hK1 => ?_)
      · simp only [pickOps, List.map_cons, List.map_nil, Option.getD_some, List.getElem?_toArray, List.getElem?_cons_zero, List.getElem?_cons_succ]
        go_wp2_with fail
        refine ⟨OnlyS.refl _ _, hK1 _ _ ?_⟩
        clear hK1 K1
        refine wpPlan_quiet fun K3 hK3 => ?_
        simp only [pickOps, List.map_cons, List.map_nil, Option.getD_some, List.getElem?_toArray, List.getElem?_cons_zero, List.getElem?_cons_succ]
        repeat go_big_quiet_step (fail)
        refine wpQuiet_nil (hK3 _ ?_)
        clear hK3 K3
        refine wpPlan_one fun K1 hK1 => ?_
        simp only [pickOps, List.map_cons, List.map_nil, Option.getD_some, List.getElem?_toArray, List.getElem?_cons_zero, List.getElem?_cons_succ]
        go_wp2_with fail
        refine HLF.out.mono ?_
        rintro e w9 ⟨rfl, rfl⟩
        go_wp2_with fail
        refine ⟨OnlyS.refl _ _, hK1 _ _ ?_⟩
        clear hK1 K1
        refine wpPlan_quiet fun K3 hK3 => ?_
        simp only [pickOps, List.map_cons, List.map_nil, Option.getD_some, List.getElem?_toArray, List.getElem?_cons_zero, List.getElem?_cons_succ]
        repeat go_big_quiet_step (fail)
        refine wpQuiet_nil (hK3 _ ?_)
        clear hK3 K3
        have fz := HB4.out.free 2
        have z2 := HB4.out.cell 2 _ rfl
        refine wpPlan_one fun K1 hK1 => ?_
        simp only [pickOps, List.map_cons, List.map_nil, Option.getD_some, List.getElem?_toArray, List.getElem?_cons_zero, List.getElem?_cons_succ]
        go_wp2_with fail
        refine ⟨OnlyS.set0 c 2 _ _, hK1 _ _ ?_⟩
        clear hK1 K1
        refine wpPlan_done ?_
        go_wp2_with fail
        go_ret2
        exact HFI.out
      · simp only [pickOps, List.map_cons, List.map_nil, Option.getD_some, List.getElem?_toArray, List.getElem?_cons_zero, List.getElem?_cons_succ]
        go_wp2_with fail
        refine HLF.out.mono ?_
        rintro e w9 ⟨rfl, rfl⟩
        go_wp2_with fail
        refine ⟨OnlyS.refl _ _, hK1 _ _ ?_⟩
        clear hK1 K1
        refine wpPlan_one fun K1 hK1 => ?_
        simp only [pickOps, List.map_cons, List.map_nil, Option.getD_some, List.getElem?_toArray, List.getElem?_cons_zero, List.getElem?_cons_succ]
        go_wp2_with fail
        refine ⟨OnlyS.refl _ _, hK1 _ _ ?_⟩
        clear hK1 K1
        refine wpPlan_quiet fun K3 hK3 => ?_
        simp only [pickOps, List.map_cons, List.map_nil, Option.getD_some, List.getElem?_toArray, List.getElem?_cons_zero, List.getElem?_cons_succ]
        repeat go_big_quiet_step (fail)
        refine wpQuiet_nil (hK3 _ ?_)
        clear hK3 K3
        refine wpPlan_quiet fun K3 hK3 => ?_
        simp only [pickOps, List.map_cons, List.map_nil, Option.getD_some, List.getElem?_toArray, List.getElem?_cons_zero, List.getElem?_cons_succ]
        repeat go_big_quiet_step (fail)
        refine wpQuiet_nil (hK3 _ ?_)
        clear hK3 K3
        have fz := HB4.out.free 2
        have z2 := HB4.out.cell 2 _ rfl
        refine wpPlan_one fun K1 hK1 => ?_
        simp only [pickOps, List.map_cons, List.map_nil, Option.getD_some, List.getElem?_toArray, List.getElem?_cons_zero, List.getElem?_cons_succ]
        go_wp2_with fail
        refine ⟨OnlyS.set0 c 2 _ _, hK1 _ _ ?_⟩
        clear hK1 K1
        refine wpPlan_done ?_
        go_wp2_with fail
        go_ret2
        exact HFI.out
    · simp only [pickOps, List.map_cons, List.map_nil, Option.getD_some, List.getElem?_toArray, List.getElem?_cons_zero, List.getElem?_cons_succ]
      go_wp2_with fail
      refine ⟨OnlyS.refl _ _, hK1 _ _ ?_⟩
      clear hK1 K1
      refine wpPlan_quiet fun K3 hK3 => ?_
      simp only [pickOps, List.map_cons, List.map_nil, Option.getD_some, List.getElem?_toArray, List.getElem?_cons_zero, List.getElem?_cons_succ]
      repeat go_big_quiet_step (fail)
      refine wpQuiet_nil (hK3 _ ?_)
      clear hK3 K3
      refine wpPlan_two (fun K1 hK1 => ?_) (fun K1 hK1 => ?_)
      · simp only [pickOps, List.map_cons, List.map_nil, Option.getD_some, List.getElem?_toArray, List.getElem?_cons_zero, List.getElem?_cons_succ]
        go_wp2_with fail
        refine ⟨OnlyS.refl _ _, hK1 _ _ ?_⟩
        clear hK1 K1
        refine wpPlan_one fun K1 hK1 => ?_
        simp only [pickOps, List.map_cons, List.map_nil, Option.getD_some, List.getElem?_toArray, List.getElem?_cons_zero, List.getElem?_cons_succ]
        go_wp2_with fail
        refine HLF.out.mono ?_
        rintro e w9 ⟨rfl, rfl⟩
        go_wp2_with fail
        refine ⟨OnlyS.refl _ _, hK1 _ _ ?_⟩
        clear hK1 K1
        refine wpPlan_quiet fun K3 hK3 => ?_
        simp only [pickOps, List.map_cons, List.map_nil, Option.getD_some, List.getElem?_toArray, List.getElem?_cons_zero, List.getElem?_cons_succ]
        repeat go_big_quiet_step (fail)
        refine wpQuiet_nil (hK3 _ ?_)
        clear hK3 K3
        have fz := HB4.out.free 2
        have z2 := HB4.out.cell 2 _ rfl
        refine wpPlan_one fun K1 hK1 => ?_
        simp only [pickOps, List.map_cons, List.map_nil, Option.getD_some, List.getElem?_toArray, List.getElem?_cons_zero, List.getElem?_cons_succ]
        go_wp2_with fail
        refine ⟨OnlyS.set0 c 2 _ _, hK1 _ _ ?_⟩
        clear hK1 K1
        refine wpPlan_done ?_
        go_wp2_with fail
        go_ret2
        exact HFI.out
      · simp only [pickOps, List.map_cons, List.map_nil, Option.getD_some, List.getElem?_toArray, List.getElem?_cons_zero, List.getElem?_cons_succ]
        go_wp2_with fail
        refine HLF.out.mono ?_
        rintro e w9 ⟨rfl, rfl⟩
        go_wp2_with fail
        refine ⟨OnlyS.refl _ _, hK1 _ _ ?_⟩
        clear hK1 K1
        refine wpPlan_quiet fun K3 hK3 => ?_
        simp only [pickOps, List.map_cons, List.map_nil, Option.getD_some, List.getElem?_toArray, List.getElem?_cons_zero, List.getElem?_cons_succ]
        repeat go_big_quiet_step (fail)
        refine wpQuiet_nil (hK3 _ ?_)
        clear hK3 K3
        refine wpPlan_one fun K1 hK1 => ?_
        simp only [pickOps, List.map_cons, List.map_nil, Option.getD_some, List.getElem?_toArray, List.getElem?_cons_zero, List.getElem?_cons_succ]
        go_wp2_with fail
        refine ⟨OnlyS.refl _ _, hK1 _ _ ?_⟩
        clear hK1 K1
        refine wpPlan_quiet fun K3 hK3 => ?_
        simp only [pickOps, List.map_cons, List.map_nil, Option.getD_some, List.getElem?_toArray, List.getElem?_cons_zero, List.getElem?_cons_succ]
        repeat go_big_quiet_step (fail)
        refine wpQuiet_nil (hK3 _ ?_)
        clear hK3 K3
        have fz := HB4.out.free 2
        have z2 := HB4.out.cell 2 _ rfl
        refine wpPlan_one fun K1 hK1 => ?_
        simp only [pickOps, List.map_cons, List.map_nil, Option.getD_some, List.getElem?_toArray, List.getElem?_cons_zero, List.getElem?_cons_succ]
        go_wp2_with fail
        refine ⟨OnlyS.set0 c 2 _ _, hK1 _ _ ?_⟩
        clear hK1 K1
        refine wpPlan_done ?_
        go_wp2_with fail
        go_ret2
        exact HFI.out
    · simp only [pickOps, List.map_cons, List.map_nil, Option.getD_some, List.getElem?_toArray, List.getElem?_cons_zero, List.getElem?_cons_succ]
      go_wp2_with fail
      refine HLF.out.mono ?_
      rintro e w9 ⟨rfl, rfl⟩
      go_wp2_with fail
      refine ⟨OnlyS.refl _ _, hK1 _ _ ?_⟩
      clear hK1 K1
      refine wpPlan_two (fun K1 hK1 => ?_) (fun K1 hK1 => ?_)
      · simp only [pickOps, List.map_cons, List.map_nil, Option.getD_some, List.getElem?_toArray, List.getElem?_cons_zero, List.getElem?_cons_succ]
        go_wp2_with fail
        refine ⟨OnlyS.refl _ _, hK1 _ _ ?_⟩
        clear hK1 K1
        refine wpPlan_one fun K1 hK1 => ?_
        simp only [pickOps, List.map_cons, List.map_nil, Option.getD_some, List.getElem?_toArray, List.getElem?_cons_zero, List.getElem?_cons_succ]
        go_wp2_with fail
        refine ⟨OnlyS.refl _ _, hK1 _ _ ?_⟩
        clear hK1 K1
        refine wpPlan_quiet fun K3 hK3 => ?_
        simp only [pickOps, List.map_cons, List.map_nil, Option.getD_some, List.getElem?_toArray, List.getElem?_cons_zero, List.getElem?_cons_succ]
        repeat go_big_quiet_step (fail)
        refine wpQuiet_nil (hK3 _ ?_)
        clear hK3 K3
        refine wpPlan_quiet fun K3 hK3 => ?_
        simp only [pickOps, List.map_cons, List.map_nil, Option.getD_some, List.getElem?_toArray, List.getElem?_cons_zero, List.getElem?_cons_succ]
        repeat go_big_quiet_step (fail)
        refine wpQuiet_nil (hK3 _ ?_)
        clear hK3 K3
        have fz := HB4.out.free 2
        have z2 := HB4.out.cell 2 _ rfl
        refine wpPlan_one fun K1 hK1 => ?_
        simp only [pickOps, List.map_cons, List.map_nil, Option.getD_some, List.getElem?_toArray, List.getElem?_cons_zero, List.getElem?_cons_succ]
        go_wp2_with fail
        refine ⟨OnlyS.set0 c 2 _ _, hK1 _ _ ?_⟩
        clear hK1 K1
        refine wpPlan_done ?_
        go_wp2_with fail
        go_ret2
        exact HFI.out
      · simp only [pickOps, List.map_cons, List.map_nil, Option.getD_some, List.getElem?_toArray, List.getElem?_cons_zero, List.getElem?_cons_succ]
        go_wp2_with fail
        refine ⟨OnlyS.refl _ _, hK1 _ _ ?_⟩
        clear hK1 K1
        refine wpPlan_quiet fun K3 hK3 => ?_
        simp only [pickOps, List.map_cons, List.map_nil, Option.getD_some, List.getElem?_toArray, List.getElem?_cons_zero, List.getElem?_cons_succ]
        repeat go_big_quiet_step (fail)
        refine wpQuiet_nil (hK3 _ ?_)
        clear hK3 K3
        refine wpPlan_one fun K1 hK1 => ?_
        simp only [pickOps, List.map_cons, List.map_nil, Option.getD_some, List.getElem?_toArray, List.getElem?_cons_zero, List.getElem?_cons_succ]
        go_wp2_with fail
        refine ⟨OnlyS.refl _ _, hK1 _ _ ?_⟩
        clear hK1 K1
        refine wpPlan_quiet fun K3 hK3 => ?_
        simp only [pickOps, List.map_cons, List.map_nil, Option.getD_some, List.getElem?_toArray, List.getElem?_cons_zero, List.getElem?_cons_succ]
        repeat go_big_quiet_step (fail)
        refine wpQuiet_nil (hK3 _ ?_)
        clear hK3 K3
        have fz := HB4.out.free 2
        have z2 := HB4.out.cell 2 _ rfl
        refine wpPlan_one fun K1 hK1 => ?_
        simp only [pickOps, List.map_cons, List.map_nil, Option.getD_some, List.getElem?_toArray, List.getElem?_cons_zero, List.getElem?_cons_succ]
        go_wp2_with fail
        refine ⟨OnlyS.set0 c 2 _ _, hK1 _ _ ?_⟩
        clear hK1 K1
        refine wpPlan_done ?_
        go_wp2_with fail
        go_ret2
        exact HFI.out
  · have HP1 := Lib.hid hp1
    have HD1 := Lib.hid hd1
    have HC1 := Lib.hid hC1
    have hE : E ≠ 0 := by
      have h1 := HPG.out.jn
      exact (HPG.out.bad (by omega) (by omega)).2
    have q1 : (E != 0) = true := by rw [bne_iff_ne]; exact hE
    have q2 : (E == 0) = false := beq_eq_false_iff_ne.2 hE
    clear hp1 hd1 hC1 hE
    go_wp2_with fail
    go_ret2
    exact ⟨O1, vi1, vr1, HP1.out, HD1.out, .inr ⟨hlt, rfl, is, rest, HC1.out⟩⟩
end Go.Proofs.YtaoegcakefodaaaGreat

