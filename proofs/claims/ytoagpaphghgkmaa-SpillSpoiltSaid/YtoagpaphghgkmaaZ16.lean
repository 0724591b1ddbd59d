/-
  Texts of this proof, merged: CellSaysB, SpiCutW, SpiFew, SpiLaid, SpiFill.
-/
import Derived.Test.YtoagpaphghgkmaaZ15
import Derived.Test.YtoagpaphghgkmaaZ13
import Derived.Test.YtoagpaphghgkmaaZ14
import Derived.Test.YtoagpaphghgkmaaZ8
import Derived.Test.YtoagpaphghgkmaaZ9
/-
  The program's contracts: Take, put together.
-/
namespace Go.Proofs.Ytoagpaphghgkmaa
open Go.RowKit Go.BigFrame

set_option maxRecDepth 100000 in
theorem take_nilO (b : Value) (w : World) (hr : Rd w b []) :
    Calls Try.prog 96 #[b] w (TookO w []) := by
  obtain ⟨a, cap, rfl, _, _⟩ := hr.shape
  go_enter Try.func96, Try.ntmps96
  go_wp2_with fail
  refine bodyPost_ret (v := .tuple #[.agg #[.int .u8 0, .int .i64 0, .string ⟨#[]⟩], .slice none 0 0, .int .i64 6]) (by simp [results, Try.results96, go_sem]) rfl ⟨.inr ⟨rfl, rfl⟩, ext_one _ _⟩

theorem rd_rest {bb off L cap k : Nat} {l m : List UInt8} {w : World} (hr : Rd w (.slice (some ⟨bb, off, none⟩) L cap) l) (hL : L = l.length) (hm : m = l.drop k) (hk : k ≤ l.length) :
    (cap = L - m.length → Rd w (.slice (some ⟨bb, off, none⟩) (L - (L - m.length)) 0) m) ∧ (¬ cap = L - m.length → Rd w (.slice (some ⟨bb, off + (L - m.length), none⟩) (L - (L - m.length)) (cap - (L - m.length))) m) ∧ m.length ≤ L := by
  have hml : m.length = l.length - k := by rw [hm, List.length_drop]
  have e1 : L - m.length = k := by omega
  have e2 : L - k = m.length := by omega
  rw [e1, e2]
  rcases hr with ⟨h0, _⟩ | ⟨x, cap', h1, h2, h3, h4⟩
  · cases h0
  · simp only [Value.slice.injEq, Option.some.injEq] at h1
    obtain ⟨rfl, _, rfl⟩ := h1
    rw [List.length_map] at h2
    refine ⟨fun hc => ?_, fun hc => ?_, by omega⟩
    · have hm0 : m = [] := List.length_eq_zero_iff.1 (by omega)
      subst hm0
      exact .inr ⟨_, 0, rfl, Nat.le_refl _, by unfold maxLen; omega, fun i u hu => by simp at hu⟩
    · refine .inr ⟨⟨bb, off + k, none⟩, cap - k, by rw [List.length_map], by rw [List.length_map]; omega, by omega, fun i u hu => ?_⟩
      rw [add_at]
      have := h4 (k + i) u (by rw [hm, List.map_drop, List.getElem?_drop] at hu; exact hu)
      rw [add_at] at this
      rw [Nat.add_assoc]
      exact this

theorem pright_is {v : V} {x : Bool} (h : rightV v = x) (hv : v.fits) (hl : v.s.length ≤ 5000) (W : World) : Calls Try.prog 59 #[v.val] W fun e w' => e = .returned (.bool x) ∧ Ext W w' := by
  subst h
  exact Right_any v hv hl W

theorem pright_1 {k n : Int} {s : List UInt8} {x : Bool} (h : rightV ⟨k, n, s⟩ = x) (hv : (⟨k, n, s⟩ : V).fits) (hl : s.length ≤ 5000) (W : World) : Calls Try.prog 59 #[.agg #[.int .u8 k, .int .i64 n, .string ⟨s.toArray⟩]] W fun e w' => e = .returned (.bool x) ∧ Ext W w' :=
  pright_is h hv hl W

theorem TakeO_any (b : Value) (l : List UInt8) (w : World) (hr : Rd w b l) (hl : l.length ≤ 1000000) :
    Calls Try.prog 96 #[b] w (TookO w l) := by
  cases l with
  | nil => exact take_nilO b w hr
  | cons c t =>
    have hr0 := hr
    rcases hr with ⟨rfl, h1⟩ | ⟨x, cap, rfl, h2, h3, h4⟩
    · cases h1
    have hc0 := h4 0 (bv c) (by simp)
    rw [add_zero] at hc0
    obtain ⟨bb, off, rfl, _⟩ := plain_of hc0
    have hLL : ((c :: t).map bv).length = t.length + 1 := by simp
    rw [hLL] at hr0 ⊢
    have htl : t.length < 1000000 := by simp at hl; omega
    obtain ⟨a1, cap1, hrt, hsl1⟩ := slice_from _ (c :: t) 1 w hr0 (by simp)
    have hsl : ∀ W, (Instr.slice 43 (.slice (some ⟨bb, off, none⟩) (t.length + 1) cap) (some (.int .i64 1)) none none).run Try.prog W = .ok (.slice a1 (t.length + 1 - 1) cap1) W := fun W => hsl1 1 W rfl
    replace hrt : Rd w (.slice a1 (t.length + 1 - 1) cap1) t := hrt
    have rest : ∀ m k, m = (c :: t).drop k → k ≤ t.length + 1 → _ := fun m k hm hk => rd_rest (m := m) (k := k) hr0 (by simp) hm (by simpa using hk)
    clear h2 h3 h4 hLL hsl1
    by_cases e0 : c = 0
    · subst e0
      obtain ⟨m1, m2, m3⟩ := rest t 1 rfl (by omega)
      exact take_0 bb off (t.length + 1) cap a1 cap1 t w hc0 hrt hsl rfl htl (pright_is (v := V.zero) (by decide) ⟨by decide, by decide, by decide, by decide⟩ (by decide)) m1 m2 m3 rfl
    obtain ⟨n, s, hfr⟩ : ∃ n s, front t = (n, s) := ⟨_, _, rfl⟩
    have hf1 : (front t).1 = n := by rw [hfr]
    have hf2 : (front t).2 = s := by rw [hfr]
    have hsl0 : s ≠ 0 → s ≤ t.length := fun _ => front_le hfr
    have hn64 : s ≠ 0 → n < 2 ^ 64 := fun hs => (front_sound t n s hfr hs).1
    by_cases e1 : c = 1
    · subst e1
      by_cases hf : s = 0
      · have hI : ∀ B b W, Rdr B W b t false → Calls Try.prog 109 #[.pointer (some ⟨b, 0, none⟩)] W fun e w' => e = .returned (.int .i64 0) ∧ Rdr B w' b [] true ∧ Only b W w' := fun B b W h => RInt_no B b t W h (by rw [hf2, hf])
        have hV := takeV_no1 t 1 (.inl rfl) (by rw [hf2, hf])
        exact take_1_bad bb off (t.length + 1) cap a1 cap1 t w 0 hc0 hrt hsl rfl htl hI hV
      · have hI : ∀ B b W, Rdr B W b t false → Calls Try.prog 109 #[.pointer (some ⟨b, 0, none⟩)] W fun e w' => e = .returned (.int .i64 (zag n)) ∧ Rdr B w' b (t.drop s) false ∧ Only b W w' := fun B b W h => RInt_yes B b t n s W h hfr hf
        have hfit := zag_fits 1 (by decide) (by decide) n (hn64 hf)
        have hs := hsl0 hf
        have hV1 := fun h => takeV_yes1 t 1 (.inl rfl) (by rw [hf2]; exact hf) h
        have hV2 := fun h => takeV_wrong1 t 1 (.inl rfl) (by rw [hf2]; exact hf) h
        rw [hf1, hf2] at hV1
        rw [hf1] at hV2
        obtain ⟨m1, m2, m3⟩ := rest (t.drop s) (s + 1) rfl (by omega)
        generalize zag n = N at hI hfit hV1 hV2
        generalize t.drop s = m at hI hV1 m1 m2 m3
        clear rest hf1 hf2 hfr
        cases hrv : rightV ⟨1, N, []⟩ with
        | true => exact take_1_right bb off (t.length + 1) cap a1 cap1 t w m N hc0 hrt hsl rfl htl hI (pright_1 (s := []) hrv hfit (Nat.zero_le 5000)) m1 m2 m3 (hV1 hrv)
        | false => exact take_1_wrong bb off (t.length + 1) cap a1 cap1 t w m N hc0 hrt hsl rfl htl hI (pright_1 (s := []) hrv hfit (Nat.zero_le 5000)) (hV2 hrv)
    by_cases e2 : c = 2
    · subst e2
      by_cases hf : s = 0
      · have hI : ∀ B b W, Rdr B W b t false → Calls Try.prog 109 #[.pointer (some ⟨b, 0, none⟩)] W fun e w' => e = .returned (.int .i64 0) ∧ Rdr B w' b [] true ∧ Only b W w' := fun B b W h => RInt_no B b t W h (by rw [hf2, hf])
        have hV := takeV_no1 t 2 (.inr rfl) (by rw [hf2, hf])
        exact take_2_bad bb off (t.length + 1) cap a1 cap1 t w 0 hc0 hrt hsl rfl htl hI hV
      · have hI : ∀ B b W, Rdr B W b t false → Calls Try.prog 109 #[.pointer (some ⟨b, 0, none⟩)] W fun e w' => e = .returned (.int .i64 (zag n)) ∧ Rdr B w' b (t.drop s) false ∧ Only b W w' := fun B b W h => RInt_yes B b t n s W h hfr hf
        have hfit := zag_fits 2 (by decide) (by decide) n (hn64 hf)
        have hs := hsl0 hf
        have hV1 := fun h => takeV_yes1 t 2 (.inr rfl) (by rw [hf2]; exact hf) h
        rw [hf1, hf2] at hV1
        obtain ⟨m1, m2, m3⟩ := rest (t.drop s) (s + 1) rfl (by omega)
        generalize zag n = N at hI hfit hV1
        generalize t.drop s = m at hI hV1 m1 m2 m3
        clear rest hf1 hf2 hfr
        have hrv : rightV ⟨2, N, []⟩ = true := by simp [rightV]
        exact take_2_right bb off (t.length + 1) cap a1 cap1 t w m N hc0 hrt hsl rfl htl hI (pright_1 (s := []) hrv hfit (Nat.zero_le 5000)) m1 m2 m3 (hV1 hrv)
    by_cases e3 : c = 3
    · subst e3
      by_cases hf : s = 0
      · have hI : ∀ B b W, Rdr B W b t false → Calls Try.prog 110 #[.pointer (some ⟨b, 0, none⟩)] W fun e w' => e = .returned (.string ⟨([] : List UInt8).toArray⟩) ∧ Rdr B w' b [] true ∧ Only b W w' := fun B b W h => RText_no B b t W h (by rw [hf2, hf])
        have hV := takeV_no3 t (by rw [hf2, hf])
        exact take_3_bad bb off (t.length + 1) cap a1 cap1 t w [] hc0 hrt hsl rfl htl hI hV
      · have hs := hsl0 hf
        by_cases hn : n ≤ 1024 ∧ n ≤ (t.drop s).length
        · have hI : ∀ B b W, Rdr B W b t false → Calls Try.prog 110 #[.pointer (some ⟨b, 0, none⟩)] W fun e w' => e = .returned (.string ⟨((t.drop s).take n).toArray⟩) ∧ Rdr B w' b ((t.drop s).drop n) false ∧ Only b W w' := fun B b W h => RText_yes B b t (t.drop s) n s W h hfr hf rfl hn.1 hn.2
          have hV1 := fun h => takeV_yes3 t (by rw [hf2]; exact hf) h
          rw [hf1, hf2] at hV1
          replace hV1 := hV1 hn
          have hln : ((t.drop s).take n).length ≤ 1024 := by rw [List.length_take]; omega
          obtain ⟨m1, m2, m3⟩ := rest ((t.drop s).drop n) (s + n + 1) (by rw [List.drop_drop]; rfl) (by have := hn.2; rw [List.length_drop] at this; omega)
          generalize (t.drop s).take n = S at hI hV1 hln
          generalize (t.drop s).drop n = m at hI hV1 m1 m2 m3
          clear rest hf1 hf2 hfr
          have hrv : rightV ⟨3, 0, S⟩ = true := by simp [rightV]; omega
          exact take_3_right bb off (t.length + 1) cap a1 cap1 t w m S hc0 hrt hsl rfl htl hI (pright_1 hrv (fits_no 3 _ (by decide) (by decide)) (Nat.le_trans hln (by decide))) m1 m2 m3 hV1
        · have hI : ∀ B b W, Rdr B W b t false → Calls Try.prog 110 #[.pointer (some ⟨b, 0, none⟩)] W fun e w' => e = .returned (.string ⟨([] : List UInt8).toArray⟩) ∧ Rdr B w' b [] true ∧ Only b W w' := fun B b W h => RText_long B b t (t.drop s) n s W h hfr hf rfl (by rcases Nat.lt_or_ge 1024 n with h1 | h1; exact .inl h1; rcases Nat.lt_or_ge (t.drop s).length n with h2 | h2; exact .inr h2; exact absurd ⟨h1, h2⟩ hn)
          have hV := takeV_long3 t (by rw [hf2]; exact hf) (by rw [hf1, hf2]; exact hn)
          exact take_3_bad bb off (t.length + 1) cap a1 cap1 t w [] hc0 hrt hsl rfl htl hI hV
    have n0 : c.toNat ≠ 0 := fun h => e0 (UInt8.toNat_inj.1 h)
    have n1 : c.toNat ≠ 1 := fun h => e1 (UInt8.toNat_inj.1 h)
    have n2 : c.toNat ≠ 2 := fun h => e2 (UInt8.toNat_inj.1 h)
    have n3 : c.toNat ≠ 3 := fun h => e3 (UInt8.toNat_inj.1 h)
    have hcu := c.toNat_lt
    have hrv : rightV ⟨(c.toNat : Int), 0, []⟩ = false := by simp [rightV]; omega
    refine take_o bb off (t.length + 1) cap a1 cap1 t w c (c.toNat : Int) hc0 hrt hsl rfl htl (beq_eq_false_iff_ne.2 (by omega)) (beq_eq_false_iff_ne.2 (by omega)) (beq_eq_false_iff_ne.2 (by omega)) (pright_1 (s := []) hrv (fits_no _ _ (by omega) (by omega)) (Nat.zero_le 5000)) ?_
    unfold takeV
    dsimp only
    rw [if_neg e0, if_neg (by rintro (h | h) <;> contradiction), if_neg e3]

theorem Take_any (b : Value) (l : List UInt8) (w : World) (hr : Rd w b l) (hl : l.length ≤ 1000000) :
    Calls Try.prog 96 #[b] w (Took w l) :=
  (TakeO_any b l w hr hl).mono fun _ _ h => h.took

end Go.Proofs.Ytoagpaphghgkmaa

/-
  The program's three questions of bytes that may be cut off.
-/
namespace Go.Proofs.Ytoagpaphghgkmaa
open Go.RowKit Go.BigFrame

theorem enters_num17 : ∀ args w, (callFunc 90 args).run Try.prog w = .ok (.enter 90 args) w := enters_of Try.func90 (by kernel_rfl) rfl
theorem enters_val17 : ∀ args w, (callFunc 95 args).run Try.prog w = .ok (.enter 95 args) w := enters_of Try.func95 (by kernel_rfl) rfl

set_option maxRecDepth 100000 in
set_option maxHeartbeats 1000000 in
theorem pNumCut17_any (v : Value) (b : List UInt8) (w : World) (hr : Rd w v b) :
    Calls Try.prog 90 #[v] w fun e w' => e = .returned (.bool (numCut b)) ∧ w = w' := by
  obtain ⟨ao, cap, rfl, h1, h2, hc⟩ := RdV.cellsAt hr
  rw [List.length_map] at h1 ⊢
  unfold maxLen at h2
  have HC := Lib.hid hc
  clear hc hr
  rcases b with _ | ⟨c, _ | ⟨d, t⟩⟩
  · clear HC
    go_enter Try.func90, Try.ntmps90
    go_wp2_with fail
    go_ret
    exact ⟨rfl, rfl⟩
  · obtain ⟨x, rfl, c0⟩ := HC.out 0 (bv c) rfl
    rw [add_zero] at c0
    unfold bv at c0
    have hn : numCut [c] = decide (247 < c.toNat) := rfl
    have hq : decide (((c.toNat : Nat) : Int) > 247) = decide (247 < c.toNat) := by rw [decide_eq_decide]; omega
    rw [hn, ← hq]
    generalize c.toNat = C at c0
    clear HC hn hq
    rw [List.length_singleton] at h1 ⊢
    go_enter Try.func90, Try.ntmps90
    go_wp2_with fail
    go_ret
    exact ⟨rfl, rfl⟩
  · obtain ⟨x, rfl, c0⟩ := HC.out 0 (bv c) rfl
    obtain ⟨x', e, c1⟩ := HC.out 1 (bv d) rfl
    simp only [Option.some.injEq] at e
    subst e
    rw [add_zero] at c0
    obtain ⟨g, off, rfl, -⟩ := plain_of c0
    rw [add_at] at c1
    unfold bv at c0 c1
    have hn : numCut (c :: d :: t) = (decide (t.length + 2 + 247 ≤ c.toNat) && !(d == 0)) := rfl
    have hd : (d == 0) = (((d.toNat : Nat) : Int) == 0) := by
      rw [Bool.eq_iff_iff, beq_iff_eq, beq_iff_eq]
      constructor
      · rintro rfl; rfl
      · intro h
        exact UInt8.toNat_inj.1 (by rw [show d.toNat = 0 by omega]; rfl)
    have hcc : c.toNat ≤ 255 := by have := c.toNat_lt; omega
    rw [hn, hd]
    have hl : (c :: d :: t).length = t.length + 2 := rfl
    rw [hl] at h1 ⊢
    generalize c.toNat = C at c0 hcc
    generalize d.toNat = D at c1
    generalize t.length = T at h1
    clear HC hn hd hl
    by_cases hq : T + 2 + 247 ≤ C
    · rw [decide_eq_true hq]
      have d1 : decide ((((T + 2 : Nat)) : Int) ≤ (C : Int) - 247) = true := decide_eq_true (by omega)
      go_enter Try.func90, Try.ntmps90
      go_wp2_with fail
      go_ret
      exact ⟨rfl, rfl⟩
    · rw [decide_eq_false hq]
      have d1 : decide ((((T + 2 : Nat)) : Int) ≤ (C : Int) - 247) = false := decide_eq_false (by omega)
      go_enter Try.func90, Try.ntmps90
      go_wp2_with fail
      go_ret
      exact ⟨rfl, rfl⟩

theorem pLeft17_any (P : Nat → Prop) (g : Nat) (l : List UInt8) (bad : Bool) (w : World) (hbl : bad = true → l = []) (h : RdO P w g l bad) :
    Calls Try.prog 94 #[.pointer (some ⟨g, 0, none⟩)] w fun e w' => e = .returned (.int .i64 l.length) ∧ w = w' := by
  cases bad with
  | true =>
    have hl := hbl rfl
    subst hl
    exact Left_badP P g [] w h
  | false => exact Left_anyP P g l w h
theorem Below.of_only {g N : Nat} {w w' : World} (h : Only g w w') (hN : N ≤ w.heap.size) (hg : N ≤ g) : Below N w w' := ⟨h.os, h.tape, h.output, h.size, fun k hk => h.block k (by omega) (fun e => by have : k = g := (by simpa using e); omega)⟩

set_option maxRecDepth 100000 in
set_option maxHeartbeats 1000000 in
theorem pTextCut17_any (v : Value) (b : List UInt8) (w : World) (hr : Rd w v b) (hl : b.length ≤ 1000000) :
    Calls Try.prog 108 #[v] w fun e w' => e = .returned (.bool (textCut b)) ∧ Ext w w' := by
  have HN := Lib.hid (pNumCut17_any v b w hr)
  have HR := Lib.hid hr
  obtain ⟨ao, cap, rfl, -, -⟩ := hr.shape
  cases hnc : numCut b with
  | true =>
    rw [hnc] at HN
    have HT := Lib.hid (show textCut b = decide (cmpB b (enc 1024) ≤ 0) by unfold textCut; rw [if_pos hnc])
    have HNUM := Lib.hid (Num_any (.slice none 0 0) [] 1024 w (.inl ⟨rfl, rfl⟩) (by simp) (by omega))
    rw [HT.out]
    generalize hcmp : cmpB b (enc 1024) = C
    have HCM := Lib.hid hcmp
    clear hr hnc HT hcmp
    go_enter Try.func108, Try.ntmps108
    go_wp2_with fail
    refine HN.out.mono ?_
    rintro e w1 ⟨rfl, rfl⟩
    go_wp2_with fail
    refine HNUM.out.mono ?_
    rintro e w2 ⟨v2, rfl, ho2, hx2⟩
    have HC := Lib.hid (pCompare17_any _ v2 b (enc 1024) w2 (HR.out.mono hx2) (by
      have := RdV.of_owns ho2
      rwa [List.nil_append] at this))
    rw [HCM.out] at HC
    have HX2 := Lib.hid (show Ext w w2 from hx2)
    clear ho2 hx2
    go_wp2_with fail
    refine HC.out.mono ?_
    rintro e w3 ⟨rfl, rfl⟩
    go_wp2_with fail
    go_ret
    exact ⟨rfl, HX2.out⟩
  | false =>
    rw [hnc] at HN
    have HT := Lib.hid (show textCut b = decide ((tk b).1 ≤ 1024 ∧ (tk b).2.1.length < (tk b).1) by unfold textCut; rw [if_neg (by rw [hnc]; decide)])
    have HNEW := Lib.hid (New_anyP _ b w hr (by omega))
    have HLT := Lib.hid (tk_lt b)
    have hlen := (tk_len b).1
    have HBAD := Lib.hid (fun h => show (tk b).2.1 = [] from by rw [tk_bad h])
    obtain ⟨R, hR⟩ : ∃ R, textCut b = R := ⟨_, rfl⟩
    rw [hR]
    have HRQ := Lib.hid (hR.symm.trans HT.out)
    clear hr hnc HT hR
    go_enter Try.func108, Try.ntmps108
    go_wp2_with fail
    refine HN.out.mono ?_
    rintro e w1 ⟨rfl, rfl⟩
    go_wp2_with fail
    refine HNEW.out.mono ?_
    rintro e w2 ⟨g, rfl, hg1, hg2, hrd, hx2⟩
    have HNUM := Lib.hid (RNum_tk _ g b false w2 (fun h => by cases h) hrd)
    have HX2 := Lib.hid hx2
    clear hrd hx2
    generalize tk b = q at HNUM HLT hlen HBAD HRQ
    obtain ⟨n, l, bad⟩ := q
    simp only at HNUM HLT hlen HBAD HRQ
    go_wp2_with fail
    refine HNUM.out.mono ?_
    rintro e w3 ⟨rfl, hrd3, ho3⟩
    have HLF := Lib.hid (pLeft17_any _ g l bad w3 HBAD.out hrd3)
    have HX3 := Lib.hid (show Ext w w3 from HX2.out.trans (Below.of_only ho3 HX2.out.size hg1))
    have hn64 := HLT.out
    clear hrd3 ho3
    generalize l.length = L at HLF hlen HRQ
    by_cases h1 : n ≤ 1024
    · have d1 : decide ((n : Int) ≤ 1024) = true := decide_eq_true (by omega)
      go_wp2_with fail
      refine HLF.out.mono ?_
      rintro e w4 ⟨rfl, rfl⟩
      go_wp2_with fail
      go_ret
      refine ⟨?_, HX3.out⟩
      rw [HRQ.out]
      have hq : decide (n ≤ 1024 ∧ L < n) = decide (L < n) := by rw [decide_eq_decide]; omega
      rw [hq]
      rfl
    · have d1 : decide ((n : Int) ≤ 1024) = false := decide_eq_false (by omega)
      go_wp2_with fail
      go_ret
      refine ⟨?_, HX3.out⟩
      rw [HRQ.out, decide_eq_false (by omega)]
      rfl

set_option maxRecDepth 100000 in
set_option maxHeartbeats 1000000 in
theorem pValCut17_any (v : Value) (b : List UInt8) (w : World) (hr : Rd w v b) (hl : b.length ≤ 1000000) :
    Calls Try.prog 95 #[v] w fun e w' => e = .returned (.bool (valCut b)) ∧ Ext w w' := by
  obtain ⟨ao, cap, rfl, h1, h2, hc⟩ := RdV.cellsAt hr
  rw [List.length_map] at h1 hr ⊢
  unfold maxLen at h2
  have HC := Lib.hid hc
  cases b with
  | nil =>
    clear HC hc hr
    go_enter Try.func95, Try.ntmps95
    go_wp2_with fail
    go_ret
    exact ⟨rfl, Ext.keeps.refl _⟩
  | cons c t =>
    obtain ⟨x, rfl, c0⟩ := HC.out 0 (bv c) rfl
    rw [add_zero] at c0
    unfold bv at c0
    obtain ⟨a1, cap1, hrt, hsl1⟩ := slice_from _ (c :: t) 1 w hr (by simp)
    have hlt : (c :: t).length = t.length + 1 := rfl
    have htl : t.length ≤ 1000000 := by rw [hlt] at hl; omega
    have hrt2 : Rd w (.slice a1 t.length cap1) t := hrt
    have hsl : ∀ W, (Instr.slice 43 (.slice (some x) (t.length + 1) cap) (some (.int .i64 1)) none none).run Try.prog W = .ok (.slice a1 t.length cap1) W := fun W => hsl1 1 W rfl
    have HNC := Lib.hid (pNumCut17_any _ t w hrt2)
    have HTC := Lib.hid (pTextCut17_any _ t w hrt2 htl)
    rw [hlt] at h1 ⊢
    clear HC hc hr hrt hrt2 hsl1 hl htl
    by_cases e1 : c = 1
    · subst e1
      have hv : valCut (1 :: t) = decide (t.length = 0) := rfl
      have hq : (((t.length + 1 : Nat) : Int) == 1) = decide (t.length = 0) := by rw [Bool.eq_iff_iff, beq_iff_eq, decide_eq_true_eq]; omega
      rw [hv, ← hq]
      clear hv hq HNC HTC hsl
      generalize t.length = T at h1
      go_enter Try.func95, Try.ntmps95
      go_wp2_with fail
      go_ret
      exact ⟨rfl, Ext.keeps.refl _⟩
    · by_cases e2 : c = 2
      · subst e2
        have hv : valCut (2 :: t) = numCut t := rfl
        rw [hv]
        clear hv HTC
        generalize numCut t = R at HNC ⊢
        go_enter Try.func95, Try.ntmps95
        go_wp2_with fail
        refine HNC.out.mono ?_
        rintro e w2 ⟨rfl, rfl⟩
        go_wp2_with fail
        go_ret
        exact ⟨rfl, Ext.keeps.refl _⟩
      · by_cases e3 : c = 3
        · subst e3
          have hv : valCut (3 :: t) = textCut t := rfl
          rw [hv]
          clear hv HNC
          generalize textCut t = R at HTC ⊢
          go_enter Try.func95, Try.ntmps95
          go_wp2_with fail
          refine HTC.out.mono ?_
          rintro e w2 ⟨rfl, hx⟩
          have HX := Lib.hid hx
          clear hx
          go_wp2_with fail
          go_ret
          exact ⟨rfl, HX.out⟩
        · have hv : valCut (c :: t) = false := by
            show (if c = 1 then _ else if c = 2 then _ else if c = 3 then _ else false) = false
            rw [if_neg e1, if_neg e2, if_neg e3]
          have q1 : (((c.toNat : Nat) : Int) == 1) = false := beq_eq_false_iff_ne.2 fun h => e1 (UInt8.toNat_inj.1 (by rw [show c.toNat = 1 by omega]; rfl))
          have q2 : (((c.toNat : Nat) : Int) == 2) = false := beq_eq_false_iff_ne.2 fun h => e2 (UInt8.toNat_inj.1 (by rw [show c.toNat = 2 by omega]; rfl))
          have q3 : (((c.toNat : Nat) : Int) == 3) = false := beq_eq_false_iff_ne.2 fun h => e3 (UInt8.toNat_inj.1 (by rw [show c.toNat = 3 by omega]; rfl))
          rw [hv]
          clear hv HNC HTC hsl e1 e2 e3
          generalize c.toNat = C at c0 q1 q2 q3
          go_enter Try.func95, Try.ntmps95
          go_wp2_with fail
          go_ret
          exact ⟨rfl, Ext.keeps.refl _⟩

end Go.Proofs.Ytoagpaphghgkmaa

/-
  The law's own helper of layer 17: so many rows, of so many texts.
-/
namespace Go.Proofs.Ytoagpaphghgkmaa
open Go.RowKit Go.BigFrame

theorem RdRows.take17 {w : World} {ao : Option Addr} {N cap : Nat} {l : List (List V)} (h : RdRows w (.slice ao N cap) l) (K : Nat) (hK : K ≤ N) : RdRows w (.slice ao K cap) (l.take K) := by
  obtain ⟨a', cap', h1, h2, h3, h4⟩ := h
  simp only [Value.slice.injEq] at h1
  obtain ⟨rfl, rfl, rfl⟩ := h1
  have hl : (l.take K).length = K := by rw [List.length_take]; omega
  refine ⟨ao, cap, by rw [hl], by rw [hl]; omega, h3, fun j hj => ?_⟩
  rw [hl] at hj
  have hjl : j < l.length := by omega
  obtain ⟨x, v, h5, h6, h7⟩ := h4 j hjl
  exact ⟨x, v, h5, by rw [List.getElem_take]; exact h6, h7⟩

/-- The bytes of all texts of a row, of rows. -/
def textsR (r : List V) : Nat := (r.map fun v => v.s.length).sum
def textsL (rows : List (List V)) : Nat := (rows.map textsR).sum
theorem textsR_snoc (r : List V) (v : V) : textsR (r ++ [v]) = textsR r + v.s.length := by unfold textsR; simp
theorem textsL_snoc (l : List (List V)) (r : List V) : textsL (l ++ [r]) = textsL l + textsR r := by unfold textsL; simp

/-- Rows that the law takes. -/
def Few17 (rows : List (List V)) : Prop := rows.length ≤ 60 ∧ (∀ r ∈ rows, r.length ≤ 40 ∧ ∀ v ∈ r, v.fits ∧ v.s.length ≤ 1100) ∧ textsL rows ≤ 10000
theorem Few17.fit {rows : List (List V)} (h : Few17 rows) : FitB rows := ⟨by have := h.1; omega, fun r hr => ⟨by have := (h.2.1 r hr).1; omega, fun v hv => ⟨((h.2.1 r hr).2 v hv).1, by have := ((h.2.1 r hr).2 v hv).2; omega⟩⟩⟩

set_option maxRecDepth 100000 in
set_option maxHeartbeats 2000000 in
theorem few17_any (u : Value) (ls : List (List V)) (w0 w : World) (hu0 : RdRows w0 u ls) (hw : Ext w0 w) (hf : ∀ r ∈ ls, ∀ v ∈ r, v.fits ∧ v.s.length ≤ maxLen) :
    Calls Try.prog 14 #[u] w fun e w' => (∃ v M, e = .returned v ∧ RdRows w0 v (ls.take M) ∧ Few17 (ls.take M)) ∧ Ext w w' := by
  have hu := hu0.mono hw
  obtain ⟨ao, cap, rfl, -, -⟩ := hu.shape
  obtain ⟨fh, hfh, -, h1, h2, hat⟩ := hu.heads
  have HAT := Lib.hid hat
  have HFH := Lib.hid hfh
  have HU := Lib.hid hu0
  have HF := Lib.hid hf
  obtain ⟨N, hN⟩ : ∃ N, ls.length = N := ⟨_, rfl⟩
  have HN := Lib.hid hN
  unfold maxLen at h2
  rw [hN] at h1 HU ⊢
  have HTK := Lib.hid (fun K (hK : K ≤ N) => HU.out.take17 K hK)
  clear hN hu hu0 hw hf hat hfh
  go_enter Try.func14, Try.ntmps14
  go_wp2_with fail
  go_loopw [3, 4, 5, 7, 10] (fun lf _ _ _ i wr => ∃ j L : Nat, j ≤ N ∧ i = .int .i64 j ∧ lf = .int .i64 L ∧ L ≤ 10000 ∧ Hid (j ≤ 60 ∧ (∀ r ∈ ls.take j, r.length ≤ 40 ∧ ∀ v ∈ r, v.fits ∧ v.s.length ≤ 1100) ∧ textsL (ls.take j) + L = 10000) ∧ Ext w wr) (fun _ _ _ _ i _ => N - (intOf i).toNat)
  case atStart => exact ⟨0, 10000, Nat.zero_le _, rfl, rfl, Nat.le_refl _, Lib.hid ⟨by omega, fun r hr => by simp at hr, rfl⟩, Ext.keeps.refl _⟩
  case round =>
    obtain ⟨j, L, hj, rfl, rfl, hL, HFW, hx⟩ := hrel
    have HX := Lib.hid hx
    have HFEW := Lib.hid (show Few17 (ls.take j) from ⟨Nat.le_trans (List.length_take_le _ _) HFW.out.1, HFW.out.2.1, by have := HFW.out.2.2; omega⟩)
    clear hx
    by_cases hlt : j < N
    · have hjl : j < ls.length := by have := HN.out; omega
      obtain ⟨a1, a2, a3, ha, hra⟩ := HFH.out.get j hjl
      obtain ⟨g, off, rfl, c0⟩ := HAT.out j _ ha
      have x0 := (HX.out.cell (lt_of_cell c0)).trans c0
      have HFJ := Lib.hid (HF.out ls[j] (List.getElem_mem hjl))
      have HTS := Lib.hid (List.take_succ_eq_append_getElem hjl)
      have HRV := Lib.hid hra
      generalize ls[j] = r at x0 HFJ HTS HRV
      obtain ⟨M, hM⟩ : ∃ M, r.length = M := ⟨_, rfl⟩
      have HM := Lib.hid hM
      clear ha hra c0 hM
      obtain ⟨ra, rc, re, -, -⟩ := HRV.out.shape
      simp only [Value.slice.injEq] at re
      obtain ⟨rfl, rfl, rfl⟩ := re
      obtain ⟨-, r1, r2, hrc⟩ := HRV.out.plain
      have HRC := Lib.hid hrc
      rw [HM.out] at x0 r1
      unfold maxLen at r2
      clear hrc
      by_cases h60 : 60 ≤ j
      · have d1 : decide ((j : Int) ≥ 60) = true := decide_eq_true (by omega)
        have d1' : decide (60 ≤ j) = true := decide_eq_true h60
        go_wp2_with fail
        go_ret
        exact ⟨⟨_, j, rfl, HTK.out j hj, HFEW.out⟩, HX.out⟩
      · have d1 : decide ((j : Int) ≥ 60) = false := decide_eq_false (by omega)
        have d1' : decide (60 ≤ j) = false := decide_eq_false h60
        by_cases h40 : 40 < M
        · have d2 : decide (40 < M) = true := decide_eq_true h40
          have d2' : decide ((40 : Int) < (M : Int)) = true := decide_eq_true (by omega)
          go_wp2_with fail
          go_ret
          exact ⟨⟨_, j, rfl, HTK.out j hj, HFEW.out⟩, HX.out⟩
        · have d2 : decide (40 < M) = false := decide_eq_false h40
          have d2' : decide ((40 : Int) < (M : Int)) = false := decide_eq_false (by omega)
          go_wp2_with fail
          generalize wr = wo at HX ⊢
          go_loopw [3, 7, 27] (fun lf _ i wr => ∃ c K : Nat, c ≤ M ∧ i = .int .i64 c ∧ lf = .int .i64 K ∧ K ≤ 10000 ∧ Hid ((∀ q, (hq : q < r.length) → q < c → r[q].s.length ≤ 1100) ∧ textsL (ls.take j) + textsR (r.take c) + K = 10000) ∧ Ext w wr) (fun _ _ i _ => M - (intOf i).toNat)
          case atStart => exact ⟨0, L, Nat.zero_le _, rfl, rfl, hL, Lib.hid ⟨fun q _ h => absurd h (Nat.not_lt_zero _), by have := HFW.out.2.2; simpa [textsR] using this⟩, HX.out⟩
          case round =>
            obtain ⟨c, K, hc, rfl, rfl, hK, HQ, hx⟩ := hrel
            have HX2 := Lib.hid hx
            clear hx
            by_cases hlt2 : c < M
            · have hcl : c < r.length := by have := HM.out; omega
              obtain ⟨g2, off2, rfl, k0, k1, k2⟩ := HRC.out c hcl
              have x1 := (HX2.out.cell (lt_of_cell k0)).trans k0
              have x2 := (HX2.out.cell (lt_of_cell k1)).trans k1
              have x3 := (HX2.out.cell (lt_of_cell k2)).trans k2
              have HTR := Lib.hid (List.take_succ_eq_append_getElem hcl)
              have HNQ := Lib.hid (show r[c].s.length ≤ 1100 → ∀ q, (hq : q < r.length) → q < c + 1 → r[q].s.length ≤ 1100 from fun h q hq hqc => by
                by_cases e : q = c
                · subst e; exact h
                · exact HQ.out.1 q hq (by omega))
              have HFQ := Lib.hid (HFJ.out r[c] (List.getElem_mem hcl)).2
              generalize r[c] = v at x1 x2 x3 HNQ HFQ HTR
              obtain ⟨vk, vn, vs⟩ := v
              simp only at x1 x2 x3 HNQ HFQ
              clear k0 k1 k2
              have HXA := Lib.hid (Ext.trans HX2.out (ext_new wr (.cells #[.int .u8 vk, .int .i64 vn, .string ⟨vs.toArray⟩] 59)))
              have hvm := HFQ.out
              unfold maxLen at hvm
              by_cases hlong : 1100 < vs.length
              · have d3 : decide (1100 < vs.length) = true := decide_eq_true hlong
                have d3' : decide ((1100 : Int) < (vs.length : Int)) = true := decide_eq_true (by omega)
                go_wp2_with fail
                go_ret
                exact ⟨⟨_, j, rfl, HTK.out j hj, HFEW.out⟩, HXA.out⟩
              · have d3 : decide (1100 < vs.length) = false := decide_eq_false hlong
                have d3' : decide ((1100 : Int) < (vs.length : Int)) = false := decide_eq_false (by omega)
                by_cases hleft : K < vs.length
                · have d4 : decide (K < vs.length) = true := decide_eq_true hleft
                  have d4' : decide ((K : Int) < (vs.length : Int)) = true := decide_eq_true (by omega)
                  go_wp2_with fail
                  go_ret
                  exact ⟨⟨_, j, rfl, HTK.out j hj, HFEW.out⟩, HXA.out⟩
                · have d4 : decide (K < vs.length) = false := decide_eq_false hleft
                  have d4' : decide ((K : Int) < (vs.length : Int)) = false := decide_eq_false (by omega)
                  have HNQ2 := Lib.hid (HNQ.out (by simpa using Nat.le_of_not_lt hlong))
                  have HSUM := Lib.hid (show textsL (ls.take j) + textsR (r.take (c + 1)) + (K - vs.length) = 10000 from by
                    have := HQ.out.2
                    rw [HTR.out, textsR_snoc]
                    simp only
                    omega)
                  go_wp2_with fail
                  go_roundw
                  case rel => exact ⟨c + 1, K - vs.length, by omega, by go_num, by go_num, by omega, Lib.hid ⟨HNQ2.out, HSUM.out⟩, HXA.out⟩
                  case measure => simp [intOf]; omega
            · have HFW2 := Lib.hid (show j + 1 ≤ 60 ∧ (∀ r ∈ ls.take (j + 1), r.length ≤ 40 ∧ ∀ v ∈ r, v.fits ∧ v.s.length ≤ 1100) ∧ textsL (ls.take (j + 1)) + K = 10000 from by
                refine ⟨by omega, fun q hq => ?_, ?_⟩
                · rw [HTS.out] at hq
                  rcases List.mem_append.1 hq with hq | hq
                  · exact HFW.out.2.1 q hq
                  · rw [List.mem_singleton] at hq
                    subst hq
                    refine ⟨by have := HM.out; omega, fun v hv => ⟨(HFJ.out v hv).1, ?_⟩⟩
                    obtain ⟨i, hi, rfl⟩ := List.mem_iff_getElem.1 hv
                    exact HQ.out.1 i hi (by have := HM.out; omega)
                · have := HQ.out.2
                  rw [show r.take c = r from List.take_of_length_le (by have := HM.out; omega)] at this
                  rw [HTS.out, textsL_snoc]
                  exact this)
              go_wp2_with fail
              go_roundw
              case rel => exact ⟨j + 1, K, by omega, by go_num, rfl, hK, HFW2, HX2.out⟩
              case measure => simp [intOf]; omega
    · have hjN : j = N := by omega
      subst hjN
      have HALL := Lib.hid (show ls.take j = ls from List.take_of_length_le (by have := HN.out; omega))
      go_wp2_with fail
      go_ret
      exact ⟨⟨_, j, rfl, by rw [HALL.out]; exact HU.out, HFEW.out⟩, HX.out⟩

end Go.Proofs.Ytoagpaphghgkmaa

/-
  The law's own helper of layer 17: those rows that may be laid.
-/
namespace Go.Proofs.Ytoagpaphghgkmaa
open Go.RowKit Go.BigFrame

/-- Those that may be laid. -/
def laidL (rows : List (List V)) : List (List V) := rows.filter fun r => decide (mayR r = 0)
theorem laidL_may (rows : List (List V)) : ∀ r ∈ laidL rows, mayR r = 0 := fun r hr => by
  unfold laidL at hr
  have := (List.mem_filter.1 hr).2
  simpa using this
theorem textsL_filter (p : List V → Bool) : ∀ l : List (List V), textsL (l.filter p) ≤ textsL l
  | [] => Nat.le_refl _
  | r :: t => by
    have ih := textsL_filter p t
    rw [List.filter_cons]
    split
    · unfold textsL at ih ⊢
      simp only [List.map_cons, List.sum_cons]
      omega
    · unfold textsL at ih ⊢
      simp only [List.map_cons, List.sum_cons]
      omega
theorem Few17.laid {rows : List (List V)} (h : Few17 rows) : Few17 (laidL rows) :=
  ⟨Nat.le_trans (List.length_filter_le _ _) h.1, fun r hr => h.2.1 r (List.mem_filter.1 hr).1, Nat.le_trans (textsL_filter _ _) h.2.2⟩
theorem laidL_take (rows : List (List V)) (j : Nat) (hj : j < rows.length) : laidL (rows.take (j + 1)) = laidL (rows.take j) ++ (if mayR rows[j] = 0 then [rows[j]] else []) := by
  unfold laidL
  rw [List.take_succ_eq_append_getElem hj, List.filter_append]
  congr 1
  by_cases h : mayR rows[j] = 0
  · rw [if_pos h]; simp [h]
  · rw [if_neg h]; simp [h]

set_option maxRecDepth 100000 in
set_option maxHeartbeats 2000000 in
theorem laid17_any (u : Value) (ls : List (List V)) (w0 w : World) (hu0 : RdRows w0 u ls) (hw : Ext w0 w) (hf : Few17 ls) :
    Calls Try.prog 24 #[u] w fun e w' => (∃ v hs, e = .returned v ∧ w'.ownsRow w.heap.size 54 1 v hs.length hs ∧ HdRows w0 hs (laidL ls)) ∧ Ext w w' := by
  have hu := hu0.mono hw
  obtain ⟨i1, hi1, hy0, hy1, hy2⟩ := info_parts Try.info_row
  obtain ⟨ao, cap, rfl, -, -⟩ := hu.shape
  obtain ⟨fh, hfh, -, h1, h2, hat⟩ := hu0.heads
  have HW := Lib.hid hw
  have HAT := Lib.hid hat
  have HFH := Lib.hid hfh
  have HF := Lib.hid hf
  obtain ⟨N, hN⟩ : ∃ N, ls.length = N := ⟨_, rfl⟩
  have HN := Lib.hid hN
  unfold maxLen at h2
  rw [hN] at h1 ⊢
  clear hN hu hu0 hw hf hat hfh
  go_enter Try.func24, Try.ntmps24
  go_wp2_with fail
  go_loopw [3, 5, 8] (fun o _ i wr => ∃ (j : Nat) (oh : List Value), j ≤ N ∧ i = .int .i64 j ∧ wr.ownsRow w.heap.size 54 1 o oh.length oh ∧ HdRows w0 oh (laidL (ls.take j)) ∧ Ext w wr) (fun _ _ i _ => N - (intOf i).toNat)
  case atStart => exact ⟨0, [], Nat.zero_le _, rfl, owns_nil _ _ _ _, HdRows.nil _, Ext.keeps.refl _⟩
  case round =>
    obtain ⟨j, oh, hj, rfl, ho, hh, hx⟩ := hrel
    have HO := Lib.hid ho
    have HH := Lib.hid hh
    have HX := Lib.hid hx
    clear ho hh hx
    by_cases hlt : j < N
    · have hjl : j < ls.length := by have := HN.out; omega
      obtain ⟨a1, a2, a3, ha, hra⟩ := HFH.out.get j hjl
      obtain ⟨g, off, rfl, c0⟩ := HAT.out j _ ha
      have HXW := Lib.hid (Ext.trans HW.out HX.out)
      have x0 := (HXW.out.cell (lt_of_cell c0)).trans c0
      have HLT := Lib.hid (laidL_take ls j hjl)
      have HMAY := Lib.hid (refMay17_any _ ls[j] wr (hra.mono HXW.out) (fun v hv => by
        have := (HF.out.2.1 _ (List.getElem_mem hjl)).2 v hv
        exact ⟨this.1, Nat.le_trans this.2 (by decide)⟩))
      have HRA := Lib.hid hra
      have HOL := Lib.hid (show oh.length ≤ 10000000 from by
        have h3 := HH.out.1
        have h4 : (laidL (ls.take j)).length ≤ (ls.take j).length := List.length_filter_le _ _
        have h5 := List.length_take_le j ls
        have h6 := HF.out.1
        have := HN.out
        omega)
      generalize ls[j] = r at HLT HMAY HRA
      obtain ⟨m, hm⟩ : ∃ m, mayR r = m := ⟨_, rfl⟩
      have HM := Lib.hid hm
      rw [hm] at HMAY HLT
      clear ha hra c0 hm
      go_wp2_with fail
      refine HMAY.out.mono ?_
      rintro e w1 ⟨rfl, x1⟩
      have HX1 := Lib.hid (Ext.trans HX.out x1)
      have HO1 := Lib.hid (owns_extS HO.out x1)
      have HSZ := Lib.hid HX1.out.size
      clear x1
      by_cases h0 : m = 0
      · subst h0
        go_wp2_with (at_builtin; go_must (refine wpList_append_one rfl (.tmp 15) (.tmp 17) 22 rfl w.heap.size 54 i1 (.slice none 0 0) 1 24 Try.underlying22 hi1 hy0 hy1 hy2 rfl (by decide) (by decide) _ _ _ [.slice a1 a2 a3] rfl HO1.out rfl rfl (by simp [Value.oneCell']) HOL.out HSZ.out ?_); intro v5 w5 h5a h5b h5c h5d; have HO5 := Lib.hid h5a; have HB5 := Lib.hid h5b; clear h5a h5b h5c h5d)
        go_roundw
        case rel =>
          refine ⟨j + 1, oh ++ [.slice a1 a2 a3], by omega, by go_num, ?_, ?_, Below.trans (show Below w.heap.size w w1 from HX1.out) HB5.out⟩
          · rw [List.length_append]
            exact HO5.out
          · rw [HLT.out, if_pos trivial]
            exact HH.out.append (HdRows.one HRA.out)
        case measure => simp [intOf]; omega
      · have d1 : (m == 0) = false := by simpa using h0
        have HLT2 := Lib.hid (HLT.out.trans (by rw [if_neg h0, List.append_nil]))
        go_wp2_with fail
        go_roundw
        case rel => exact ⟨j + 1, oh, by omega, by go_num, HO1.out, by rw [HLT2.out]; exact HH.out, HX1.out⟩
        case measure => simp [intOf]; omega
    · have hjN : j = N := by omega
      subst hjN
      have HALL := Lib.hid (show ls.take j = ls from List.take_of_length_le (by have := HN.out; omega))
      go_wp2_with fail
      go_ret
      exact ⟨⟨_, oh, rfl, HO.out, by have := HH.out; rwa [HALL.out] at this⟩, HX.out⟩

end Go.Proofs.Ytoagpaphghgkmaa

/-
  A cursor of the program of layer 17: where it lies; pages are read as long as what was read is cut off.
-/
namespace Go.Proofs.Ytoagpaphghgkmaa
open Go.RowKit Go.BigFrame

/-- A cursor: the pages that are not read, the bytes that were read and not taken, how many rows are left. -/
structure CuM (w : World) (c p : Nat) (is : List Nat) (rest : List UInt8) (left : Nat) (vi vr : Value) : Prop where
  blk : Blk w c [.pointer (some ⟨p, 0, none⟩), vi, vr, .int .i64 left, .int .i64 0] 102
  ids : OwnT 0 3 w vi (ivs is)
  ine : ∀ k, vi.ownBlock = some k → k ≠ c ∧ k < w.heap.size ∧ vr.ownBlock ≠ some k
  rest : OwnT (c + 1) 5 w vr (rest.map bv)
  rin : ∀ k, vr.ownBlock = some k → c < k ∧ k < w.heap.size
  few : ∀ i ∈ is, i ≤ 4096
def ownC (c : Nat) (vi vr : Value) (b : Nat) : Prop := b = c ∨ vi.ownBlock = some b ∨ vr.ownBlock = some b
theorem CuM.lt {w : World} {c p left : Nat} {is : List Nat} {rest : List UInt8} {vi vr : Value} (h : CuM w c p is rest left vi vr) {b : Nat} (hb : ownC c vi vr b) : b < w.heap.size := by
  rcases hb with rfl | hb | hb
  · exact h.blk.lt
  · exact (h.ine b hb).2.1
  · exact (h.rin b hb).2
theorem CuM.keep {X : Nat → Prop} {w w' : World} {c p left : Nat} {is : List Nat} {rest : List UInt8} {vi vr : Value} (h : CuM w c p is rest left vi vr) (ho : OnlyS X w w') (hx : ∀ b, X b → ¬ ownC c vi vr b) : CuM w' c p is rest left vi vr :=
  ⟨h.blk.onlyS ho (fun hX => hx c hX (.inl rfl)), h.ids.beside ho (fun k hX => .inr fun e => hx k hX (.inr (.inl e))), fun k hk => ⟨(h.ine k hk).1, Nat.lt_of_lt_of_le (h.ine k hk).2.1 ho.size, (h.ine k hk).2.2⟩,
   h.rest.beside ho (fun k hX => .inr fun e => hx k hX (.inr (.inr e))), fun k hk => ⟨(h.rin k hk).1, Nat.lt_of_lt_of_le (h.rin k hk).2 ho.size⟩, h.few⟩

/-- Pages of a file that are read as they were laid; the next one tells E, if it is needed for what lies ahead of M. -/
structure PgT (s : St) (ids : List Nat) (B : List UInt8) (J M : Nat) (E : Int) : Prop where
  len : B.length ≤ 56 * ids.length
  jn : J ≤ ids.length
  few : ids.length ≤ 100000000
  good : ∀ j, (h : j < ids.length) → j < J → readS s (ids[j] : Int) = (fill ((B.drop (56 * j)).take 56), 0)
  bad : 56 * J < M → (h : J < ids.length) → readS s (ids[J] : Int) = ([], E) ∧ E ≠ 0

/-- What a call leaves of the cursor that needs bytes up to some place: they are read, or a page told an error. -/
def Filled (O X : Nat → Prop) (w : World) (c p : Nat) (s : St) (ids : List Nat) (B : List UInt8) (pos endp J left : Nat) (E : Int) (e : Ending) (w' : World) : Prop :=
  ∃ O' vi vr, PSto O' w' p s ∧ Duo O X w O' (ownC c vi vr) w' ∧
    ((endp ≤ 56 * J ∧ e = .returned (.int .i64 0) ∧ CuM w' c p (ids.drop ((endp + 55) / 56)) (((padB B ids.length).take (56 * ((endp + 55) / 56))).drop pos) left vi vr) ∨
     (56 * J < endp ∧ e = .returned (.int .i64 E) ∧ ∃ is rest, CuM w' c p is rest left vi vr))

set_option maxRecDepth 100000 in
set_option maxHeartbeats 4000000 in
theorem pFill17_any (G : Nat) (cut : List UInt8 → Bool) (he : ∀ args w, (callFunc G args).run Try.prog w = .ok (.enter G args) w)
    (hG : ∀ (v : Value) (b : List UInt8) (W : World), Rd W v b → b.length ≤ 1000000 → Calls Try.prog G #[v] W fun e w' => e = .returned (.bool (cut b)) ∧ Ext W w')
    (O : Nat → Prop) (c p pos endp J left M : Nat) (E : Int) (s : St) (ids : List Nat) (B : List UInt8) (vi vr : Value) (w : World) (h : PSto O w p s) (hok : okS s) (hp : PgT s ids B J M E)
    (hC : CuM w c p (ids.drop ((pos + 55) / 56)) (((padB B ids.length).take (56 * ((pos + 55) / 56))).drop pos) left vi vr) (hox : ∀ b, O b → ¬ ownC c vi vr b)
    (hfew : ∀ i ∈ ids, i ≤ 4096) (hpos : pos ≤ 56 * J) (hpe : pos < endp) (hen : endp ≤ 56 * ids.length) (hshort : endp ≤ pos + 900000) (hM : endp ≤ M)
    (hcut : ∀ m, pos ≤ 56 * m → m ≤ ids.length → cut (((padB B ids.length).take (56 * m)).drop pos) = decide (56 * m < endp)) :
    Calls Try.prog 89 #[.pointer (some ⟨c, 0, none⟩), .func (.func G) #[] #[]] w (Filled O (ownC c vi vr) w c p s ids B pos endp J left E) := by
  obtain ⟨i5, hi5, hz0, hz1, hz2⟩ := info_parts Try.info5
  obtain ⟨i1, hi1, hy0, hy1, hy2⟩ := info_parts Try.info_int8
  have HG := Lib.hid hG
  have HOK := Lib.hid hok
  have HPG := Lib.hid hp
  have HCUT := Lib.hid hcut
  have HP := Lib.hid h
  have HCM := Lib.hid hC
  have HD0 := Lib.hid (Duo.refl w hox)
  have HEN := he
  have HPG2 := Lib.hid hfew
  clear hG hok hp hcut h hC hox
  go_enter Try.func89, Try.ntmps89
  go_wp2_with fail
  go_loopw [5] (fun _ wr => ∃ (m : Nat) (O' : Nat → Prop) (vi' vr' : Value), pos ≤ 56 * m ∧ m ≤ (endp + 55) / 56 ∧ m ≤ J ∧ PSto O' wr p s ∧ CuM wr c p (ids.drop m) (((padB B ids.length).take (56 * m)).drop pos) left vi' vr' ∧ Duo O (ownC c vi vr) w O' (ownC c vi' vr') wr) (fun _ wr => cellLen wr c 1)
  case atStart => exact ⟨(pos + 55) / 56, O, vi, vr, by omega, by omega, by omega, HP.out, HCM.out, HD0.out⟩
  case round =>
    obtain ⟨m, O', vi', vr', hm1, hm2, hm3, hp2, hC2, hd2⟩ := hrel
    obtain ⟨ra, rc, rfl, hr1, hr2⟩ := hC2.rest.shape
    obtain ⟨ia, ic, rfl, hi1', hi2'⟩ := hC2.ids.shape
    have hlenr : ((((padB B ids.length).take (56 * m)).drop pos).map bv).length = 56 * m - pos := by
      rw [List.length_map, padB_rest_len pos HPG.out.len (by have := HPG.out.jn; omega)]
    have hleni : (ivs (ids.drop m)).length = ids.length - m := by unfold ivs; rw [List.length_map, List.length_drop]
    rw [hlenr] at hr1 hC2 hd2
    rw [hleni] at hi1' hC2 hd2
    unfold maxLen at hr2 hi2'
    have HP2 := Lib.hid hp2
    have HC2 := Lib.hid hC2
    have HD2 := Lib.hid hd2
    have HLM := Lib.hid (cellLen_of (hC2.blk.cell 1 _ rfl))
    have c1 := hC2.blk.cell 1 _ rfl
    have c2 := hC2.blk.cell 2 _ rfl
    have hjn := HPG.out.jn
    have HCC := Lib.hid (HG.out _ _ wr hC2.rest.rd (by rw [padB_rest_len pos HPG.out.len (by omega)]; omega))
    rw [HCUT.out m hm1 (by omega)] at HCC
    clear hp2 hC2 hd2 hlenr hleni
    have HEND := Lib.hid (fun (h56 : endp ≤ 56 * m) => (show (endp + 55) / 56 = m by omega))
    by_cases hidn : ids.length - m = 0
    · have d1 : decide (((ids.length - m : Nat) : Int) > 0) = false := decide_eq_false (by omega)
      have d1' : decide (0 < ids.length - m) = false := decide_eq_false (by omega)
      go_wp2_with fail
      go_ret
      refine ⟨O', _, _, HP2.out, HD2.out, .inl ⟨by omega, rfl, ?_⟩⟩
      rw [HEND.out (by omega)]
      exact HC2.out
    · have d1 : decide (((ids.length - m : Nat) : Int) > 0) = true := decide_eq_true (by omega)
      have d1' : decide (0 < ids.length - m) = true := decide_eq_true (by omega)
      by_cases h56 : 56 * m < endp
      · rw [decide_eq_true h56] at HCC
        have hmn : m < ids.length := by omega
        have hid0 : (ivs (ids.drop m))[0]? = some (iv ids[m]) := by
          unfold ivs
          rw [List.getElem?_map, List.getElem?_drop, Nat.add_zero, List.getElem?_eq_getElem hmn]
          rfl
        obtain ⟨-, -, -, hcell⟩ := RdV.plainV HC2.out.ids.rd
        obtain ⟨gi, oi, rfl, ci⟩ := hcell 0 _ hid0
        unfold iv at ci
        rw [Nat.add_zero] at ci
        have hgi := HC2.out.ine gi rfl
        have hid4 : ids[m] ≤ 4096 := HC2.out.few _ (by rw [List.mem_iff_getElem]; exact ⟨0, by rw [List.length_drop]; omega, by simp⟩)
        have HRDT := Lib.hid (fun (W : World) (hW : PSto O' W p s) => pRead_any (w := W) (ids[m] : Int) hW HOK.out (by omega))
        have HGOOD := Lib.hid (fun (hj : m < J) => HPG.out.good m hmn hj)
        have HBAD := Lib.hid (fun (hj : m = J) => (show readS s (ids[m] : Int) = ([], E) ∧ E ≠ 0 by subst hj; exact HPG.out.bad (by omega) hmn))
        generalize ids[m] = id at ci hid4 HRDT HGOOD HBAD
        have HCI := Lib.hid ci
        have HGI := Lib.hid hgi
        clear hid0 hcell ci hgi
        go_wp2_with fail
        refine HCC.out.mono ?_
        rintro e w3 ⟨rfl, hx3⟩
        have HX3 := Lib.hid hx3
        have HP3 := Lib.hid (HP2.out.onlyS (OnlyS.of_ext (X := fun _ => False) hx3) (fun _ _ h => h))
        have HC3 := Lib.hid (HC2.out.keep (OnlyS.of_ext (X := fun _ => False) hx3) (fun _ h => h.elim))
        have HCI3 := Lib.hid ((hx3.cell (lt_of_cell HCI.out)).trans HCI.out)
        clear hx3 c1 c2
        have HBZ := Lib.hid (fun z : Later (OnlyS O') w3.drew => (HC3.out.blk.ext (Ext.drew w3)).onlyS z.ext (fun hO => HD2.out.apart c hO (.inl rfl)))
        have a0 : ∀ z : Later (OnlyS O') w3.drew, z.val.cell? ⟨c, 0, none⟩ = some (.pointer (some ⟨p, 0, none⟩)) := fun z => (HBZ.out z).cell 0 _ rfl
        have a1 : ∀ z : Later (OnlyS O') w3.drew, z.val.cell? ⟨c, 1, none⟩ = some (.slice (some ⟨gi, oi, none⟩) (ids.length - m) ic) := fun z => (HBZ.out z).cell 1 _ rfl
        have a2 : ∀ z : Later (OnlyS O') w3.drew, z.val.cell? ⟨gi, oi, none⟩ = some (.int .i64 (id : Int)) := fun z => z.ext.cell ((Ext.drew w3).cell (lt_of_cell HCI3.out) |>.trans HCI3.out) (fun hO => HD2.out.apart gi hO (.inr (.inl rfl)))
        have HRD := Lib.hid (HRDT.out w3.drew (HP3.out.keep (fun b hb => rfl) (Nat.le_refl _)))
        go_wp2_with fail
        refine wp_region_segs (OnlyS O') (OnlyS.keeps O') [([0, 1, 2, 3, 4, 5, 6, 7, 8, 9], some 10), ([11, 12, 13, 14, 15], none)] (by kernel_rfl) (by kernel_rfl) (fun c a a' w e h => (by exact ⟨e ▸ h.1, h.2⟩)) ?_
        simp only [pickSegs, pickOps, List.map_cons, List.map_nil, Option.map_some, Option.map_none, Option.getD_some, List.getElem?_toArray, List.getElem?_cons_zero, List.getElem?_cons_succ]
        refine wpSegs_some fun K hK => ?_
        repeat go_big_quiet_step (fail)
        refine wpQuiet_nil ?_
        clear a0 a1 a2 HBZ
        go_wp2_with fail
        refine HRD.out.mono ?_
        rintro e w4 ⟨v4, rfl, hv4, O4, k1, k2, k3, -⟩
        have HP4 := Lib.hid k1
        have HO4 := Lib.hid k2
        have HN4 := Lib.hid k3
        have HV4 := Lib.hid hv4.rd
        have HX4 := Lib.hid (show ∀ b, O4 b → ¬ ownC c (.slice (some ⟨gi, oi, none⟩) (ids.length - m) ic) (.slice ra (56 * m - pos) rc) b from fun b hb hw => by
          rcases k3 b hb with h1 | h1
          · exact HD2.out.apart b h1 hw
          · have h2 := HC3.out.lt hw
            have h3 : w3.heap.size = w3.drew.heap.size := rfl
            omega)
        have HC4 := Lib.hid ((HC3.out.keep (OnlyS.of_ext (X := fun _ => False) (Ext.drew w3)) (fun _ h => h.elim)).keep k2 HD2.out.apart)
        have HD4 := Lib.hid (HD2.out.trans (Duo.trans (Duo.ext (Ext.trans HX3.out (Ext.drew w3)) HD2.out.apart) (⟨k2.mono fun _ _ h => .inl h, k3, fun _ hb => .inl hb, HX4.out⟩ : Duo O' (ownC c (.slice (some ⟨gi, oi, none⟩) (ids.length - m) ic) (.slice ra (56 * m - pos) rc)) w3.drew O4 (ownC c (.slice (some ⟨gi, oi, none⟩) (ids.length - m) ic) (.slice ra (56 * m - pos) rc)) w4)))
        clear hv4 k1 k2 k3
        by_cases hmJ : m = J
        · obtain ⟨hb1, hb2⟩ := HBAD.out hmJ
          rw [hb1]
          have q1 : (E != 0) = true := by rw [bne_iff_ne]; exact hb2
          have q2 : (E == 0) = false := beq_eq_false_iff_ne.2 hb2
          clear hb1 hb2
          obtain ⟨va, vc, hve, -, -⟩ := HV4.out.shape
          subst hve
          go_wp2_with fail
          refine ⟨HO4.out, hK _ _ ?_⟩
          clear hK K
          refine wpSegs_none ?_
          repeat go_big_quiet_step (fail)
          refine wpQuiet_nil (wpSegs_nil ?_)
          go_wp2_with fail
          go_ret
          exact ⟨O4, _, _, HP4.out, HD4.out, .inr ⟨by omega, rfl, _, _, HC4.out⟩⟩
        · have hgd := HGOOD.out (by omega)
          rw [hgd] at HV4 ⊢
          have HFL := Lib.hid (show (fill ((B.drop (56 * m)).take 56)).length = 56 by
            unfold fill zeros
            rw [List.length_append, List.length_replicate, List.length_take]
            omega)
          obtain ⟨va, vc, hve, -, -⟩ := HV4.out.shape
          rw [HFL.out] at hve
          subst hve
          clear hgd HGOOD HBAD HRDT HRD
          go_wp2_with fail
          refine ⟨HO4.out, hK _ _ ?_⟩
          clear hK K
          refine wpSegs_none ?_
          repeat go_big_quiet_step (fail)
          refine wpQuiet_nil (wpSegs_nil ?_)
          have b2 := HC4.out.blk.cell 2 _ rfl
          have HSF := Lib.hid (show c + 1 ≤ w4.heap.size from HC4.out.blk.lt)
          have HMOST := Lib.hid HPG.out.few
          have HLR := Lib.hid (show ((((padB B ids.length).take (56 * m)).drop pos).map bv).length = 56 * m - pos by rw [List.length_map, padB_rest_len pos HPG.out.len (by omega)])
          have HLF := Lib.hid (show ((fill ((B.drop (56 * m)).take 56)).map bv).length = 56 by rw [List.length_map, HFL.out])
          obtain ⟨ai', ic', hdo, hdb, hdr⟩ := HC4.out.ids.dropG Try.underlying32 hi1 hy1 1 (by omega)
          have hdr1 : ∀ W, (Instr.slice 32 (.slice (some ⟨gi, oi, none⟩) (ids.length - m) ic) (some (.int .i64 1)) none none).run Try.prog W = .ok (.slice ai' (ids.length - m - 1) ic') W := hdr
          clear hdr
          have HDO := Lib.hid hdo
          have HDB := Lib.hid hdb
          have HB4 := Lib.hid HC4.out.blk
          clear hdo hdb
          go_wp2_with (at_builtin; go_must (refine wpList_append_tailG rfl (.tmp 42) (.tmp 43) 43 rfl (c + 1) 5 i5 (.int .u8 0) 1 Try.underlying43 hi5 hz0 hz1 hz2 rfl _ _ rfl HC4.out.rest _ _ rfl HV4.out (bv_oneCell _) (by rw [HLR.out, HLF.out]; have := HMOST.out; unfold maxLen; omega) (by rw [HLR.out, HLF.out]; have := HMOST.out; omega) HSF.out ?_); intro v5 w5 h5a h5b h5c h5d h5e; obtain ⟨v5a, v5c, hv5, -, -⟩ := h5a.shape; rw [List.length_append, HLR.out, HLF.out] at hv5; subst hv5; have HO5 := Lib.hid h5a; have HG5 := Lib.hid h5b; have HE5 := Lib.hid h5d; have HB5 := Lib.hid (HB4.out.onlyS h5d (fun e => by omega)); have d2 := HB5.out.cell 2 _ rfl; have d1 := HB5.out.cell 1 _ rfl; have fz := HB5.out.free; clear h5a h5b h5c h5d h5e b2)
          go_roundw
          case rel =>
            have hs : OnlyS (fun b => b = c) w5 ((w5.setCell ⟨c, 2, none⟩ (.slice v5a (56 * m - pos + 56) v5c)).setCell ⟨c, 1, none⟩ (.slice ai' (ids.length - m - 1) ic')) := (OnlyS.set0 c 2 _ _).step (OnlyS.set0 c 1 _ _)
            have hvi : ∀ k, (Value.slice ai' (ids.length - m - 1) ic').ownBlock = some k → (Value.slice (some ⟨gi, oi, none⟩) (ids.length - m) ic).ownBlock = some k := fun k hk => HDB.out ▸ hk
            have hin : ∀ k, (Value.slice ai' (ids.length - m - 1) ic').ownBlock = some k → k ≠ c ∧ k < w4.heap.size ∧ (Value.slice ra (56 * m - pos) rc).ownBlock ≠ some k := fun k hk => HC4.out.ine k (hvi k hk)
            have ho45 : OnlyS (fun b => (Value.slice ra (56 * m - pos) rc).ownBlock = some b) w4 w5 := HE5.out.mono fun b _ hb => hb.1
            have ho46 : OnlyS (ownC c (.slice (some ⟨gi, oi, none⟩) (ids.length - m) ic) (.slice ra (56 * m - pos) rc)) w4 ((w5.setCell ⟨c, 2, none⟩ (.slice v5a (56 * m - pos + 56) v5c)).setCell ⟨c, 1, none⟩ (.slice ai' (ids.length - m - 1) ic')) := (ho45.mono fun _ _ h => .inr (.inr h)).step (hs.mono fun _ _ h => .inl h)
            have hd5 : Duo O4 (ownC c (.slice (some ⟨gi, oi, none⟩) (ids.length - m) ic) (.slice ra (56 * m - pos) rc)) w4 O4 (ownC c (.slice ai' (ids.length - m - 1) ic') (.slice v5a (56 * m - pos + 56) v5c)) ((w5.setCell ⟨c, 2, none⟩ (.slice v5a (56 * m - pos + 56) v5c)).setCell ⟨c, 1, none⟩ (.slice ai' (ids.length - m - 1) ic')) := by
              refine ⟨ho46.mono fun _ _ h => .inr h, fun _ hb => .inl hb, fun b hb => ?_, fun b hb hw => ?_⟩
              · rcases hb with hb | hb | hb
                · exact .inl (.inl hb)
                · exact .inl (.inr (.inl (hvi b hb)))
                · rcases HG5.out b hb with h1 | h1
                  · exact .inl (.inr (.inr h1))
                  · exact .inr h1.1
              · rcases hw with hw | hw | hw
                · exact HX4.out b hb (.inl hw)
                · exact HX4.out b hb (.inr (.inl (hvi b hw)))
                · rcases HG5.out b hw with h1 | h1
                  · exact HX4.out b hb (.inr (.inr h1))
                  · have := HP4.out.lt b hb
                    omega
            refine ⟨m + 1, O4, .slice ai' (ids.length - m - 1) ic', .slice v5a (56 * m - pos + 56) v5c, by omega, by omega, by omega, HP4.out.onlyS ho46 (fun b hb hw => HX4.out b hb hw), ⟨(HB5.out.set 2 _).set 1 _, ?_, fun k hk => ⟨(hin k hk).1, ?_, fun e => ?_⟩, ?_, fun k hk => ?_, fun i hi => HPG2.out i (List.mem_of_mem_drop hi)⟩, HD4.out.trans hd5⟩
            · have h1 := (HDO.out.beside ho45 (fun k hk => .inr fun e => (hin k e).2.2 hk)).beside hs (fun k e => .inr fun e2 => (hin k e2).1 e)
              unfold ivs at h1 ⊢
              rwa [← List.map_drop, List.drop_drop] at h1
            · have := (hin k hk).2.1
              have := ho46.size
              omega
            · rcases HG5.out k e with h1 | h1
              · exact (hin k hk).2.2 h1
              · have := (hin k hk).2.1
                omega
            · have h1 := HO5.out.beside hs (fun k e => .inl (by omega))
              rw [← List.map_append, padB_more HPG.out.len (by omega) hm1] at h1
              exact h1
            · rcases HG5.out k hk with h1 | h1
              · have h2 := HC4.out.rin k h1
                exact ⟨h2.1, Nat.lt_of_lt_of_le h2.2 ho46.size⟩
              · have := HSF.out
                have := hs.size
                omega
          case measure =>
            have h1 : cellLen ((w5.setCell ⟨c, 2, none⟩ (.slice v5a (56 * m - pos + 56) v5c)).setCell ⟨c, 1, none⟩ (.slice ai' (ids.length - m - 1) ic')) c 1 = ids.length - m - 1 := cellLen_of (((HB5.out.set 2 _).set 1 _).cell 1 _ rfl)
            rw [h1, HLM.out]
            omega
      · rw [decide_eq_false h56] at HCC
        go_wp2_with fail
        refine HCC.out.mono ?_
        rintro e w3 ⟨rfl, hx3⟩
        have HX3 := Lib.hid hx3
        clear hx3
        go_wp2_with fail
        go_ret
        refine ⟨O', _, _, HP2.out.onlyS (OnlyS.of_ext (X := fun _ => False) HX3.out) (fun _ _ h => h), HD2.out.trans (Duo.ext HX3.out HD2.out.apart), .inl ⟨by omega, rfl, ?_⟩⟩
        rw [HEND.out (by omega)]
        exact HC2.out.keep (OnlyS.of_ext (X := fun _ => False) HX3.out) (fun _ h => h.elim)

end Go.Proofs.Ytoagpaphghgkmaa
