/-
  The program's contracts: Take, put together.
-/
import Derived.Test.YtlbilmmjcfiokaaCellSay3
namespace Go.Proofs.Ytlbilmmjcfiokaa
open Go.RowKit Go.BigFrame

set_option maxRecDepth 100000 in
theorem take_nil (b : Value) (w : World) (hr : Rd w b []) :
    Calls Try.prog 56 #[b] w (Took w []) := by
  obtain ⟨a, cap, rfl, _, _⟩ := hr.shape
  go_enter Try.func56, Try.ntmps56
  go_wp2_with fail
  refine bodyPost_ret (v := .tuple #[.agg #[.int .u8 0, .int .i64 0, .string ⟨#[]⟩], .slice none 0 0, .int .i64 6]) (by simp [results, Try.results56, go_sem]) rfl ⟨.inr ⟨rfl, rfl⟩, ext_one _ _⟩

theorem rd_rest {bb off L cap k : Nat} {l m : List UInt8} {w : World} (hr : Rd w (.slice (some ⟨bb, off, none⟩) L cap) l) (hL : L = l.length) (hm : m = l.drop k) (hk : k ≤ l.length) :
    (cap = L - m.length → Rd w (.slice (some ⟨bb, off, none⟩) (L - (L - m.length)) 0) m) ∧ (¬ cap = L - m.length → Rd w (.slice (some ⟨bb, off + (L - m.length), none⟩) (L - (L - m.length)) (cap - (L - m.length))) m) ∧ m.length ≤ L := by
  have hml : m.length = l.length - k := by rw [hm, List.length_drop]
  have e1 : L - m.length = k := by omega
  have e2 : L - k = m.length := by omega
  rw [e1, e2]
  rcases hr with ⟨h0, _⟩ | ⟨x, cap', h1, h2, h3, h4⟩
  · cases h0
  · simp only [Value.slice.injEq, Option.some.injEq] at h1
    obtain ⟨rfl, _, rfl⟩ := h1
    rw [List.length_map] at h2
    refine ⟨fun hc => ?_, fun hc => ?_, by omega⟩
    · have hm0 : m = [] := List.length_eq_zero_iff.1 (by omega)
      subst hm0
      exact .inr ⟨_, 0, rfl, Nat.le_refl _, by unfold maxLen; omega, fun i u hu => by simp at hu⟩
    · refine .inr ⟨⟨bb, off + k, none⟩, cap - k, by rw [List.length_map], by rw [List.length_map]; omega, by omega, fun i u hu => ?_⟩
      rw [add_at]
      have := h4 (k + i) u (by rw [hm, List.map_drop, List.getElem?_drop] at hu; exact hu)
      rw [add_at] at this
      rw [Nat.add_assoc]
      exact this

theorem pright_is {v : V} {x : Bool} (h : rightV v = x) (hv : v.fits) (hl : v.s.length ≤ 5000) (W : World) : Calls Try.prog 30 #[v.val] W fun e w' => e = .returned (.bool x) ∧ Ext W w' := by
  subst h
  exact Right_any v hv hl W

theorem pright_1 {k n : Int} {s : List UInt8} {x : Bool} (h : rightV ⟨k, n, s⟩ = x) (hv : (⟨k, n, s⟩ : V).fits) (hl : s.length ≤ 5000) (W : World) : Calls Try.prog 30 #[.agg #[.int .u8 k, .int .i64 n, .string ⟨s.toArray⟩]] W fun e w' => e = .returned (.bool x) ∧ Ext W w' :=
  pright_is h hv hl W

theorem Take_any (b : Value) (l : List UInt8) (w : World) (hr : Rd w b l) (hl : l.length ≤ 1000000) :
    Calls Try.prog 56 #[b] w (Took w l) := by
  cases l with
  | nil => exact take_nil b w hr
  | cons c t =>
    have hr0 := hr
    rcases hr with ⟨rfl, h1⟩ | ⟨x, cap, rfl, h2, h3, h4⟩
    · cases h1
    have hc0 := h4 0 (bv c) (by simp)
    rw [add_zero] at hc0
    obtain ⟨bb, off, rfl, _⟩ := plain_of hc0
    have hLL : ((c :: t).map bv).length = t.length + 1 := by simp
    rw [hLL] at hr0 ⊢
    have htl : t.length < 1000000 := by simp at hl; omega
    obtain ⟨a1, cap1, hrt, hsl1⟩ := slice_from _ (c :: t) 1 w hr0 (by simp)
    have hsl : ∀ W, (Instr.slice 33 (.slice (some ⟨bb, off, none⟩) (t.length + 1) cap) (some (.int .i64 1)) none none).run Try.prog W = .ok (.slice a1 (t.length + 1 - 1) cap1) W := fun W => hsl1 1 W rfl
    replace hrt : Rd w (.slice a1 (t.length + 1 - 1) cap1) t := hrt
    have rest : ∀ m k, m = (c :: t).drop k → k ≤ t.length + 1 → _ := fun m k hm hk => rd_rest (m := m) (k := k) hr0 (by simp) hm (by simpa using hk)
    clear h2 h3 h4 hLL hsl1
    by_cases e0 : c = 0
    · subst e0
      obtain ⟨m1, m2, m3⟩ := rest t 1 rfl (by omega)
      exact take_0 bb off (t.length + 1) cap a1 cap1 t w hc0 hrt hsl rfl htl (pright_is (v := V.zero) (by decide) ⟨by decide, by decide, by decide, by decide⟩ (by decide)) m1 m2 m3 rfl
    obtain ⟨n, s, hfr⟩ : ∃ n s, front t = (n, s) := ⟨_, _, rfl⟩
    have hf1 : (front t).1 = n := by rw [hfr]
    have hf2 : (front t).2 = s := by rw [hfr]
    have hsl0 : s ≠ 0 → s ≤ t.length := fun _ => front_le hfr
    have hn64 : s ≠ 0 → n < 2 ^ 64 := fun hs => (front_sound t n s hfr hs).1
    by_cases e1 : c = 1
    · subst e1
      by_cases hf : s = 0
      · have hI : ∀ B b W, Rdr B W b t false → Calls Try.prog 58 #[.pointer (some ⟨b, 0, none⟩)] W fun e w' => e = .returned (.int .i64 0) ∧ Rdr B w' b [] true ∧ Only b W w' := fun B b W h => RInt_no B b t W h (by rw [hf2, hf])
        have hV := takeV_no1 t 1 (.inl rfl) (by rw [hf2, hf])
        exact take_1_bad bb off (t.length + 1) cap a1 cap1 t w 0 hc0 hrt hsl rfl htl hI hV
      · have hI : ∀ B b W, Rdr B W b t false → Calls Try.prog 58 #[.pointer (some ⟨b, 0, none⟩)] W fun e w' => e = .returned (.int .i64 (zag n)) ∧ Rdr B w' b (t.drop s) false ∧ Only b W w' := fun B b W h => RInt_yes B b t n s W h hfr hf
        have hfit := zag_fits 1 (by decide) (by decide) n (hn64 hf)
        have hs := hsl0 hf
        have hV1 := fun h => takeV_yes1 t 1 (.inl rfl) (by rw [hf2]; exact hf) h
        have hV2 := fun h => takeV_wrong1 t 1 (.inl rfl) (by rw [hf2]; exact hf) h
        rw [hf1, hf2] at hV1
        rw [hf1] at hV2
        obtain ⟨m1, m2, m3⟩ := rest (t.drop s) (s + 1) rfl (by omega)
        generalize zag n = N at hI hfit hV1 hV2
        generalize t.drop s = m at hI hV1 m1 m2 m3
        clear rest hf1 hf2 hfr
        cases hrv : rightV ⟨1, N, []⟩ with
        | true => exact take_1_right bb off (t.length + 1) cap a1 cap1 t w m N hc0 hrt hsl rfl htl hI (pright_1 (s := []) hrv hfit (Nat.zero_le 5000)) m1 m2 m3 (hV1 hrv)
        | false => exact take_1_wrong bb off (t.length + 1) cap a1 cap1 t w m N hc0 hrt hsl rfl htl hI (pright_1 (s := []) hrv hfit (Nat.zero_le 5000)) (hV2 hrv)
    by_cases e2 : c = 2
    · subst e2
      by_cases hf : s = 0
      · have hI : ∀ B b W, Rdr B W b t false → Calls Try.prog 58 #[.pointer (some ⟨b, 0, none⟩)] W fun e w' => e = .returned (.int .i64 0) ∧ Rdr B w' b [] true ∧ Only b W w' := fun B b W h => RInt_no B b t W h (by rw [hf2, hf])
        have hV := takeV_no1 t 2 (.inr rfl) (by rw [hf2, hf])
        exact take_2_bad bb off (t.length + 1) cap a1 cap1 t w 0 hc0 hrt hsl rfl htl hI hV
      · have hI : ∀ B b W, Rdr B W b t false → Calls Try.prog 58 #[.pointer (some ⟨b, 0, none⟩)] W fun e w' => e = .returned (.int .i64 (zag n)) ∧ Rdr B w' b (t.drop s) false ∧ Only b W w' := fun B b W h => RInt_yes B b t n s W h hfr hf
        have hfit := zag_fits 2 (by decide) (by decide) n (hn64 hf)
        have hs := hsl0 hf
        have hV1 := fun h => takeV_yes1 t 2 (.inr rfl) (by rw [hf2]; exact hf) h
        rw [hf1, hf2] at hV1
        obtain ⟨m1, m2, m3⟩ := rest (t.drop s) (s + 1) rfl (by omega)
        generalize zag n = N at hI hfit hV1
        generalize t.drop s = m at hI hV1 m1 m2 m3
        clear rest hf1 hf2 hfr
        have hrv : rightV ⟨2, N, []⟩ = true := by simp [rightV]
        exact take_2_right bb off (t.length + 1) cap a1 cap1 t w m N hc0 hrt hsl rfl htl hI (pright_1 (s := []) hrv hfit (Nat.zero_le 5000)) m1 m2 m3 (hV1 hrv)
    by_cases e3 : c = 3
    · subst e3
      by_cases hf : s = 0
      · have hI : ∀ B b W, Rdr B W b t false → Calls Try.prog 78 #[.pointer (some ⟨b, 0, none⟩)] W fun e w' => e = .returned (.string ⟨([] : List UInt8).toArray⟩) ∧ Rdr B w' b [] true ∧ Only b W w' := fun B b W h => RText_no B b t W h (by rw [hf2, hf])
        have hV := takeV_no3 t (by rw [hf2, hf])
        exact take_3_bad bb off (t.length + 1) cap a1 cap1 t w [] hc0 hrt hsl rfl htl hI hV
      · have hs := hsl0 hf
        by_cases hn : n ≤ 1024 ∧ n ≤ (t.drop s).length
        · have hI : ∀ B b W, Rdr B W b t false → Calls Try.prog 78 #[.pointer (some ⟨b, 0, none⟩)] W fun e w' => e = .returned (.string ⟨((t.drop s).take n).toArray⟩) ∧ Rdr B w' b ((t.drop s).drop n) false ∧ Only b W w' := fun B b W h => RText_yes B b t (t.drop s) n s W h hfr hf rfl hn.1 hn.2
          have hV1 := fun h => takeV_yes3 t (by rw [hf2]; exact hf) h
          rw [hf1, hf2] at hV1
          replace hV1 := hV1 hn
          have hln : ((t.drop s).take n).length ≤ 1024 := by rw [List.length_take]; omega
          obtain ⟨m1, m2, m3⟩ := rest ((t.drop s).drop n) (s + n + 1) (by rw [List.drop_drop]; rfl) (by have := hn.2; rw [List.length_drop] at this; omega)
          generalize (t.drop s).take n = S at hI hV1 hln
          generalize (t.drop s).drop n = m at hI hV1 m1 m2 m3
          clear rest hf1 hf2 hfr
          have hrv : rightV ⟨3, 0, S⟩ = true := by simp [rightV]; omega
          exact take_3_right bb off (t.length + 1) cap a1 cap1 t w m S hc0 hrt hsl rfl htl hI (pright_1 hrv (fits_no 3 _ (by decide) (by decide)) (Nat.le_trans hln (by decide))) m1 m2 m3 hV1
        · have hI : ∀ B b W, Rdr B W b t false → Calls Try.prog 78 #[.pointer (some ⟨b, 0, none⟩)] W fun e w' => e = .returned (.string ⟨([] : List UInt8).toArray⟩) ∧ Rdr B w' b [] true ∧ Only b W w' := fun B b W h => RText_long B b t (t.drop s) n s W h hfr hf rfl (by rcases Nat.lt_or_ge 1024 n with h1 | h1; exact .inl h1; rcases Nat.lt_or_ge (t.drop s).length n with h2 | h2; exact .inr h2; exact absurd ⟨h1, h2⟩ hn)
          have hV := takeV_long3 t (by rw [hf2]; exact hf) (by rw [hf1, hf2]; exact hn)
          exact take_3_bad bb off (t.length + 1) cap a1 cap1 t w [] hc0 hrt hsl rfl htl hI hV
    have n0 : c.toNat ≠ 0 := fun h => e0 (UInt8.toNat_inj.1 h)
    have n1 : c.toNat ≠ 1 := fun h => e1 (UInt8.toNat_inj.1 h)
    have n2 : c.toNat ≠ 2 := fun h => e2 (UInt8.toNat_inj.1 h)
    have n3 : c.toNat ≠ 3 := fun h => e3 (UInt8.toNat_inj.1 h)
    have hcu := c.toNat_lt
    have hrv : rightV ⟨(c.toNat : Int), 0, []⟩ = false := by simp [rightV]; omega
    refine take_o bb off (t.length + 1) cap a1 cap1 t w c (c.toNat : Int) hc0 hrt hsl rfl htl (beq_eq_false_iff_ne.2 (by omega)) (beq_eq_false_iff_ne.2 (by omega)) (beq_eq_false_iff_ne.2 (by omega)) (pright_1 (s := []) hrv (fits_no _ _ (by omega) (by omega)) (Nat.zero_le 5000)) ?_
    unfold takeV
    dsimp only
    rw [if_neg e0, if_neg (by rintro (h | h) <;> contradiction), if_neg e3]

end Go.Proofs.Ytlbilmmjcfiokaa
