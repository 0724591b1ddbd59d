/-
  The program's contracts of zones: Right.
-/
import Derived.Test.YtlbilmmjcfiokaaZoneP2
import Derived.Test.YtlbilmmjcfiokaaZoneRef4
namespace Go.Proofs.Ytlbilmmjcfiokaa
open Go.RowKit Go.BigFrame

theorem pIsKindZ_any (k : Int) (w : World) (_hk : 0 ≤ k ∧ k ≤ 255) :
    Calls Try.prog 35 #[.int .u8 k] w fun e w' => e = .returned (.bool (decide (1 ≤ k ∧ k ≤ 3))) ∧ w = w' := by
  by_cases h1 : k = 1
  · subst h1
    go_enter Try.func35, Try.ntmps35
    go_wp2_with fail
    go_ret
    exact ⟨rfl, rfl⟩
  · have q1 : (k == (1 : Int)) = false := beq_eq_false_iff_ne.2 h1
    by_cases h2 : k = 2
    · subst h2
      go_enter Try.func35, Try.ntmps35
      go_wp2_with fail
      go_ret
      exact ⟨rfl, rfl⟩
    · have q2 : (k == (2 : Int)) = false := beq_eq_false_iff_ne.2 h2
      by_cases h3 : k = 3
      · subst h3
        go_enter Try.func35, Try.ntmps35
        go_wp2_with fail
        go_ret
        exact ⟨rfl, rfl⟩
      · have q3 : (k == (3 : Int)) = false := beq_eq_false_iff_ne.2 h3
        have HD := Lib.hid (show decide (1 ≤ k ∧ k ≤ 3) = false from decide_eq_false (by omega))
        rw [HD.out]
        clear h1 h2 h3
        go_enter Try.func35, Try.ntmps35
        go_wp2_with fail
        go_ret
        exact ⟨rfl, rfl⟩

theorem pCountsZ_any (z : Zo) (w : World) :
    Calls Try.prog 41 #[z.val] w fun e w' => e = .returned (.bool (decide (0 ≤ z.n ∧ z.n ≤ z.m ∧ z.m ≤ 4096))) ∧ Ext w w' := by
  obtain ⟨⟨ak, an, as'⟩, ⟨bk, bn, bs⟩, pn, pm⟩ := z
  unfold Zo.val
  simp only
  have HX := Lib.hid (ext_new w (.cells #[.int .u8 ak, .int .i64 an, .string ⟨as'.toArray⟩, .int .u8 bk, .int .i64 bn, .string ⟨bs.toArray⟩, .int .i64 pn, .int .i64 pm] 26))
  by_cases h1 : 0 ≤ pn
  · have d1 : decide (0 ≤ pn) = true := decide_eq_true h1
    by_cases h2 : pn ≤ pm
    · have d2 : decide (pn ≤ pm) = true := decide_eq_true h2
      have HD := Lib.hid (show decide (0 ≤ pn ∧ pn ≤ pm ∧ pm ≤ 4096) = decide (pm ≤ 4096) from decide_eq_decide.2 ⟨fun h => h.2.2, fun h => ⟨h1, h2, h⟩⟩)
      rw [HD.out]
      clear h1 h2
      go_enter Try.func41, Try.ntmps41
      go_wp2_with fail
      go_ret
      exact ⟨rfl, HX.out⟩
    · have d2 : decide (pn ≤ pm) = false := decide_eq_false h2
      have HD := Lib.hid (show decide (0 ≤ pn ∧ pn ≤ pm ∧ pm ≤ 4096) = false from decide_eq_false (fun h => h2 h.2.1))
      rw [HD.out]
      clear h1 h2
      go_enter Try.func41, Try.ntmps41
      go_wp2_with fail
      go_ret
      exact ⟨rfl, HX.out⟩
  · have d1 : decide (0 ≤ pn) = false := decide_eq_false h1
    have HD := Lib.hid (show decide (0 ≤ pn ∧ pn ≤ pm ∧ pm ≤ 4096) = false from decide_eq_false (fun h => h1 h.1))
    rw [HD.out]
    clear h1
    go_enter Try.func41, Try.ntmps41
    go_wp2_with fail
    go_ret
    exact ⟨rfl, HX.out⟩

theorem enters_wrongZ : ∀ args w, (callFunc 64 args).run Try.prog w = .ok (.enter 64 args) w := enters_of Try.func64 (by kernel_rfl) rfl

set_option maxRecDepth 100000 in
theorem pWrongZ_any (v : V) (k : Int) (kb : Nat) (w : World) (hv : v.fits) (hl : v.s.length ≤ 5000) (hkb : w.cell? ⟨kb, 0, none⟩ = some (.int .u8 k)) :
    Calls Try.prog 64 #[v.val, .pointer (some ⟨kb, 0, none⟩)] w fun e w' => e = .returned (.bool (!decide (someV k v))) ∧ Ext w w' := by
  have HR := Lib.hid (fun W => Right_any v hv hl W)
  have hd : decide (someV k v) = (rightV v && decide (v.k = k)) := by unfold someV; by_cases h1 : rightV v = true <;> by_cases h2 : v.k = k <;> simp [h1, h2]
  rw [hd]
  generalize rightV v = c at HR
  obtain ⟨vk, vn, vs⟩ := v
  unfold V.val at HR ⊢
  simp only at HR ⊢
  have HB := Lib.hid (Blk.new w [.int .u8 vk, .int .i64 vn, .string ⟨vs.toArray⟩] 24)
  have HK := Lib.hid hkb
  clear hv hl hd hkb
  go_enter Try.func64, Try.ntmps64
  go_wp2_with fail
  refine (HR.out _).mono ?_
  rintro e w1 ⟨rfl, hx⟩
  have k0 : w1.cell? ⟨w.heap.size, 0, none⟩ = some (.int .u8 vk) := (HB.out.ext hx).cell 0 _ rfl
  have HX := Lib.hid (Ext.trans (ext_new w _) hx)
  have k1 : w1.cell? ⟨kb, 0, none⟩ = some (.int .u8 k) := (HX.out.cell (lt_of_cell HK.out)).trans HK.out
  clear hx HR
  cases c with
  | false =>
    go_wp2_with fail
    go_ret
    exact ⟨by simp, HX.out⟩
  | true =>
    by_cases hq : vk = k
    · have q1 : (vk != k) = false := by simp [hq]
      have HN := Lib.hid hq
      clear hq
      go_wp2_with fail
      go_ret
      exact ⟨by simp [HN.out], HX.out⟩
    · have q1 : (vk != k) = true := bne_iff_ne.2 hq
      have HN := Lib.hid hq
      clear hq
      go_wp2_with fail
      go_ret
      exact ⟨by simp [HN.out], HX.out⟩

set_option maxRecDepth 100000 in
theorem indexFuncV_any (G : Nat) (p : Value) (B : V → Bool) (u : Value) (ws : List V) (w : World) (hu : RdVals w u ws) (he : ∀ args w, (callFunc G args).run Try.prog w = .ok (.enter G args) w)
    (hf : ∀ v ∈ ws, ∀ W, Ext w W → Calls Try.prog G #[v.val, p] W fun e w' => e = .returned (.bool (B v)) ∧ Ext W w') :
    Calls Try.prog 86 #[u, .func (.func G) #[] #[p]] w fun e w' => (∃ k : Int, e = .returned (.int .i64 k) ∧ -1 ≤ k ∧ k ≤ 9223372036854775807 ∧ decide (0 ≤ k) = ws.any B) ∧ Ext w w' := by
  obtain ⟨ao, cap, rfl, -, -⟩ := hu.shape
  obtain ⟨-, h1, h2, hc⟩ := hu.plain
  have HC := Lib.hid hc
  have HF := Lib.hid hf
  unfold maxLen at h2
  obtain ⟨N, hN⟩ : ∃ N, ws.length = N := ⟨_, rfl⟩
  have HN := Lib.hid hN
  rw [hN] at h1 ⊢
  clear hu hc hf hN
  go_enter Try.func86, Try.ntmps86
  go_wp2_with fail
  go_loopw [5, 8] (fun _ i wr => ∃ j : Nat, j ≤ N ∧ i = .int .i64 j ∧ (ws.take j).any B = false ∧ Ext w wr) (fun _ i _ => N - (intOf i).toNat)
  case atStart => exact ⟨0, Nat.zero_le _, rfl, rfl, Ext.keeps.refl _⟩
  case round =>
    obtain ⟨j, hj, rfl, hb, hx⟩ := hrel
    have HB := Lib.hid hb
    have HX := Lib.hid hx
    clear hb hx
    by_cases hlt : j < N
    · have hjl : j < ws.length := by have := HN.out; omega
      obtain ⟨g, off, rfl, c0, c1, c2⟩ := HC.out j hjl
      have x0 := (HX.out.cell (lt_of_cell c0)).trans c0
      have x1 := (HX.out.cell (lt_of_cell c1)).trans c1
      have x2 := (HX.out.cell (lt_of_cell c2)).trans c2
      have HS := Lib.hid (List.take_succ_eq_append_getElem hjl)
      have HM := Lib.hid (List.getElem_mem hjl)
      have HFC := Lib.hid (HF.out _ HM.out wr HX.out)
      generalize ws[j] = v at x0 x1 x2 HS HFC HM
      have HEN := he
      obtain ⟨k, n, s⟩ := v
      unfold V.val at HFC
      simp only at x0 x1 x2 HFC
      clear c0 c1 c2
      cases hb : B ⟨k, n, s⟩ with
      | true =>
        rw [hb] at HFC
        have HB1 := Lib.hid hb
        clear hb
        go_wp2_with fail
        refine HFC.out.mono ?_
        rintro e w2 ⟨rfl, hx⟩
        have HX2 := Lib.hid (Ext.trans HX.out hx)
        clear hx
        go_wp2_with fail
        go_ret
        exact ⟨⟨_, rfl, by omega, by omega, by rw [List.any_eq_true.2 ⟨_, HM.out, HB1.out⟩]; exact decide_eq_true (by omega)⟩, HX2.out⟩
      | false =>
        rw [hb] at HFC
        have HB1 := Lib.hid hb
        clear hb
        go_wp2_with fail
        refine HFC.out.mono ?_
        rintro e w2 ⟨rfl, hx⟩
        have HX2 := Lib.hid (Ext.trans HX.out hx)
        clear hx
        go_wp2_with fail
        go_roundw
        case rel => exact ⟨j + 1, by omega, by go_num, by rw [HS.out, List.any_append, HB.out]; simp [HB1.out], HX2.out⟩
        case measure => simp [intOf]; omega
    · have HNO := Lib.hid (show ws.any B = false by have h := HB.out; rwa [List.take_of_length_le (by have := HN.out; omega)] at h)
      go_wp2_with fail
      go_ret
      exact ⟨⟨-1, rfl, by omega, by omega, by rw [HNO.out]; decide⟩, HX.out⟩

set_option maxRecDepth 100000 in
theorem containsFuncV_any (G : Nat) (p : Value) (B : V → Bool) (u : Value) (ws : List V) (w : World) (hu : RdVals w u ws) (he : ∀ args w, (callFunc G args).run Try.prog w = .ok (.enter G args) w)
    (hf : ∀ v ∈ ws, ∀ W, Ext w W → Calls Try.prog G #[v.val, p] W fun e w' => e = .returned (.bool (B v)) ∧ Ext W w') :
    Calls Try.prog 65 #[u, .func (.func G) #[] #[p]] w fun e w' => e = .returned (.bool (ws.any B)) ∧ Ext w w' := by
  have HI := Lib.hid (indexFuncV_any G p B u ws w hu he hf)
  clear hf
  go_enter Try.func65, Try.ntmps65
  go_wp2_with fail
  refine HI.out.mono ?_
  rintro e w2 ⟨⟨k, rfl, hk1, hk2, hk⟩, hx⟩
  go_wp2_with fail
  go_ret
  exact ⟨by rw [← hk]; rfl, hx⟩

end Go.Proofs.Ytlbilmmjcfiokaa
