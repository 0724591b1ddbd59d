/-
  The program's own runs: At, Right.
-/
import Derived.Test.YthjkfkajkbaegaaRunsP3
namespace Go.Proofs.Ythjkfkajkbaegaa
open Go.RowKit Go.BigFrame Go.Shelf

theorem flat_at {rs : List Sp} {k : Nat} {p q : Int} (hg : goodR rs) (hk : k < rs.length) (h0 : 0 ≤ q) (h1 : q < rs[k].t) (hp : p = sumR (rs.take k) + q) : (flat rs).getD p.toNat 0 = rs[k].f ∧ p < sumR rs := by
  have hle := sumR_take_le hg (k + 1)
  have hs := sumR_take_succ hk
  refine ⟨?_, by omega⟩
  have hl := flat_length (goodR_take hg k)
  have hnn := sumR_nonneg (goodR_take hg k)
  have e : flat rs = flat (rs.take k) ++ (List.replicate rs[k].t.toNat rs[k].f ++ flat (rs.drop (k + 1))) := by
    conv => lhs; rw [← List.take_append_drop (k + 1) rs, flat_append, flat_take_succ hk]
    rw [List.append_assoc]
  rw [e, List.getD_eq_getElem?_getD, List.getElem?_append_right (by omega), List.getElem?_append_left (by rw [List.length_replicate]; omega), List.getElem?_replicate, if_pos (by omega)]
  rfl

set_option maxRecDepth 100000 in
set_option maxHeartbeats 2000000 in
theorem pAt9_any (u : Value) (rs : List Sp) (p : Int) (w : World) (hu : InSp w u rs) (hp : -9223372036854775808 ≤ p ∧ p ≤ 9223372036854775807) :
    Calls Try.prog 18 #[u, .int .i64 p] w fun e w' => AnsAt w (atS rs p) e w' := by
  have HF := Lib.hid (fault9_any u rs w hu.rd hu.fits)
  obtain ⟨ao, cap, rfl, h1, h2, hat, -⟩ := hu.rd
  have HAT := Lib.hid hat
  obtain ⟨N, hN⟩ : ∃ N, rs.length = N := ⟨_, rfl⟩
  have HN := Lib.hid hN
  unfold maxLen at h2
  rw [hN] at h1 HF ⊢
  clear hat hN hu
  by_cases hp0 : p < 0
  · have HNO := Lib.hid (show atS rs p = (0, 0, false) from atS_no (fun h => by omega))
    go_enter Try.func18, Try.ntmps18
    go_wp2_with fail
    exact bodyPost_ret (v := .tuple #[.int .i64 0, .int .i64 0, .bool false]) (by simp [results, Try.results18, go_sem]) rfl ⟨by rw [HNO.out], Ext.keeps.refl _⟩
  · by_cases he : (flatS rs).2 = 0
    · obtain ⟨hg, hs, hf⟩ := flatS_zero he
      have HGD := Lib.hid hg
      have HE := Lib.hid he
      rw [he] at HF
      clear he hg hs hf
      go_enter Try.func18, Try.ntmps18
      go_wp2_with fail
      refine HF.out.mono ?_
      rintro e w1 ⟨rfl, hx1⟩
      have HX1 := Lib.hid hx1
      clear hx1
      go_wp2_with fail
      go_loopw [1, 7, 18] (fun l _ i wr => ∃ (k : Nat) (q : Int), k ≤ N ∧ i = .int .i64 k ∧ l = .int .i64 q ∧ 0 ≤ q ∧ q ≤ p ∧ p = sumR (rs.take k) + q ∧ runIdx rs p = (k : Int) + runIdx (rs.drop k) q ∧ Ext w wr) (fun _ _ i _ => N - (intOf i).toNat)
      case atStart => exact ⟨0, p, Nat.zero_le _, rfl, rfl, by omega, Int.le_refl _, by rw [List.take_zero, sumR]; omega, by rw [List.drop_zero]; simp, HX1.out⟩
      case round =>
        obtain ⟨k, q, hk, rfl, rfl, hq0, hq1, hpq, hri, hx⟩ := hrel
        have HRI := Lib.hid hri
        have HPQ := Lib.hid hpq
        have HX := Lib.hid hx
        clear hri hpq
        by_cases hkN : k < N
        · have hkl : k < rs.length := by have := HN.out; omega
          obtain ⟨g, off, rfl, hx0, hx1⟩ := HAT.out k hkl
          have hc0 := (hx.cell (lt_of_cell hx0)).trans hx0
          have hc1 := (hx.cell (lt_of_cell hx1)).trans hx1
          have HSD := Lib.hid (sumR_take_succ hkl)
          have HRD := Lib.hid (runIdx_drop hkl q)
          have HGC := Lib.hid (HGD.out _ (List.getElem_mem hkl))
          have HFA := Lib.hid (fun h => flat_at HGD.out hkl hq0 h HPQ.out)
          generalize rs[k] = c at hc0 hc1 HSD HRD HGC HFA
          obtain ⟨cf, ct⟩ := c
          simp only at hc0 hc1 HSD HRD HGC HFA
          have hct := HGC.out
          have HG7 := Lib.hid (heap_alloc_new wr (.cells #[.int .i64 cf, .int .i64 ct] 45))
          have HE7 := Lib.hid (ext_new wr (.cells #[.int .i64 cf, .int .i64 ct] 45))
          have hb0 : (wr.alloc (.cells #[.int .i64 cf, .int .i64 ct] 45)).cell? ⟨wr.heap.size, 0, none⟩ = some (.int .i64 cf) := by unfold World.cell?; rw [HG7.out]; rfl
          have hb1 : (wr.alloc (.cells #[.int .i64 cf, .int .i64 ct] 45)).cell? ⟨wr.heap.size, 1, none⟩ = some (.int .i64 ct) := by unfold World.cell?; rw [HG7.out]; rfl
          clear hx0 hx1 hkl hx
          by_cases hqt : q < ct
          · have HFV := Lib.hid (HFA.out hqt)
            have HR2 := Lib.hid (show runIdx rs p = (k : Int) by rw [HRI.out, HRD.out, if_pos hqt]; omega)
            have HYES := Lib.hid (atS_yes (rs := rs) (p := p) ⟨HE.out, by omega, HFV.out.2⟩)
            go_wp2_with fail
            exact bodyPost_ret (v := .tuple #[.int .i64 cf, .int .i64 (k : Int), .bool true]) (by simp [results, Try.results18, go_sem]) rfl ⟨by rw [HYES.out, HR2.out, HFV.out.1], Ext.trans HX.out HE7.out⟩
          · have HR2 := Lib.hid (show runIdx (rs.drop k) q = 1 + runIdx (rs.drop (k + 1)) (q - ct) by rw [HRD.out, if_neg hqt])
            go_wp2_with fail
            go_roundw
            case rel => exact ⟨k + 1, q - ct, by omega, by go_num, by go_num, by omega, by omega, by have := HSD.out; have := HPQ.out; omega, by rw [HRI.out, HR2.out]; omega, Ext.trans HX.out HE7.out⟩
            case measure => simp [intOf]; omega
        · have HNO := Lib.hid (show atS rs p = (0, 0, false) from atS_no (fun h => by
            have hpp := HPQ.out
            rw [List.take_of_length_le (by have := HN.out; omega)] at hpp
            omega))
          go_wp2_with fail
          exact bodyPost_ret (v := .tuple #[.int .i64 0, .int .i64 0, .bool false]) (by simp [results, Try.results18, go_sem]) rfl ⟨by rw [HNO.out], HX.out⟩
    · have HNO := Lib.hid (show atS rs p = (0, 0, false) from atS_no (fun h => he h.1))
      have HC := flatS_no he
      obtain ⟨E, hE, hfs⟩ : ∃ E : Int, (E = 1 ∨ E = 3) ∧ flatS rs = ([], E) := by rcases HC with h | h <;> exact ⟨_, by simp, h⟩
      rw [hfs] at HF
      clear hfs HC he
      rcases hE with rfl | rfl
      all_goals
        go_enter Try.func18, Try.ntmps18
        go_wp2_with fail
        refine HF.out.mono ?_
        rintro e w1 ⟨rfl, hx1⟩
        have HX1 := Lib.hid hx1
        clear hx1
        go_wp2_with fail
        exact bodyPost_ret (v := .tuple #[.int .i64 0, .int .i64 0, .bool false]) (by simp [results, Try.results18, go_sem]) rfl ⟨by rw [HNO.out], HX1.out⟩

theorem runAt_zero (s : Sp) (t : List Sp) : runAt (s :: t) 0 = s := rfl
theorem runAt_succ (s : Sp) (t : List Sp) (i : Nat) : runAt (s :: t) (i + 1) = runAt t i := rfl
theorem noAdj_iff (rs : List Sp) : noAdj rs ↔ ∀ i, i + 1 < rs.length → (runAt rs i).f ≠ (runAt rs (i + 1)).f := by
  induction rs with
  | nil => exact ⟨fun _ i h => absurd h (by simp), fun _ => trivial⟩
  | cons s t ih =>
    cases t with
    | nil => exact ⟨fun _ i h => absurd h (by simp), fun _ => trivial⟩
    | cons s' t =>
      rw [noAdj, ih]
      constructor
      · rintro ⟨h1, h2⟩ i hi
        cases i with
        | zero => exact h1
        | succ i => exact h2 i (by simpa using hi)
      · intro h
        exact ⟨h 0 (by simp), fun i hi => h (i + 1) (by simpa using hi)⟩

/-- A run goes on the one ahead of it. -/
def goesOn (rs : List Sp) (i : Nat) : Bool := decide (0 < i) && ((runAt rs i).f == (runAt rs (i - 1)).f)

set_option maxRecDepth 100000 in
theorem goesOn_any (g N cap : Nat) (ao : Option Addr) (rs : List Sp) (i : Nat) (W : World) (hb : W.cell? ⟨g, 0, none⟩ = some (.slice ao N cap)) (hrd : RdSp W (.slice ao N cap) rs) (hi : i < rs.length) :
    Calls Try.prog 30 #[.int .i64 i, .pointer (some ⟨g, 0, none⟩)] W fun e w' => e = .returned (.bool (goesOn rs i)) ∧ Ext W w' := by
  obtain ⟨ao', cap', hs, h1, h2, hat, -⟩ := hrd
  simp only [Value.slice.injEq] at hs
  obtain ⟨rfl, rfl, rfl⟩ := hs
  unfold maxLen at h2
  cases i with
  | zero =>
    have HG := Lib.hid (show goesOn rs 0 = false from rfl)
    clear hat
    go_enter Try.func30, Try.ntmps30
    go_wp2_with fail
    go_region
    go_wp2_with fail
    go_ret
    exact ⟨by rw [HG.out]; rfl, Ext.drew W⟩
  | succ J =>
    obtain ⟨g', off, rfl, hx0, -⟩ := hat (J + 1) hi
    obtain ⟨g2, off2, h, hy0, -⟩ := hat J (by omega)
    simp only [Option.some.injEq, Addr.mk.injEq, and_true] at h
    obtain ⟨rfl, rfl⟩ := h
    have HG := Lib.hid (show goesOn rs (J + 1) = (rs[J + 1].f == rs[J].f) by
      unfold goesOn
      rw [runAt_eq hi, Nat.add_sub_cancel, runAt_eq (by omega)]
      simp)
    generalize rs[J + 1].f = X at hx0 HG
    generalize rs[J].f = Y at hy0 HG
    clear hat
    generalize rs.length = N at *
    have e1 : (((J + 1 : Nat) : Int) - 1) = (J : Int) := by omega
    cases hq : (X == Y) with
    | true =>
      rw [hq] at HG
      go_enter Try.func30, Try.ntmps30
      go_wp2_with fail
      go_region
      go_wp2_with fail
      go_ret
      exact ⟨by rw [HG.out]; rfl, Ext.drew W⟩
    | false =>
      rw [hq] at HG
      go_enter Try.func30, Try.ntmps30
      go_wp2_with fail
      go_region
      go_wp2_with fail
      go_ret
      exact ⟨by rw [HG.out]; rfl, Ext.drew W⟩

end Go.Proofs.Ythjkfkajkbaegaa
