/-
  The program's own runs: Right.
-/
import Derived.Test.YthjkfkajkbaegaaRunsP4
namespace Go.Proofs.Ythjkfkajkbaegaa
open Go.RowKit Go.BigFrame Go.Shelf

theorem enters_goes9 : ∀ args w, (callFunc 30 args).run Try.prog w = .ok (.enter 30 args) w := enters_of Try.func30 (by kernel_rfl) rfl

set_option maxRecDepth 100000 in
set_option maxHeartbeats 1000000 in
theorem rightRd9_any (u : Value) (rs : List Sp) (w : World) (hrd : RdSp w u rs) (hfit : ∀ s ∈ rs, s.fits) :
    Calls Try.prog 20 #[u] w fun e w' => e = .returned (.bool (rightR rs)) ∧ Ext w w' := by
  have HF := Lib.hid (fun (W : World) (h : Ext w W) => fault9_any u rs W (hrd.mono h) hfit)
  have HRD := Lib.hid hrd
  obtain ⟨ao, cap, rfl, h1, h2, -, -⟩ := hrd
  obtain ⟨N, hN⟩ : ∃ N, rs.length = N := ⟨_, rfl⟩
  have HN := Lib.hid hN
  unfold maxLen at h2
  rw [hN] at h1 HF HRD ⊢
  clear hN hfit
  have HX1 := Lib.hid (ext_new w (.cells #[.slice ao N cap] 30))
  have HG1 := Lib.hid (heap_alloc_new w (.cells #[.slice ao N cap] 30))
  have hbox : (w.alloc (.cells #[.slice ao N cap] 30)).cell? ⟨w.heap.size, 0, none⟩ = some (.slice ao N cap) := by unfold World.cell?; rw [HG1.out]; rfl
  by_cases he : (flatS rs).2 = 0
  · obtain ⟨hg, hs, hf⟩ := flatS_zero he
    have HYES := Lib.hid (show noAdj rs → rightR rs = true from fun h => (rightR_iff rs).2 ⟨hg, hs, h⟩)
    have HNO := Lib.hid (show ¬ noAdj rs → rightR rs = false from fun h => by
      cases hr : rightR rs with
      | false => rfl
      | true => exact absurd ((rightR_iff rs).1 hr).2.2 h)
    rw [he] at HF
    clear he hg hs hf
    go_enter Try.func20, Try.ntmps20
    go_wp2_with fail
    refine (HF.out _ HX1.out).mono ?_
    rintro e w2 ⟨rfl, hx2⟩
    have HX2 := Lib.hid hx2
    have hbox2 := (hx2.cell (lt_of_cell hbox)).trans hbox
    have HXX := Lib.hid (Ext.trans HX1.out hx2)
    have HB2 := Lib.hid hbox2
    clear hx2
    go_wp2_with fail
    refine (search9_any 30 #[.pointer (some ⟨w.heap.size, 0, none⟩)] (fun _ W => Ext w2 W) (fun W => Ext w2 W) (goesOn rs) (.slice ao N cap) rs w2 (HRD.out.mono HXX.out) enters_goes9 (Ext.keeps.refl _) (fun i W hi hI => (goesOn_any w.heap.size N cap ao rs i W ((hI.cell (lt_of_cell HB2.out)).trans HB2.out) ((HRD.out.mono HXX.out).mono hI) hi).mono fun e w' h => ⟨h.1, fun _ => Ext.trans hI h.2, fun _ => Ext.trans hI h.2⟩)).mono ?_
    rintro e w3 ⟨b, rfl, hb1, hb0⟩
    cases b with
    | true =>
      obtain ⟨⟨i, hi, hbad⟩, hx3⟩ := hb1 rfl
      have HX3 := Lib.hid (Ext.trans HXX.out hx3)
      have HA := Lib.hid (HNO.out fun h => by
        rw [noAdj_iff] at h
        unfold goesOn at hbad
        rw [Bool.and_eq_true] at hbad
        have h0 : 0 < i := of_decide_eq_true hbad.1
        have h2 := h (i - 1) (by omega)
        rw [show i - 1 + 1 = i by omega] at h2
        exact h2 (by simpa using (beq_iff_eq.1 hbad.2).symm))
      clear hb1 hb0 hbad hi hx3 hbox hbox2
      go_wp2_with fail
      go_ret
      exact ⟨by rw [HA.out]; rfl, HX3.out⟩
    | false =>
      obtain ⟨hgd, hx3⟩ := hb0 rfl
      have HX3 := Lib.hid (Ext.trans HXX.out hx3)
      have HA := Lib.hid (HYES.out ((noAdj_iff rs).2 fun i hi heq => by
        have h := hgd (i + 1) hi
        unfold goesOn at h
        rw [Nat.add_sub_cancel, heq] at h
        simp at h))
      clear hb1 hb0 hgd hx3 hbox hbox2
      go_wp2_with fail
      go_ret
      exact ⟨by rw [HA.out]; rfl, HX3.out⟩
  · have HNO := Lib.hid (rightR_no he)
    have HC := flatS_no he
    obtain ⟨E, hE, hfs⟩ : ∃ E : Int, (E = 1 ∨ E = 3) ∧ flatS rs = ([], E) := by rcases HC with h | h <;> exact ⟨_, by simp, h⟩
    rw [hfs] at HF
    clear hfs HC he
    rcases hE with rfl | rfl
    all_goals
      go_enter Try.func20, Try.ntmps20
      go_wp2_with fail
      refine (HF.out _ HX1.out).mono ?_
      rintro e w2 ⟨rfl, hx2⟩
      have HX2 := Lib.hid (Ext.trans HX1.out hx2)
      clear hx2
      go_wp2_with fail
      go_ret
      exact ⟨by rw [HNO.out]; rfl, HX2.out⟩

theorem pRight9_any (u : Value) (rs : List Sp) (w : World) (hu : InSp w u rs) :
    Calls Try.prog 20 #[u] w fun e w' => e = .returned (.bool (rightR rs)) ∧ Ext w w' := rightRd9_any u rs w hu.rd hu.fits

end Go.Proofs.Ythjkfkajkbaegaa
