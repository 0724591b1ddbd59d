/-
  Texts of this proof, merged.
-/
import Derived.Deep.CutRange
import Derived.Test.YtaoegcakefodaaaGreatZ1
import Derived.Test.YtaoegcakefodaaaGreatZ2
import Derived.Test.YtaoegcakefodaaaGreatZ3
import Derived.Test.YtaoegcakefodaaaGreatZ4
import Derived.Test.YtaoegcakefodaaaGreatZ5
import Derived.Test.YtaoegcakefodaaaGreatZ6
import Derived.Test.YtaoegcakefodaaaGreatZ7
import Derived.Test.YtaoegcakefodaaaGreatZ8
import Derived.Test.YtaoegcakefodaaaGreatZ9
import Derived.Test.YtaoegcakefodaaaGreatZ10
import Derived.Test.YtaoegcakefodaaaGreatZ11
import Derived.Test.YtaoegcakefodaaaGreatZ12
namespace Go.Proofs.YtaoegcakefodaaaGreat
open Go.RowKit Go.BigFrame
def Wri (X : Nat → Prop) (w : World) (f p : Nat) (W : Wr17) : Prop := ∃ vi vr, WrT (2000 * W.many) w f p W vi vr ∧ W.buf.length < 56 ∧ W.many ≤ 10000000 ∧ X = ownW f vi vr
theorem Wri.lt {X : Nat → Prop} {w : World} {f p : Nat} {W : Wr17} (h : Wri X w f p W) {b : Nat} (hb : X b) : b < w.heap.size := by
  obtain ⟨vi, vr, h1, -, -, rfl⟩ := h
  exact h1.lt hb
theorem Wri.keep {X Y : Nat → Prop} {w w' : World} {f p : Nat} {W : Wr17} (h : Wri X w f p W) (hw : OnlyS Y w w') (h1 : ∀ b, Y b → ¬ X b) : Wri X w' f p W := by
  obtain ⟨vi, vr, h2, h3, h4, rfl⟩ := h
  exact ⟨vi, vr, h2.keep hw h1, h3, h4, rfl⟩
theorem Wri.off {w : World} {f : Nat} (p : Nat) (h : Blk w f [.pointer none, .slice none 0 0, .slice none 0 0, .int .i64 0] 145) : Wri (fun b => b = f) w f p offW := by
  refine ⟨_, _, WrT.ended w f p h, by simp [offW], by simp [offW], ?_⟩
  funext b
  unfold ownW
  simp [Value.ownBlock]
set_option maxRecDepth 100000 in
theorem pNew17_any (p : Nat) (w : World) :
    Calls Tryz.prog 81 #[.pointer (some ⟨p, 0, none⟩)] w fun e w' => (∃ f X, e = .returned (.pointer (some ⟨f, 0, none⟩)) ∧ Wri X w' f p newW ∧ ∀ b, X b → w.heap.size ≤ b) ∧ Ext w w' := by
  go_enter Tryz.func81, Tryz.ntmps81
  go_wp2_with fail
  go_ret
  refine ⟨⟨w.heap.size, ownW w.heap.size (.slice none 0 0) (.slice none 0 0), rfl, ⟨_, _, ⟨Blk.new w _ _, owns_nil _ _ _ _, OwnT.nil _ _ _, fun _ hk => (by cases hk), ⟨Nat.zero_le _, fun i hi => by simp [newW] at hi⟩, fun h => by cases h⟩, by simp [newW], by simp [newW], rfl⟩, fun b hb => ?_⟩, ext_new _ _⟩
  rcases hb with rfl | hb | hb
  · exact Nat.le_refl _
  · cases hb
  · cases hb
theorem pCancel17_any (O X : Nat → Prop) (f p : Nat) (s : St) (W : Wr17) (w : World) (h : PSto O w p s) (hok : okS s) (hW : Wri X w f p W) (hox : ∀ b, O b → ¬ X b) :
    Calls Tryz.prog 83 #[.pointer (some ⟨f, 0, none⟩)] w fun e w' => ∃ O' X', e = .returned (.tuple #[]) ∧ PSto O' w' p (cancelW s W) ∧ Wri X' w' f p offW ∧
      OnlyS (fun b => O b ∨ X b) w w' ∧ (∀ b, O' b → O b ∨ w.heap.size ≤ b) ∧ (∀ b, X' b → X b ∨ w.heap.size ≤ b) ∧ ∀ b, O' b → ¬ X' b := by
  obtain ⟨vi, vr, hT, -, hm, rfl⟩ := hW
  refine (pCancelT_any _ O f p s W vi vr w h hok hT (by omega) hox).mono ?_
  rintro e w' ⟨O', rfl, h1, h2, h3, h4, h5⟩
  exact ⟨O', _, rfl, h1, Wri.off p h2, h3.mono (fun b _ hb => hb.imp id .inl), h4, fun b hb => .inl (.inl hb), fun b hb e => h5 (e ▸ hb)⟩
def cellLen (w : World) (f j : Nat) : Nat := match w.cell? ⟨f, j, none⟩ with | some (.slice _ n _) => n | _ => 0
theorem cellLen_of {w : World} {f j n c : Nat} {a : Option Addr} (h : w.cell? ⟨f, j, none⟩ = some (.slice a n c)) : cellLen w f j = n := by
  unfold cellLen
  rw [h]
theorem addW_mayR {r : List V} (h : mayR r ≠ 0) (s : St) {W : Wr17} (hon : W.on = true) : addW s W r = ((mayR r, W), s) := by
  unfold addW
  rw [if_neg (by simp [hon]), if_pos h]
set_option maxRecDepth 100000 in
set_option maxHeartbeats 4000000 in
theorem pAdd17_any (O X : Nat → Prop) (f p : Nat) (s : St) (W : Wr17) (u : Value) (r : List V) (w : World) (h : PSto O w p s) (hok : okS s) (hW : Wri X w f p W) (hox : ∀ b, O b → ¬ X b) (hu : ∀ W', OnlyS (fun b => O b ∨ X b) w W' → RdVals W' u r) (hf : FitB [r]) (hm : W.many ≤ 1000000) :
    Calls Tryz.prog 82 #[.pointer (some ⟨f, 0, none⟩), u] w fun e w' => ∃ O' X', e = .returned (.int .i64 (addW s W r).1.1) ∧ PSto O' w' p (addW s W r).2 ∧ Wri X' w' f p (addW s W r).1.2 ∧
      OnlyS (fun b => O b ∨ X b) w w' ∧ (∀ b, O' b → O b ∨ w.heap.size ≤ b) ∧ (∀ b, X' b → X b ∨ w.heap.size ≤ b) ∧ ∀ b, O' b → ¬ X' b := by
  have HWR := Lib.hid hW
  obtain ⟨vi, vr, hT, hb56, hm7, rfl⟩ := hW
  have HEN := Lib.hid (pEnded17_any f _ w (hT.blk.cell 0 _ rfl))
  have HP := Lib.hid h
  have HOX := Lib.hid hox
  have hu0 := hu w (OnlyS.refl _ _)
  obtain ⟨hr400, hfv⟩ := hf.2 r (by simp)
  have HU := Lib.hid (fun W' (hx : Ext w W') => hu W' (OnlyS.of_ext hx))
  have HFV := Lib.hid hfv
  obtain ⟨ao, cap, rfl, hu1, hu2⟩ := hu0.shape
  unfold maxLen at hu2
  cases hon : W.on with
  | false =>
    obtain ⟨hoff, -, -⟩ := hT.off hon
    subst hoff
    have HA := Lib.hid (show addW s offW r = ((2, offW), s) by unfold addW; rw [if_pos (show offW.on = false from rfl)])
    simp only [hon, if_false, Bool.false_eq_true] at HEN
    clear hT h hok hox hon hu hu0 hf hfv
    go_enter Tryz.func82, Tryz.ntmps82
    go_wp2_with fail
    refine HEN.out.mono ?_
    rintro e w' ⟨rfl, rfl⟩
    go_wp2_with fail
    go_ret
    rw [HA.out]
    exact ⟨O, _, rfl, HP.out, HWR.out, OnlyS.refl _ _, fun _ hb => .inl hb, fun _ hb => .inl hb, HOX.out⟩
  | true =>
    simp only [hon, if_true] at HEN
    by_cases h32 : 32 < r.length
    · have HA := Lib.hid (show addW s W r = ((3, W), s) by
        have hmr : mayR r = 3 := by unfold mayR; rw [if_pos h32]
        rw [addW_mayR (by rw [hmr]; decide) s hon, hmr])
      have d1 : decide ((r.length : Int) > 32) = true := decide_eq_true (by omega)
      have d1' : decide (32 < r.length) = true := decide_eq_true h32
      clear hT h hok hox hon hu hu0 hf hfv
      go_enter Tryz.func82, Tryz.ntmps82
      go_wp2_with fail
      refine HEN.out.mono ?_
      rintro e w' ⟨rfl, rfl⟩
      go_wp2_with fail
      go_ret
      rw [HA.out]
      exact ⟨O, _, rfl, HP.out, HWR.out, OnlyS.refl _ _, fun _ hb => .inl hb, fun _ hb => .inl hb, HOX.out⟩
    · have d1 : decide ((r.length : Int) > 32) = false := decide_eq_false (by omega)
      have d1' : decide (32 < r.length) = false := decide_eq_false h32
      have HS := Lib.hid (pWrongs17_any _ r w hu0 hfv)
      rw [wrongs17] at HS
      cases hall : r.all rightV with
      | false =>
        rw [hall] at HS
        have HA := Lib.hid (show addW s W r = ((7, W), s) by
          have hmr : mayR r = 7 := by unfold mayR; rw [if_neg h32, if_neg (by simp [hall])]
          rw [addW_mayR (by rw [hmr]; decide) s hon, hmr])
        clear hT h hok hox hon hu hu0 hf hfv hall
        go_enter Tryz.func82, Tryz.ntmps82
        go_wp2_with fail
        refine HEN.out.mono ?_
        rintro e w' ⟨rfl, rfl⟩
        go_wp2_with fail
        refine HS.out.mono ?_
        rintro e w1 ⟨rfl, hx⟩
        have HX := Lib.hid hx
        clear hx
        go_wp2_with fail
        go_ret
        rw [HA.out]
        exact ⟨O, _, rfl, HP.out.keep (fun b hb => HX.out.block b (HP.out.lt b hb)) HX.out.size, HWR.out.keep (OnlyS.of_ext (X := fun _ => False) HX.out) (fun _ h => h.elim), OnlyS.of_ext HX.out, fun _ hb => .inl hb, fun _ hb => .inl hb, HOX.out⟩
      | true =>
        rw [hall] at HS
        have hmr : mayR r = 0 := by unfold mayR; rw [if_neg h32, if_pos hall]
        have HMR := Lib.hid hmr
        have HEC := Lib.hid (fun W' (hx : Ext w W') => pEncoded17_any _ r W' (HU.out W' hx) hfv hr400)
        have HRL := Lib.hid (rowB_le r)
        have HT := Lib.hid hT
        have HON := Lib.hid hon
        have HOK := Lib.hid hok
        obtain ⟨i5, hi5, hz0, hz1, hz2⟩ := info_parts Tryz.info5
        obtain ⟨ra, rc, rfl, hr1, hr2⟩ := hT.rest.shape
        rw [List.length_map] at hr1 HT HOX HWR ⊢
        unfold maxLen at hr2
        obtain ⟨B, hB⟩ : ∃ B, B = rowB r := ⟨_, rfl⟩
        rw [← hB] at HEC HRL
        have HBB := Lib.hid hB
        clear hT h hok hox hon hu hu0 hf hfv hall hmr hB
        go_enter Tryz.func82, Tryz.ntmps82
        go_wp2_with fail
        refine HEN.out.mono ?_
        rintro e w' ⟨rfl, rfl⟩
        go_wp2_with fail
        refine HS.out.mono ?_
        rintro e w1 ⟨rfl, hx⟩
        have HX1 := Lib.hid hx
        clear hx
        go_wp2_with fail
        go_cut [20] from 13 to 22 (fun _ W2 => ∃ vr2, WrT (2000 * W.many) W2 f p ⟨W.ids, W.buf ++ B, W.many, true⟩ vi vr2 ∧ OnlyS (ownW f vi (.slice ra W.buf.length rc)) w W2 ∧ ∀ b, ownW f vi vr2 b → ownW f vi (.slice ra W.buf.length rc) b ∨ w.heap.size ≤ b)
        case first =>
          have HB1 := Lib.hid (HT.out.blk.ext HX1.out)
          have HSF0 := Lib.hid (show f + 1 ≤ w.heap.size from HT.out.blk.lt)
          have HTE := Lib.hid (fun W' (hx : Ext w W') => HT.out.keep (OnlyS.of_ext (X := fun _ => False) hx) (fun _ h => h.elim))
          have c2 := (HB1.out.ext (Ext.drew w1)).cell 2 _ rfl
          have HFIN := Lib.hid (fun (w2 w5 : World) (va : Option Addr) (vc m : Nat) (hx : Ext w w2) (ho : OwnT (f + 1) 5 w5 (.slice va m vc) (W.buf.map bv ++ B.map bv)) (hg : ∀ k, (Value.slice va m vc).ownBlock = some k → (Value.slice ra W.buf.length rc).ownBlock = some k ∨ (w2.heap.size ≤ k ∧ k < w5.heap.size)) (he : OnlyS (fun k => (Value.slice ra W.buf.length rc).ownBlock = some k ∧ f + 1 ≤ k) w2 w5) (hk : ∀ (b' n' : Nat) (e' : TypeId) (u' : Value) (ys : List Value), 5 ≠ e' → w2.ownsRow b' e' 1 u' n' ys → w5.ownsRow b' e' 1 u' n' ys) => by
            have hT2 := HTE.out w2 hx
            have hb5 := (hT2.blk.onlyS he (fun e => by omega)).set 2 (.slice va m vc)
            have hs := OnlyS.set0 f 2 w5 (.slice va m vc)
            have hon := HON.out
            rw [if_pos hon] at hb5
            refine (⟨_, ⟨hb5, own_onlyS (hk _ _ _ _ _ (by decide) hT2.ids) hs (fun k hk e => by have := (hT2.ids.lt k hk).1; omega), ?_, fun k hk => ⟨?_, ?_⟩, hT2.few, fun h => by cases h⟩, ?_, fun b hb => ?_⟩ : ∃ vr2, WrT (2000 * W.many) (w5.setCell ⟨f, 2, none⟩ (.slice va m vc)) f p ⟨W.ids, W.buf ++ B, W.many, true⟩ vi vr2 ∧ OnlyS (ownW f vi (.slice ra W.buf.length rc)) w (w5.setCell ⟨f, 2, none⟩ (.slice va m vc)) ∧ ∀ b, ownW f vi vr2 b → ownW f vi (.slice ra W.buf.length rc) b ∨ w.heap.size ≤ b)
            · rw [List.map_append]
              exact ho.beside hs (fun k e => .inl (by omega))
            · rcases hg k hk with h1 | h1
              · exact (HT.out.rin k h1).1
              · have := HSF0.out
                have := hx.size
                omega
            · rcases hg k hk with h1 | h1
              · have := (hT2.rin k h1).2
                have := he.size
                have := hs.size
                omega
              · exact Nat.lt_of_lt_of_le h1.2 hs.size
            · refine OnlyS.trans (OnlyS.of_ext hx) (OnlyS.trans (he.mono fun b _ hb => (.inr (.inr hb.1) : ownW f vi (.slice ra W.buf.length rc) b)) (hs.mono fun b _ hb => (.inl hb : ownW f vi (.slice ra W.buf.length rc) b)) fun _ _ h => h) fun _ _ h => h
            · rcases hb with hb | hb | hb
              · exact .inl (.inl hb)
              · exact .inl (.inr (.inl hb))
              · rcases hg b hb with h1 | h1
                · exact .inl (.inr (.inr h1))
                · exact .inr (Nat.le_trans hx.size h1.1))
          refine wp_region_plan (OnlyS (ownW f vi (.slice ra W.buf.length rc))) (OnlyS.keeps _) (.quiet [0, 1, 2, 3, 5] (.two 4 (.one 6 (.one 7 (.quiet [8, 9] (.one 10 .done)))) 6 (.one 4 (.one 7 (.quiet [8, 9] (.one 10 .done)))))) (by kernel_rfl) (by kernel_rfl) (fun c a a' w e h => (by exact ⟨e ▸ h.1, h.2⟩)) ?_
          refine wpPlan_quiet fun K0 hK0 => ?_
          simp only [pickOps, List.map_cons, List.map_nil, Option.getD_some, List.getElem?_toArray, List.getElem?_cons_zero, List.getElem?_cons_succ]
          repeat go_big_quiet_step (fail)
          refine wpQuiet_nil (hK0 _ ?_)
          clear hK0 K0
          refine wpPlan_two (fun K1 hK1 => ?_) (fun K1 hK1 => ?_)
          · simp only [pickOps, List.map_cons, List.map_nil, Option.getD_some, List.getElem?_toArray, List.getElem?_cons_zero, List.getElem?_cons_succ]
            go_wp2_with fail
            refine ⟨OnlyS.refl _ _, hK1 _ _ ?_⟩
            clear hK1 K1
            refine wpPlan_one fun K1 hK1 => ?_
            simp only [pickOps, List.map_cons, List.map_nil, Option.getD_some, List.getElem?_toArray, List.getElem?_cons_zero, List.getElem?_cons_succ]
            go_wp2_with fail
            refine (HEC.out w1.drew (Ext.trans HX1.out (Ext.drew w1))).mono ?_
            rintro e w2 ⟨v2, rfl, ho2, x2⟩
            rw [List.length_map] at ho2
            have HR2 := Lib.hid (show Rd w2 v2 B from RdV.of_owns ho2)
            have HX2 := Lib.hid (Ext.trans HX1.out (Ext.trans (Ext.drew w1) x2))
            have HT2 := Lib.hid (HTE.out w2 HX2.out)
            have HSF := Lib.hid (show f + 1 ≤ w2.heap.size from HT2.out.blk.lt)
            obtain ⟨ea, ec, rfl, -, -⟩ := own_shapeP ho2
            have HX2b := Lib.hid x2
            clear ho2 x2
            go_wp2_with fail
            refine ⟨OnlyS.of_ext HX2b.out, hK1 _ _ ?_⟩
            clear hK1 K1
            refine wpPlan_one fun K1 hK1 => ?_
            simp only [pickOps, List.map_cons, List.map_nil, Option.getD_some, List.getElem?_toArray, List.getElem?_cons_zero, List.getElem?_cons_succ]
            go_wp2_with (at_builtin; go_must (refine wpList_append_tailG rfl (.tmp 17) (.tmp 19) 36 rfl (f + 1) 5 i5 (.int .u8 0) 1 Tryz.underlying36 hi5 hz0 hz1 hz2 rfl _ (W.buf.map bv) rfl HT2.out.rest _ (B.map bv) rfl HR2.out (bv_oneCell B) (by have := HRL.out; simp only [List.length_map]; unfold maxLen; omega) (by have := HRL.out; simp only [List.length_map]; omega) HSF.out ?_); intro v5 w5 h5a h5b h5c h5d h5e; obtain ⟨va, vc, rfl, -, -⟩ := h5a.shape; have HO5 := Lib.hid h5a; have HG5 := Lib.hid h5b; have HE5 := Lib.hid h5d; have HK5 := Lib.hid h5e; clear h5a h5b h5c h5d h5e)
            have HB5 := Lib.hid (HT2.out.blk.onlyS HE5.out (fun e => by omega))
            refine ⟨HE5.out.mono fun b _ hb => .inr (.inr hb.1), hK1 _ _ ?_⟩
            clear hK1 K1
            simp only [Act.put, List.setIfInBounds_toArray, List.set]
            refine wpPlan_quiet fun K3 hK3 => ?_
            simp only [pickOps, List.map_cons, List.map_nil, Option.getD_some, List.getElem?_toArray, List.getElem?_cons_zero, List.getElem?_cons_succ]
            repeat go_big_quiet_step (fail)
            refine wpQuiet_nil (hK3 _ ?_)
            clear hK3 K3
            have d2 := HB5.out.cell 2 _ rfl
            have fz := HB5.out.free 2
            refine wpPlan_one fun K1 hK1 => ?_
            simp only [pickOps, List.map_cons, List.map_nil, Option.getD_some, List.getElem?_toArray, List.getElem?_cons_zero, List.getElem?_cons_succ]
            go_wp2_with fail
            refine ⟨(OnlyS.set0 f 2 w5 _).mono fun b _ hb => .inl hb, hK1 _ _ ?_⟩
            clear hK1 K1
            refine wpPlan_done ?_
            go_wp2_with fail
            go_meet
            have hfin := HFIN.out w2 w5 va vc _ HX2.out HO5.out HG5.out HE5.out HK5.out
            rw [List.length_append, List.length_map, List.length_map] at hfin
            exact hfin
          · simp only [pickOps, List.map_cons, List.map_nil, Option.getD_some, List.getElem?_toArray, List.getElem?_cons_zero, List.getElem?_cons_succ]
            go_wp2_with fail
            refine (HEC.out w1.drew (Ext.trans HX1.out (Ext.drew w1))).mono ?_
            rintro e w2 ⟨v2, rfl, ho2, x2⟩
            rw [List.length_map] at ho2
            have HR2 := Lib.hid (show Rd w2 v2 B from RdV.of_owns ho2)
            have HX2 := Lib.hid (Ext.trans HX1.out (Ext.trans (Ext.drew w1) x2))
            have HT2 := Lib.hid (HTE.out w2 HX2.out)
            have HSF := Lib.hid (show f + 1 ≤ w2.heap.size from HT2.out.blk.lt)
            obtain ⟨ea, ec, rfl, -, -⟩ := own_shapeP ho2
            have HX2b := Lib.hid x2
            have c2' := HT2.out.blk.cell 2 _ rfl
            clear ho2 x2
            go_wp2_with fail
            refine ⟨OnlyS.of_ext HX2b.out, hK1 _ _ ?_⟩
            clear hK1 K1
            refine wpPlan_one fun K1 hK1 => ?_
            simp only [pickOps, List.map_cons, List.map_nil, Option.getD_some, List.getElem?_toArray, List.getElem?_cons_zero, List.getElem?_cons_succ]
            go_wp2_with fail
            refine ⟨OnlyS.refl _ _, hK1 _ _ ?_⟩
            clear hK1 K1 c2'
            refine wpPlan_one fun K1 hK1 => ?_
            simp only [pickOps, List.map_cons, List.map_nil, Option.getD_some, List.getElem?_toArray, List.getElem?_cons_zero, List.getElem?_cons_succ]
            go_wp2_with (at_builtin; go_must (refine wpList_append_tailG rfl (.tmp 17) (.tmp 19) 36 rfl (f + 1) 5 i5 (.int .u8 0) 1 Tryz.underlying36 hi5 hz0 hz1 hz2 rfl _ (W.buf.map bv) rfl HT2.out.rest _ (B.map bv) rfl HR2.out (bv_oneCell B) (by have := HRL.out; simp only [List.length_map]; unfold maxLen; omega) (by have := HRL.out; simp only [List.length_map]; omega) HSF.out ?_); intro v5 w5 h5a h5b h5c h5d h5e; obtain ⟨va, vc, rfl, -, -⟩ := h5a.shape; have HO5 := Lib.hid h5a; have HG5 := Lib.hid h5b; have HE5 := Lib.hid h5d; have HK5 := Lib.hid h5e; clear h5a h5b h5c h5d h5e)
            have HB5 := Lib.hid (HT2.out.blk.onlyS HE5.out (fun e => by omega))
            refine ⟨HE5.out.mono fun b _ hb => .inr (.inr hb.1), hK1 _ _ ?_⟩
            clear hK1 K1
            simp only [Act.put, List.setIfInBounds_toArray, List.set]
            refine wpPlan_quiet fun K3 hK3 => ?_
            simp only [pickOps, List.map_cons, List.map_nil, Option.getD_some, List.getElem?_toArray, List.getElem?_cons_zero, List.getElem?_cons_succ]
            repeat go_big_quiet_step (fail)
            refine wpQuiet_nil (hK3 _ ?_)
            clear hK3 K3
            have d2 := HB5.out.cell 2 _ rfl
            have fz := HB5.out.free 2
            refine wpPlan_one fun K1 hK1 => ?_
            simp only [pickOps, List.map_cons, List.map_nil, Option.getD_some, List.getElem?_toArray, List.getElem?_cons_zero, List.getElem?_cons_succ]
            go_wp2_with fail
            refine ⟨(OnlyS.set0 f 2 w5 _).mono fun b _ hb => .inl hb, hK1 _ _ ?_⟩
            clear hK1 K1
            refine wpPlan_done ?_
            go_wp2_with fail
            go_meet
            have hfin := HFIN.out w2 w5 va vc _ HX2.out HO5.out HG5.out HE5.out HK5.out
            rw [List.length_append, List.length_map, List.length_map] at hfin
            exact hfin
        case rest =>
          obtain ⟨vr2, hT3, ho3, hx3⟩ := hcut
          generalize wc = w3 at hT3 ho3 hx3 ⊢
          obtain ⟨T, hTe⟩ : ∃ T, T = W.buf ++ B := ⟨_, rfl⟩
          rw [← hTe] at hT3
          have HTE := Lib.hid hTe
          have HTL := Lib.hid (show T.length ≤ 900000 by have := HRL.out; rw [hTe, List.length_append]; omega)
          have HP3 := Lib.hid (HP.out.onlyS ho3 (fun b hb hx => HOX.out b hb hx))
          have HT3 := Lib.hid hT3
          have HD3 := Lib.hid (show Duo O (ownW f vi (.slice ra W.buf.length rc)) w O (ownW f vi vr2) w3 from ⟨ho3.mono fun _ _ h => .inr h, fun _ hb => .inl hb, hx3, fun b hb hw => by
            rcases hx3 b hw with h1 | h1
            · exact HOX.out b hb h1
            · have := HP.out.lt b hb
              omega⟩)
          clear hT3 ho3 hx3 hTe
          have HUS := Lib.hid (show usedS s ≤ s.length from List.countP_le_length)
          have HA := Lib.hid (show addW s W r = if T.length / 56 + usedS s ≤ s.length then ((0, ⟨W.ids ++ idsK s (T.length / 56), T.drop (56 * (T.length / 56)), W.many + 1, true⟩), storeK s T (T.length / 56)) else ((4, offW), dropS s (intsN W.ids)) by
            unfold addW
            rw [if_neg (by simp [HON.out]), if_neg (by simp [HMR.out]), HTE.out, HBB.out])
          go_wp2_with fail
          go_loopw [5] (fun _ wr => ∃ (j : Nat) (O' : Nat → Prop) (vi' vr' : Value), 56 * j ≤ T.length ∧ j + usedS s ≤ s.length ∧ PSto O' wr p (storeK s T j) ∧ WrT (2000 * W.many + j) wr f p ⟨W.ids ++ idsK s j, T.drop (56 * j), W.many, true⟩ vi' vr' ∧ Duo O (ownW f vi (.slice ra W.buf.length rc)) w O' (ownW f vi' vr') wr) (fun _ wr => cellLen wr f 2)
          case atStart =>
            refine ⟨0, O, vi, vr2, Nat.zero_le _, by have := HUS.out; omega, ?_, ?_, HD3.out⟩
            · rw [(storeK_zero s T).2]
              exact HP3.out
            · rw [(storeK_zero s T).1, List.append_nil, Nat.mul_zero, List.drop_zero, Nat.add_zero]
              exact HT3.out
          case round =>
            obtain ⟨j, O', vi', vr', hjT, hju, hp4, hT4, hd4⟩ := hrel
            obtain ⟨ra4, rc4, rfl, hr41, hr42⟩ := hT4.rest.shape
            have HP4 := Lib.hid hp4
            have HD4 := Lib.hid hd4
            have hlen4 : ((T.drop (56 * j)).map bv).length = T.length - 56 * j := by rw [List.length_map, List.length_drop]
            rw [hlen4] at hr41 hT4 HD4
            have HRL4 := Lib.hid (cellLen_of (hT4.blk.cell 2 _ rfl))
            have HT4 := Lib.hid hT4
            have hb4 := hT4.blk
            have c2 := hb4.cell 2 _ rfl
            have c3 := hb4.cell 3 _ rfl
            have fz := hb4.free
            unfold maxLen at hr42
            have hsl := storeK_length s T j
            have hsu := storeK_used (b := T) hju
            have HTJ := Lib.hid hjT
            have HJU := Lib.hid hju
            clear hp4 hd4 hT4 hb4 hlen4 hju
            by_cases h56 : 56 ≤ T.length - 56 * j
            · have d5 : decide (((T.length - 56 * j : Nat) : Int) ≥ 56) = true := decide_eq_true (by omega)
              have d5' : decide (56 ≤ T.length - 56 * j) = true := decide_eq_true h56
              by_cases hroom : 1 + usedS (storeK s T j) ≤ (storeK s T j).length
              · have HLAY := Lib.hid (pLayRoom17_any _ O' f p 56 (storeK s T j) _ vi' _ wr HP4.out (storeK_ok HOK.out T j) HT4.out rfl (by have := HTL.out; omega) HD4.out.apart hroom (by simpa using h56) rfl (by have := HTL.out; simp only [List.length_drop]; omega))
                rw [hsl, hsu] at hroom
                clear hsl hsu c3 fz
                go_wp2_with fail
                refine HLAY.out.mono ?_
                rintro e w5 ⟨O5, vi5, vr5, rfl, hp5, hT5, hd5⟩
                have HP5 := Lib.hid hp5
                have HT5 := Lib.hid hT5
                have HD5 := Lib.hid (HD4.out.trans hd5)
                clear hp5 hT5 hd5
                go_wp2_with fail
                go_roundw
                case rel =>
                  refine ⟨j + 1, O5, vi5, vr5, by omega, by omega, ?_, ?_, HD5.out⟩
                  · rw [storeK_add T 1 HJU.out]
                    exact HP5.out
                  · have h1 := HT5.out
                    simp only [List.append_assoc] at h1
                    rw [← idsK_add s T j 1, List.drop_drop] at h1
                    exact h1
                case measure =>
                  obtain ⟨a5, k5, he5, -, -⟩ := HT5.out.rest.shape
                  have h1 := HT5.out.blk.cell 2 _ rfl
                  rw [he5] at h1
                  rw [cellLen_of h1, HRL4.out, List.length_map, List.length_drop, List.length_drop]
                  omega
              · have HLAY := Lib.hid (pLayNone17_any _ O' f p 56 (storeK s T j) _ vi' _ wr HP4.out (storeK_ok HOK.out T j) HT4.out rfl (by have := HTL.out; omega) HD4.out.apart hroom)
                rw [hsl, hsu] at hroom
                clear hsl hsu c3 fz
                go_wp2_with fail
                refine HLAY.out.mono ?_
                rintro e w5 ⟨O5, rfl, hp5, hb5, ho5, hn5, hx5⟩
                have HP5 := Lib.hid hp5
                have HB5 := Lib.hid hb5
                have HO5 := Lib.hid ho5
                have HN5 := Lib.hid hn5
                have HX5 := Lib.hid hx5
                clear hp5 hb5 ho5 hn5 hx5
                go_wp2_with fail
                go_ret
                have hd : Duo O (ownW f vi (.slice ra W.buf.length rc)) w O5 (fun b => b = f) w5 := HD4.out.trans ⟨HO5.out.mono fun b _ hb => hb.imp id .inl, HN5.out, fun b hb => .inl (.inl hb), fun b hb e => HX5.out (e ▸ hb)⟩
                rw [HA.out, if_neg (by omega)]
                refine ⟨O5, fun b => b = f, rfl, ?_, Wri.off p HB5.out, hd.only, hd.os, hd.xs, hd.apart⟩
                have h1 := HP5.out
                rwa [dropS_taken] at h1
            · have d5 : decide (((T.length - 56 * j : Nat) : Int) ≥ 56) = false := decide_eq_false (by omega)
              have d5' : decide (56 ≤ T.length - 56 * j) = false := decide_eq_false h56
              go_wp2_with fail
              go_ret
              have hk : T.length / 56 = j := by have := HTJ.out; omega
              have hju := HJU.out
              have hs := OnlyS.set0 f 3 wr (.int .i64 ((W.many : Int) + 1))
              have hxf : ∀ b, b = f → ¬ O' b := fun b e hO => HD4.out.apart b hO (.inl e)
              have hd : Duo O (ownW f vi (.slice ra W.buf.length rc)) w O' (ownW f vi' (.slice ra4 (T.length - 56 * j) rc4)) (wr.setCell ⟨f, 3, none⟩ (.int .i64 ((W.many : Int) + 1))) := HD4.out.trans ⟨hs.mono fun b _ hb => .inr (.inl hb), fun _ hb => .inl hb, fun _ hb => .inl hb, HD4.out.apart⟩
              rw [HA.out, hk, if_pos (by omega)]
              refine ⟨rfl, O', HP4.out.onlyS hs (fun b hb e => hxf b e hb), _, ⟨vi', _, ⟨HT4.out.blk.set 3 _, own_onlyS HT4.out.ids hs (fun k hk2 e => by have := (HT4.out.ids.lt k hk2).1; omega), HT4.out.rest.beside hs (fun k e => .inl (by omega)), fun k hk2 => ⟨(HT4.out.rin k hk2).1, Nat.lt_of_lt_of_le (HT4.out.rin k hk2).2 hs.size⟩, ⟨?_, HT4.out.few.2⟩, fun h => by cases h⟩, ?_, ?_, rfl⟩, hd.only, hd.os, hd.xs, hd.apart⟩
              · have h1 := HT4.out.few.1
                have h2 := HTL.out
                have h3 := HRL.out
                have h4 : T.length = W.buf.length + B.length := by rw [HTE.out, List.length_append]
                simp only at h1 ⊢
                omega
              · simp only [List.length_drop]
                omega
              · simp only
                omega
end Go.Proofs.YtaoegcakefodaaaGreat

namespace Go.Proofs.YtaoegcakefodaaaGreat
open Go.RowKit Go.BigFrame
def Wk5 (w : World) (t p q : Nat) (K : Value) (held : Int) (R : Value) : Prop := Blk w t [.pointer (some ⟨p, 0, none⟩), .pointer (some ⟨q, 0, none⟩), K, .int .i64 held, R] 82
def Took18 (t p q : Nat) (K : Value) (held : Int) (R : Value) (pu : Pu) (n : Int) (w : World) (e : Ending) (w' : World) : Prop :=
  OnlyS (fun b => b = q ∨ b = t) w w' ∧ ((n ≤ pu.most - pu.now ∧ e = .returned (.int .i64 0) ∧ (∃ pk, PurS w' q ⟨pu.most, pu.now + n, pk⟩) ∧ Wk5 w' t p q K (held + n) R) ∨ (pu.most - pu.now < n ∧ e = .returned (.int .i64 5) ∧ PurS w' q pu ∧ Wk5 w' t p q K held R))
set_option maxRecDepth 100000 in
set_option maxHeartbeats 1000000 in
theorem pTake18_any (t p q : Nat) (K R : Value) (held : Int) (pu : Pu) (u : Value) (r : List V) (w : World) (hb : Wk5 w t p q K held R) (hp : PurS w q pu) (hne : q ≠ t) (hu : RdVals w u r) (hc : rowCost r ≤ 1000000000) (h0 : 0 ≤ held) (h1 : held ≤ 1048576) :
    Calls Tryz.prog 65 #[.pointer (some ⟨t, 0, none⟩), u] w (Took18 t p q K held R pu (rowCost r) w) := by
  obtain ⟨ao, cap, rfl, -, -⟩ := hu.shape
  have hpos := rowCost_pos r
  have HROW := Lib.hid (purRow_any _ r w hu (by omega))
  obtain ⟨n, hn⟩ : ∃ n, rowCost r = n := ⟨_, rfl⟩
  rw [hn] at HROW hc hpos ⊢
  have HB := Lib.hid hb
  have HP := Lib.hid hp
  have HNE := Lib.hid hne
  clear hb hp hne hn hu
  have HTK := Lib.hid (fun w1 (hx : Ext w w1) => purTake_any n (HP.out.ext hx) ⟨by omega, by omega⟩)
  by_cases hroom : pu.most - pu.now < n
  · have HT := Lib.hid (show takeP pu n = (5, pu) by unfold takeP; rw [if_neg (by omega), if_pos hroom])
    rw [HT.out] at HTK
    have HR := Lib.hid hroom
    clear hroom
    go_enter Tryz.func65, Tryz.ntmps65
    go_wp2_with fail
    refine HROW.out.mono ?_
    rintro e w1 ⟨rfl, hx⟩
    have HX := Lib.hid hx
    have c1 := (HB.out.ext hx).cell 1 _ rfl
    clear hx
    go_wp2_with fail
    refine (HTK.out w1 HX.out).mono ?_
    rintro e w2 ⟨rfl, hp2, ho2⟩
    have HP2 := Lib.hid hp2
    have HO2 := Lib.hid ho2
    clear hp2 ho2 c1
    go_wp2_with fail
    go_ret
    have hs : OnlyS (fun b => b = q ∨ b = t) w w2 := OnlyS.trans (OnlyS.of_ext HX.out) (OnlyS.of_onlyP HO2.out (.inl rfl)) fun _ _ h => h
    exact ⟨hs, .inr ⟨HR.out, rfl, HP2.out, (HB.out.ext HX.out).onlyS (OnlyS.of_onlyP (X := fun b => b = q) HO2.out rfl) fun e => HNE.out e.symm⟩⟩
  · have HT := Lib.hid (show takeP pu n = (0, ⟨pu.most, pu.now + n, max pu.peak (pu.now + n)⟩) by unfold takeP; rw [if_neg (by omega), if_neg hroom])
    rw [HT.out] at HTK
    have HR := Lib.hid (show n ≤ pu.most - pu.now by omega)
    clear hroom
    go_enter Tryz.func65, Tryz.ntmps65
    go_wp2_with fail
    refine HROW.out.mono ?_
    rintro e w1 ⟨rfl, hx⟩
    have HX := Lib.hid hx
    have c1 := (HB.out.ext hx).cell 1 _ rfl
    clear hx
    go_wp2_with fail
    refine (HTK.out w1 HX.out).mono ?_
    rintro e w2 ⟨rfl, hp2, ho2⟩
    have HP2 := Lib.hid hp2
    have HO2 := Lib.hid ho2
    have HB2 := Lib.hid ((HB.out.ext HX.out).onlyS (OnlyS.of_onlyP (X := fun b => b = q) ho2 rfl) fun e => HNE.out e.symm)
    clear hp2 ho2 c1
    have c3 := HB2.out.cell 3 _ rfl
    have f3 := HB2.out.free 3
    go_wp2_with fail
    go_ret
    have hs3 := OnlyS.set0 t 3 w2 (.int .i64 (held + n))
    refine ⟨OnlyS.trans (OnlyS.of_ext HX.out) (OnlyS.trans (OnlyS.of_onlyP HO2.out (.inl rfl)) (hs3.mono fun b _ h => .inr h) fun _ _ h => h) fun _ _ h => h, .inl ⟨HR.out, rfl, ⟨_, HP2.out.onlyS hs3 HNE.out⟩, HB2.out.set 3 _⟩⟩
set_option maxRecDepth 100000 in
set_option maxHeartbeats 1000000 in
theorem pGive18_any (t p q : Nat) (K R : Value) (held : Int) (pu : Pu) (u : Value) (r : List V) (w : World) (hb : Wk5 w t p q K held R) (hp : PurS w q pu) (hne : q ≠ t) (hu : RdVals w u r) (hc : rowCost r ≤ held) (h1 : held ≤ pu.now) :
    Calls Tryz.prog 90 #[.pointer (some ⟨t, 0, none⟩), u] w fun e w' => e = .returned (.tuple #[]) ∧ OnlyS (fun b => b = q ∨ b = t) w w' ∧ PurS w' q ⟨pu.most, pu.now - rowCost r, pu.peak⟩ ∧ Wk5 w' t p q K (held - rowCost r) R := by
  obtain ⟨ao, cap, rfl, -, -⟩ := hu.shape
  have hpos := rowCost_pos r
  have hpk := hp.ok
  have h2 : pu.now ≤ 1048576 := by have := hpk.n1; have := hpk.m1; omega
  have HROW := Lib.hid (purRow_any _ r w hu (by omega))
  obtain ⟨n, hn⟩ : ∃ n, rowCost r = n := ⟨_, rfl⟩
  rw [hn] at HROW hc hpos ⊢
  have HB := Lib.hid hb
  have HP := Lib.hid hp
  have HNE := Lib.hid hne
  clear hb hp hne hn hu hpk
  have HTK := Lib.hid (fun w1 (hx : Ext w w1) => purGive_any n (HP.out.ext hx) ⟨by omega, by omega⟩)
  have HT := Lib.hid (show giveP pu n = (0, ⟨pu.most, pu.now - n, pu.peak⟩) by unfold giveP; rw [if_neg (by omega)])
  rw [HT.out] at HTK
  go_enter Tryz.func90, Tryz.ntmps90
  go_wp2_with fail
  refine HROW.out.mono ?_
  rintro e w1 ⟨rfl, hx⟩
  have HX := Lib.hid hx
  have c1 := (HB.out.ext hx).cell 1 _ rfl
  clear hx
  go_wp2_with fail
  refine (HTK.out w1 HX.out).mono ?_
  rintro e w2 ⟨rfl, hp2, ho2⟩
  have HP2 := Lib.hid hp2
  have HO2 := Lib.hid ho2
  have HB2 := Lib.hid ((HB.out.ext HX.out).onlyS (OnlyS.of_onlyP (X := fun b => b = q) ho2 rfl) fun e => HNE.out e.symm)
  clear hp2 ho2 c1
  have c3 := HB2.out.cell 3 _ rfl
  have f3 := HB2.out.free 3
  go_wp2_with fail
  go_end0
  have hs3 := OnlyS.set0 t 3 w2 (.int .i64 (held - n))
  exact ⟨rfl, OnlyS.trans (OnlyS.of_ext HX.out) (OnlyS.trans (OnlyS.of_onlyP HO2.out (.inl rfl)) (hs3.mono fun b _ h => .inr h) fun _ _ h => h) fun _ _ h => h, HP2.out.onlyS hs3 HNE.out, HB2.out.set 3 _⟩
set_option maxRecDepth 100000 in
set_option maxHeartbeats 1000000 in
theorem pGiveAll18_any (t p q : Nat) (K R : Value) (held : Int) (pu : Pu) (w : World) (hb : Wk5 w t p q K held R) (hp : PurS w q pu) (hne : q ≠ t) (h0 : 0 ≤ held) (h1 : held ≤ pu.now) :
    Calls Tryz.prog 63 #[.pointer (some ⟨t, 0, none⟩)] w fun e w' => e = .returned (.tuple #[]) ∧ OnlyS (fun b => b = q ∨ b = t) w w' ∧ PurS w' q ⟨pu.most, pu.now - held, pu.peak⟩ ∧ Wk5 w' t p q K 0 R := by
  have hpk := hp.ok
  have h2 : pu.now ≤ 1048576 := by have := hpk.n1; have := hpk.m1; omega
  have HB := Lib.hid hb
  have HP := Lib.hid hp
  have HNE := Lib.hid hne
  clear hb hp hne hpk
  have HTK := Lib.hid (purGive_any held (HP.out.ext (Ext.drew w)) ⟨by omega, by omega⟩)
  have HT := Lib.hid (show giveP pu held = (0, ⟨pu.most, pu.now - held, pu.peak⟩) by unfold giveP; rw [if_neg (by omega)])
  rw [HT.out] at HTK
  have HBZ := Lib.hid (fun z : Later (OnlyP q) w.drew => (HB.out.ext (Ext.drew w)).onlyS (OnlyS.of_onlyP (X := fun b => b = q) z.ext rfl) fun e => HNE.out e.symm)
  have a1 : ∀ z : Later (OnlyP q) w.drew, z.val.cell? ⟨t, 1, none⟩ = some (.pointer (some ⟨q, 0, none⟩)) := fun z => (HBZ.out z).cell 1 _ rfl
  have a3 : ∀ z : Later (OnlyP q) w.drew, z.val.cell? ⟨t, 3, none⟩ = some (.int .i64 held) := fun z => (HBZ.out z).cell 3 _ rfl
  have HXD := Lib.hid (Ext.drew w)
  go_enter Tryz.func63, Tryz.ntmps63
  go_wp2_with fail
  refine wp_region_segs (OnlyP q) (OnlyP.keeps q) [([0, 1, 2, 3, 4, 5, 6, 7], some 8)] (by kernel_rfl) (by kernel_rfl) (fun c a a' w e h => (by exact ⟨e ▸ h.1, h.2⟩)) ?_
  simp only [pickSegs, pickOps, List.map_cons, List.map_nil, Option.map_some, Option.getD_some, List.getElem?_toArray, List.getElem?_cons_zero, List.getElem?_cons_succ]
  refine wpSegs_some fun K0 hK0 => ?_
  repeat go_big_quiet_step (fail)
  refine wpQuiet_nil ?_
  clear a1 a3
  go_wp2_with fail
  refine HTK.out.mono ?_
  rintro e w2 ⟨rfl, hp2, ho2⟩
  have HP2 := Lib.hid hp2
  have HO2 := Lib.hid ho2
  have HB2 := Lib.hid ((HB.out.ext HXD.out).onlyS (OnlyS.of_onlyP (X := fun b => b = q) ho2 rfl) fun e => HNE.out e.symm)
  clear hp2 ho2
  go_wp2_with fail
  refine ⟨HO2.out, hK0 _ _ (wpSegs_nil ?_)⟩
  clear hK0 K0
  have c3 := HB2.out.cell 3 _ rfl
  have f3 := HB2.out.free 3
  go_wp2_with fail
  go_end0
  have hs3 := OnlyS.set0 t 3 w2 (.int .i64 0)
  exact ⟨rfl, OnlyS.trans (OnlyS.of_ext HXD.out) (OnlyS.trans (OnlyS.of_onlyP HO2.out (.inl rfl)) (hs3.mono fun b _ h => .inr h) fun _ _ h => h) fun _ _ h => h, HP2.out.onlyS hs3 HNE.out, HB2.out.set 3 _⟩
end Go.Proofs.YtaoegcakefodaaaGreat

namespace Go.Proofs.YtaoegcakefodaaaGreat
open Go.RowKit Go.BigFrame
structure FiT (w : World) (f p : Nat) (ids : List Nat) (many : Nat) (vi : Value) : Prop where
  blk : ∃ o, Blk w f [.pointer o, vi, .int .i64 many] 142 ∧ (o = some ⟨p, 0, none⟩ ∨ (o = none ∧ ids = [] ∧ many = 0 ∧ vi = .slice none 0 0))
  row : w.ownsRow 0 3 1 vi ids.length (ivs ids)
  few : ids.length ≤ 100000000000 ∧ (∀ i ∈ ids, i ≤ 4096) ∧ many ≤ 10000000
  ne : vi.ownBlock ≠ some f
def ownF (f : Nat) (vi : Value) (b : Nat) : Prop := b = f ∨ vi.ownBlock = some b
def Fil (F : Nat → Prop) (w : World) (f p : Nat) (ids : List Nat) (many : Nat) : Prop := ∃ vi, FiT w f p ids many vi ∧ F = ownF f vi
theorem FiT.lt {w : World} {f p : Nat} {ids : List Nat} {many : Nat} {vi : Value} (h : FiT w f p ids many vi) {b : Nat} (hb : ownF f vi b) : b < w.heap.size := by
  rcases hb with rfl | hb
  · obtain ⟨o, h1, -⟩ := h.blk
    exact h1.lt
  · exact (h.row.lt b hb).2
theorem FiT.keep {X : Nat → Prop} {w w' : World} {f p : Nat} {ids : List Nat} {many : Nat} {vi : Value} (h : FiT w f p ids many vi) (hw : OnlyS X w w') (h1 : ∀ b, X b → ¬ ownF f vi b) : FiT w' f p ids many vi := by
  obtain ⟨o, h2, h3⟩ := h.blk
  exact ⟨⟨o, h2.onlyS hw (fun hX => h1 f hX (.inl rfl)), h3⟩, own_onlyS h.row hw (fun k hk hX => h1 k hX (.inr hk)), h.few, h.ne⟩
theorem Fil.lt {F : Nat → Prop} {w : World} {f p : Nat} {ids : List Nat} {many : Nat} (h : Fil F w f p ids many) {b : Nat} (hb : F b) : b < w.heap.size := by
  obtain ⟨vi, h1, rfl⟩ := h
  exact h1.lt hb
theorem Fil.keep {F X : Nat → Prop} {w w' : World} {f p : Nat} {ids : List Nat} {many : Nat} (h : Fil F w f p ids many) (hw : OnlyS X w w') (h1 : ∀ b, X b → ¬ F b) : Fil F w' f p ids many := by
  obtain ⟨vi, h2, rfl⟩ := h
  exact ⟨vi, h2.keep hw h1, rfl⟩
def Ended17 (O X : Nat → Prop) (w : World) (f p : Nat) (s : St) (W : Wr17) (e : Ending) (w' : World) : Prop :=
  ∃ g O' F, e = .returned (.tuple #[.pointer (some ⟨g, 0, none⟩), .int .i64 0]) ∧ PSto O' w' p s ∧ Blk w' f [.pointer none, .slice none 0 0, .slice none 0 0, .int .i64 0] 145 ∧ Fil F w' g p W.ids W.many ∧
    Duo O X w O' (fun b => b = f) w' ∧ (∀ b, F b → X b ∨ w.heap.size ≤ b) ∧ ∀ b, F b → b ≠ f ∧ ¬ O' b
theorem Ended17.of {O X : Nat → Prop} {w w1 : World} {f p L : Nat} {s : St} {W : Wr17} {vi vr : Value} (O1 : Nat → Prop) (h1 : PSto O1 w1 p s) (hT : WrT L w1 f p W vi vr) (hL : L ≤ 100000000000) (hm : W.many ≤ 10000000) (hd : Duo O X w O1 (ownW f vi vr) w1) (w2 w3 : World) (hx2 : Ext w1 w2)
    (hw3 : w3 = (((((w2.alloc (.cells #[.pointer (some ⟨p, 0, none⟩), vi, .int .i64 W.many] 142)).setCell ⟨f, 0, none⟩ (.pointer none)).setCell ⟨f, 1, none⟩ (.slice none 0 0)).setCell ⟨f, 2, none⟩ (.slice none 0 0)).setCell ⟨f, 3, none⟩ (.int .i64 0))) :
    Ended17 O X w f p s W (.returned (.tuple #[.pointer (some ⟨w2.heap.size, 0, none⟩), .int .i64 0])) w3 := by
  have hT2 := hT.keep (OnlyS.of_ext (X := fun _ => False) hx2) (fun _ h => h.elim)
  have hs : OnlyS (fun b => b = f) (w2.alloc (.cells #[.pointer (some ⟨p, 0, none⟩), vi, .int .i64 W.many] 142)) w3 := by
    rw [hw3]
    exact (OnlyS.set0 f 0 _ (.pointer none)).step (OnlyS.set0 f 1 _ (.slice none 0 0)) |>.step (OnlyS.set0 f 2 _ (.slice none 0 0)) |>.step (OnlyS.set0 f 3 _ (.int .i64 0))
  have hfl := hT2.blk.lt
  have hx3 : Ext w2 (w2.alloc (.cells #[.pointer (some ⟨p, 0, none⟩), vi, .int .i64 W.many] 142)) := ext_new _ _
  have hsz := hx2.size
  have hOf : ¬ O1 f := fun hO => hd.apart f hO (.inl rfl)
  have hO3 : PSto O1 w3 p s := (h1.onlyS (OnlyS.of_ext (X := fun _ => False) (Ext.trans hx2 hx3)) (fun _ _ h => h)).onlyS hs (fun b hb e => hOf (e ▸ hb))
  have hdd : Duo O1 (ownW f vi vr) w1 O1 (fun b => b = f) w3 := ⟨OnlyS.trans (OnlyS.of_ext (Ext.trans hx2 hx3)) (hs.mono fun b _ hb => (.inr (.inl hb) : O1 b ∨ ownW f vi vr b)) fun _ _ h => h, fun _ hb => .inl hb, fun b hb => .inl (.inl hb), fun b hb e => hOf (e ▸ hb)⟩
  have hfr : ∀ k, vi.ownBlock = some k → f + 1 ≤ k ∧ k < w2.heap.size := fun k hk => hT2.ids.lt k hk
  refine ⟨w2.heap.size, O1, ownF w2.heap.size vi, rfl, hO3, ?_, ⟨vi, ⟨⟨some ⟨p, 0, none⟩, ?_, .inl rfl⟩, ?_, ⟨Nat.le_trans hT.few.1 hL, hT.few.2, hm⟩, fun e => by have := (hfr _ e).2; omega⟩, rfl⟩, hd.trans hdd, fun b hb => ?_, fun b hb => ?_⟩
  · rw [hw3]
    exact ((((hT2.blk.ext hx3).set 0 _).set 1 _).set 2 _).set 3 _
  · exact (Blk.new w2 _ _).onlyS hs (fun e => by omega)
  · exact own_onlyS (owns_base (owns_extS hT2.ids hx3) (Nat.zero_le _)) hs (fun k hk e => by have := (hfr k hk).1; omega)
  · rcases hb with hb | hb
    · exact .inr (by have := hd.only.size; omega)
    · exact hd.xs b (.inr (.inl hb))
  · rcases hb with hb | hb
    · exact ⟨by omega, fun hO => by have := h1.lt b hO; omega⟩
    · exact ⟨by have := (hfr b hb).1; omega, fun hO => hd.apart b hO (.inr (.inl hb))⟩
def PDone17 (O X : Nat → Prop) (w : World) (f p : Nat) (s : St) (W : Wr17) (e : Ending) (w' : World) : Prop :=
  ∃ v O' X' F, e = .returned (.tuple #[v, .int .i64 (doneW s W).1.1]) ∧ PSto O' w' p (doneW s W).2 ∧ Wri X' w' f p offW ∧
      OnlyS (fun b => O b ∨ X b) w w' ∧ (∀ b, O' b → O b ∨ w.heap.size ≤ b) ∧ (∀ b, X' b → X b ∨ w.heap.size ≤ b) ∧ (∀ b, F b → X b ∨ w.heap.size ≤ b) ∧ (∀ b, O' b → ¬ X' b) ∧ (∀ b, F b → ¬ X' b ∧ ¬ O' b) ∧
      (((doneW s W).1.1 ≠ 0 ∧ v = .pointer none) ∨ ((doneW s W).1.1 = 0 ∧ ∃ g, v = .pointer (some ⟨g, 0, none⟩) ∧ Fil F w' g p (doneW s W).1.2.1 (doneW s W).1.2.2))
theorem PDone17.ok {O X : Nat → Prop} {w w' : World} {f p : Nat} {s S : St} {W W1 : Wr17} {e : Ending} (hd : doneW s W = ((0, (W1.ids, W1.many)), S)) (h : Ended17 O X w f p S W1 e w') : PDone17 O X w f p s W e w' := by
  unfold PDone17
  rw [hd]
  obtain ⟨g, O', F, rfl, h1, h2, h3, h4, h5, h6⟩ := h
  exact ⟨_, O', _, F, rfl, h1, Wri.off p h2, h4.only, h4.os, h4.xs, h5, h4.apart, h6, .inr ⟨rfl, g, rfl, h3⟩⟩
theorem PDone17.no {O X O' X' : Nat → Prop} {w w' : World} {f p : Nat} {s S : St} {W : Wr17} {E : Int} (hd : doneW s W = ((E, ([], 0)), S)) (hE : E ≠ 0) (h1 : PSto O' w' p S) (h2 : Wri X' w' f p offW) (h4 : Duo O X w O' X' w') : PDone17 O X w f p s W (.returned (.tuple #[.pointer none, .int .i64 E])) w' := by
  unfold PDone17
  rw [hd]
  exact ⟨_, O', X', fun _ => False, rfl, h1, h2, h4.only, h4.os, h4.xs, fun _ h => h.elim, h4.apart, fun _ h => h.elim, .inl ⟨hE, rfl⟩⟩
set_option maxRecDepth 100000 in
set_option maxHeartbeats 4000000 in
theorem pDoneD_any (O X : Nat → Prop) (f p : Nat) (s : St) (W : Wr17) (w : World) (h : PSto O w p s) (hok : okS s) (hW : Wri X w f p W) (hox : ∀ b, O b → ¬ X b) :
    Calls Tryz.prog 84 #[.pointer (some ⟨f, 0, none⟩)] w (PDone17 O X w f p s W) := by
  have HWR := Lib.hid hW
  obtain ⟨vi, vr, hT, hb56, hm7, rfl⟩ := hW
  have HEN := Lib.hid (pEnded17_any f _ w (hT.blk.cell 0 _ rfl))
  have HP := Lib.hid h
  have HOX := Lib.hid hox
  cases hon : W.on with
  | false =>
    obtain ⟨hoff, -, -⟩ := hT.off hon
    subst hoff
    have HA := Lib.hid (show doneW s offW = ((2, ([], 0)), s) by unfold doneW; rw [if_pos (show offW.on = false from rfl)])
    simp only [hon, if_false, Bool.false_eq_true] at HEN
    clear hT h hok hox hon
    go_enter Tryz.func84, Tryz.ntmps84
    go_wp2_with fail
    refine HEN.out.mono ?_
    rintro e w' ⟨rfl, rfl⟩
    go_wp2_with fail
    go_ret2
    exact PDone17.no HA.out (by decide) HP.out HWR.out (Duo.refl w HOX.out)
  | true =>
    simp only [hon, if_true] at HEN
    have HT := Lib.hid hT
    have HON := Lib.hid hon
    have HOK := Lib.hid hok
    obtain ⟨ra, rc, rfl, hr1, hr2⟩ := hT.rest.shape
    rw [List.length_map] at hr1 HT HOX HWR ⊢
    unfold maxLen at hr2
    have c2 := HT.out.blk.cell 2 _ rfl
    by_cases hb : W.buf = []
    · have hl0 : W.buf.length = 0 := by rw [hb]; rfl
      have HA := Lib.hid (show doneW s W = ((0, (W.ids, W.many)), s) by unfold doneW; rw [if_neg (by simp [hon]), if_pos hb])
      have d1 : decide ((W.buf.length : Int) > 0) = false := decide_eq_false (by omega)
      have d1' : decide (0 < W.buf.length) = false := decide_eq_false (by omega)
      clear hT h hok hox hon hb
      go_enter Tryz.func84, Tryz.ntmps84
      go_wp2_with fail
      refine HEN.out.mono ?_
      rintro e w' ⟨rfl, rfl⟩
      go_wp2_with fail
      clear c2
      obtain ⟨ia, ic, rfl, -, -⟩ := own_shapeP HT.out.ids
      have HB0 := Lib.hid HT.out.blk
      have HBZ := Lib.hid (fun z : Later Ext w.drew => (HB0.out.ext (Ext.drew w)).ext z.ext)
      have a0 : ∀ z : Later Ext w.drew, z.val.cell? ⟨f, 0, none⟩ = some (.pointer (some ⟨p, 0, none⟩)) := fun z => by
        have := (HBZ.out z).cell 0 _ rfl
        rwa [if_pos HON.out] at this
      have a1 : ∀ z : Later Ext w.drew, z.val.cell? ⟨f, 1, none⟩ = some (.slice ia W.ids.length ic) := fun z => (HBZ.out z).cell 1 _ rfl
      have a3 : ∀ z : Later Ext w.drew, z.val.cell? ⟨f, 3, none⟩ = some (.int .i64 (W.many : Int)) := fun z => (HBZ.out z).cell 3 _ rfl
      go_wp2_with fail
      refine wp_region_segs Ext Ext.keeps [([0, 1, 2, 3, 4, 5, 6, 7, 8, 9, 10, 11, 12], some 13), ([14], none)] (by kernel_rfl) (by kernel_rfl) (fun c a a' w e h => (by exact ⟨e ▸ h.1, h.2⟩)) ?_
      simp only [pickSegs, pickOps, List.map_cons, List.map_nil, Option.map_some, Option.map_none, Option.getD_some, List.getElem?_toArray, List.getElem?_cons_zero, List.getElem?_cons_succ]
      refine wpSegs_some fun K hK => ?_
      repeat go_big_quiet_step (fail)
      refine wpQuiet_nil ?_
      clear a0 a1 a3
      have HXD := Lib.hid (Ext.drew w)
      clear HBZ
      generalize w.drew = wd at HXD ⊢
      go_wp2_with fail
      refine ⟨ext_new _ _, hK _ _ ?_⟩
      clear hK K
      refine wpSegs_none ?_
      repeat go_big_quiet_step (fail)
      refine wpQuiet_nil (wpSegs_nil ?_)
      have HB02 := Lib.hid ((HB0.out.ext HXD.out).ext (ext_new wd (.cells #[.pointer (some ⟨p, 0, none⟩), .slice ia W.ids.length ic, .int .i64 (W.many : Int)] 142)))
      have c0 := HB02.out.cell 0 _ rfl
      have c1 := HB02.out.cell 1 _ rfl
      have c2 := HB02.out.cell 2 _ rfl
      have c3 := HB02.out.cell 3 _ rfl
      have fz := HB02.out.free
      go_wp2_with fail
      go_ret2
      exact PDone17.ok HA.out (Ended17.of O HP.out HT.out (by omega) hm7 (Duo.refl w HOX.out) wd _ HXD.out rfl)
    · have hl0 : 0 < W.buf.length := List.length_pos_iff.2 hb
      have d1 : decide ((W.buf.length : Int) > 0) = true := decide_eq_true (by omega)
      have d1' : decide (0 < W.buf.length) = true := decide_eq_true hl0
      by_cases hroom : 1 + usedS s ≤ s.length
      · have HA := Lib.hid (show doneW s W = ((0, (W.ids ++ idsK s 1, W.many)), storeK s W.buf 1) by unfold doneW; rw [if_neg (by simp [hon]), if_neg hb, if_pos hroom])
        have HLAY := Lib.hid (pLayRoom17_any _ O f p W.buf.length s W vi _ w h hok HT.out hon (by omega) HOX.out hroom (Nat.le_refl _) (by rw [List.take_length, List.take_of_length_le (by omega)]) (by omega))
        clear hT h hok hox hon hb hroom
        go_enter Tryz.func84, Tryz.ntmps84
        go_wp2_with fail
        refine HEN.out.mono ?_
        rintro e w' ⟨rfl, rfl⟩
        go_wp2_with fail
        refine HLAY.out.mono ?_
        rintro e w1 ⟨O1, vi1, vr1, rfl, hp1, hT1, hd1⟩
        have HP1 := Lib.hid hp1
        have HT1 := Lib.hid hT1
        have HD1 := Lib.hid hd1
        clear hp1 hT1 hd1 c2
        go_wp2_with fail
        obtain ⟨IL, hIL⟩ : ∃ IL, (W.ids ++ idsK s 1).length = IL := ⟨_, rfl⟩
        have hids : w1.ownsRow (f + 1) 3 1 vi1 (W.ids ++ idsK s 1).length (ivs (W.ids ++ idsK s 1)) := HT1.out.ids
        rw [hIL] at hids
        obtain ⟨ia, ic, rfl, -, -⟩ := own_shapeP hids
        clear hids hIL
        have HB0 := Lib.hid HT1.out.blk
        have HBZ := Lib.hid (fun z : Later Ext w1.drew => (HB0.out.ext (Ext.drew w1)).ext z.ext)
        have a0 : ∀ z : Later Ext w1.drew, z.val.cell? ⟨f, 0, none⟩ = some (.pointer (some ⟨p, 0, none⟩)) := fun z => by
          have := (HBZ.out z).cell 0 _ rfl
          rwa [if_pos rfl] at this
        have a1 : ∀ z : Later Ext w1.drew, z.val.cell? ⟨f, 1, none⟩ = some (.slice ia IL ic) := fun z => (HBZ.out z).cell 1 _ rfl
        have a3 : ∀ z : Later Ext w1.drew, z.val.cell? ⟨f, 3, none⟩ = some (.int .i64 (W.many : Int)) := fun z => (HBZ.out z).cell 3 _ rfl
        go_wp2_with fail
        refine wp_region_segs Ext Ext.keeps [([0, 1, 2, 3, 4, 5, 6, 7, 8, 9, 10, 11, 12], some 13), ([14], none)] (by kernel_rfl) (by kernel_rfl) (fun c a a' w e h => (by exact ⟨e ▸ h.1, h.2⟩)) ?_
        simp only [pickSegs, pickOps, List.map_cons, List.map_nil, Option.map_some, Option.map_none, Option.getD_some, List.getElem?_toArray, List.getElem?_cons_zero, List.getElem?_cons_succ]
        refine wpSegs_some fun K hK => ?_
        repeat go_big_quiet_step (fail)
        refine wpQuiet_nil ?_
        clear a0 a1 a3
        have HXD := Lib.hid (Ext.drew w1)
        clear HBZ
        generalize w1.drew = wd at HXD ⊢
        go_wp2_with fail
        refine ⟨ext_new _ _, hK _ _ ?_⟩
        clear hK K
        refine wpSegs_none ?_
        repeat go_big_quiet_step (fail)
        refine wpQuiet_nil (wpSegs_nil ?_)
        have HB02 := Lib.hid ((HB0.out.ext HXD.out).ext (ext_new wd (.cells #[.pointer (some ⟨p, 0, none⟩), .slice ia IL ic, .int .i64 (W.many : Int)] 142)))
        have c0 := HB02.out.cell 0 _ rfl
        have c1 := HB02.out.cell 1 _ rfl
        have c2 := HB02.out.cell 2 _ rfl
        have c3 := HB02.out.cell 3 _ rfl
        have fz := HB02.out.free
        go_wp2_with fail
        go_ret2
        exact PDone17.ok HA.out (Ended17.of (W := ⟨W.ids ++ idsK s 1, W.buf.drop W.buf.length, W.many, true⟩) O1 HP1.out HT1.out (by omega) hm7 HD1.out wd _ HXD.out rfl)
      · have HA := Lib.hid (show doneW s W = ((4, ([], 0)), dropS s (intsN W.ids)) by unfold doneW; rw [if_neg (by simp [hon]), if_neg hb, if_neg hroom])
        have HLAY := Lib.hid (pLayNone17_any _ O f p W.buf.length s W vi _ w h hok HT.out hon (by omega) HOX.out hroom)
        clear hT h hok hox hon hb hroom
        go_enter Tryz.func84, Tryz.ntmps84
        go_wp2_with fail
        refine HEN.out.mono ?_
        rintro e w' ⟨rfl, rfl⟩
        go_wp2_with fail
        refine HLAY.out.mono ?_
        rintro e w1 ⟨O1, rfl, hp1, hb1, ho1, hn1, hx1⟩
        have HP1 := Lib.hid hp1
        have HB1 := Lib.hid hb1
        have HO1 := Lib.hid ho1
        have HN1 := Lib.hid hn1
        have HX1 := Lib.hid hx1
        clear hp1 hb1 ho1 hn1 hx1 c2
        go_wp2_with fail
        go_ret2
        exact PDone17.no HA.out (by decide) HP1.out (Wri.off p HB1.out) ⟨HO1.out.mono fun b _ hb => hb.imp id .inl, HN1.out, fun b hb => .inl (.inl hb), fun b hb e => HX1.out (e ▸ hb)⟩
theorem pDone17_any (O X : Nat → Prop) (f p : Nat) (s : St) (W : Wr17) (w : World) (h : PSto O w p s) (hok : okS s) (hW : Wri X w f p W) (hox : ∀ b, O b → ¬ X b) :
    Calls Tryz.prog 84 #[.pointer (some ⟨f, 0, none⟩)] w fun e w' => ∃ v O' X' F, e = .returned (.tuple #[v, .int .i64 (doneW s W).1.1]) ∧ PSto O' w' p (doneW s W).2 ∧ Wri X' w' f p offW ∧
      OnlyS (fun b => O b ∨ X b) w w' ∧ (∀ b, O' b → O b ∨ w.heap.size ≤ b) ∧ (∀ b, X' b → X b ∨ w.heap.size ≤ b) ∧ (∀ b, F b → X b ∨ w.heap.size ≤ b) ∧ (∀ b, O' b → ¬ X' b) ∧ (∀ b, F b → ¬ X' b ∧ ¬ O' b) ∧
      (((doneW s W).1.1 ≠ 0 ∧ v = .pointer none) ∨ ((doneW s W).1.1 = 0 ∧ ∃ g, v = .pointer (some ⟨g, 0, none⟩) ∧ Fil F w' g p (doneW s W).1.2.1 (doneW s W).1.2.2)) :=
  pDoneD_any O X f p s W w h hok hW hox
end Go.Proofs.YtaoegcakefodaaaGreat

namespace Go.Proofs.YtaoegcakefodaaaGreat
open Go.RowKit Go.BigFrame
set_option maxHeartbeats 400000 in
theorem cloneI_nil (w : World) : Calls Tryz.prog 132 #[.slice none 0 0] w (Fresh 3 w []) := by
  have hq := fun W : World => Lib.run_eql_slice_nil (P := Tryz.prog) W
  go_enter Tryz.func132, Tryz.ntmps132
  go_wp2
  go_ret
  exact ⟨_, rfl, World.ownsRow_nil _ _ _ _, Below.refl _ _⟩
set_option maxHeartbeats 400000 in
theorem cloneI_some (x : Addr) (L cap : Nat) (xs : List Value) (w : World) (hL : xs.length = L) (hc : ∀ i u, xs[i]? = some u → w.cell? (x.add i) = some u)
    (h1c : ∀ u ∈ xs, u.oneCell' = true) (h1 : L ≤ 10000000000000) : Calls Tryz.prog 132 #[.slice (some x) L cap] w (Fresh 3 w xs) := by
  have hq := fun W : World => Lib.run_eql_slice_nil (P := Tryz.prog) W
  obtain ⟨i0, hi, hz0, hz1, hz2⟩ := info_parts Tryz.info_int8
  have hown : (w.alloc (.cells #[] 3)).ownsRow w.heap.size 3 1 (.slice (some ⟨w.heap.size, 0, none⟩) 0 0) 0 [] := World.ownsRow_made w #[] 0 (Nat.le_refl _) (by simp [maxLen]) rfl
  have HL := Lib.hid hL
  have HC := Lib.hid (fun i u hu => (World.grownBy_alloc w (.cells #[] 3) none).cell (hc i u hu) (by simp))
  have H1 := Lib.hid h1c
  have HO := Lib.hid hown
  clear hL hc h1c hown
  go_enter Tryz.func132, Tryz.ntmps132
  go_wp2_with (at_builtin; go_loud (refine wpList_append_own _ rfl _ _ 48 rfl w.heap.size 3 i0 (.int .i64 0) 1 8 Tryz.underlying48 hi hz0 hz1 hz2 rfl (by decide) _ _ _ rfl HO.out x L cap xs rfl (by rw [HL.out, Nat.mul_one]) HC.out H1.out (by unfold maxLen; omega) (by omega) (by simp) ?_); intro v2 w2 hown2 hgrow2 _)
  go_ret
  refine ⟨_, rfl, ?_, ((Below.refl _ _).alloc (Nat.le_refl _) _).grown hgrow2 (by simp) ?_⟩
  · rw [HL.out]; simpa using hown2
  · intro k hk; cases hk; exact Nat.le_refl _
theorem cloneI_any (v : Value) (xs : List Value) (w : World) (hr : RdV w v xs) (h1c : ∀ u ∈ xs, u.oneCell' = true) (h1 : xs.length ≤ 10000000000000) : Calls Tryz.prog 132 #[v] w (Fresh 3 w xs) := by
  rcases hr with ⟨rfl, h2⟩ | ⟨x, cap, rfl, h2, h3, h4⟩
  · rw [h2]; exact cloneI_nil w
  · exact cloneI_some x _ cap _ w rfl h4 h1c h1
theorem ivs_one (ids : List Nat) : ∀ u ∈ ivs ids, u.oneCell' = true := fun u hu => by
  obtain ⟨k, _, rfl⟩ := List.mem_map.1 hu
  rfl
set_option maxRecDepth 100000 in
theorem pPagesO17_any (f p : Nat) (ids : List Nat) (many : Nat) (vi : Value) (w : World) (h : FiT w f p ids many vi) :
    Calls Tryz.prog 109 #[.pointer (some ⟨f, 0, none⟩)] w (Fresh 3 w (ivs ids)) := by
  obtain ⟨o, hb, -⟩ := h.blk
  have c1 := hb.cell 1 _ rfl
  have HC := Lib.hid (cloneI_any vi (ivs ids) w (RdV.of_owns h.row) (ivs_one ids) (by have := h.few.1; unfold ivs; rw [List.length_map]; omega))
  obtain ⟨ia, ic, rfl, -, -⟩ := own_shapeP h.row
  clear h hb
  go_enter Tryz.func109, Tryz.ntmps109
  go_wp2_with fail
  refine HC.out.mono ?_
  rintro e w' ⟨v, rfl, h1, h2⟩
  have H1 := Lib.hid h1
  have H2 := Lib.hid h2
  clear h1 h2
  go_wp2_with fail
  go_ret
  exact ⟨v, rfl, H1.out, H2.out⟩
set_option maxRecDepth 100000 in
theorem nDrop17_any (w : World) : Calls Tryz.prog 101 #[.pointer none, .slice none 0 0] w fun e w' => e = .returned (.tuple #[]) ∧ w = w' := by
  go_enter Tryz.func101, Tryz.ntmps101
  go_wp2_with fail
  go_loopw [8] (fun i wr => i = .int .i64 0 ∧ w = wr) (fun _ _ => 0)
  case atStart => exact ⟨rfl, rfl⟩
  case round =>
    obtain ⟨rfl, rfl⟩ := hrel
    go_wp2_with fail
    go_end0
    exact ⟨rfl, rfl⟩
end Go.Proofs.YtaoegcakefodaaaGreat

namespace Go.Proofs.YtaoegcakefodaaaGreat
open Go.RowKit Go.BigFrame
set_option maxRecDepth 100000 in
set_option maxHeartbeats 1000000 in
theorem pDrop17_any (O F : Nat → Prop) (f p : Nat) (s : St) (ids : List Nat) (many : Nat) (w : World) (h : PSto O w p s) (hok : okS s) (hF : Fil F w f p ids many) (hof : ∀ b, O b → ¬ F b) :
    Calls Tryz.prog 80 #[.pointer (some ⟨f, 0, none⟩)] w fun e w' => ∃ O' F', e = .returned (.tuple #[]) ∧ PSto O' w' p (dropS s (intsN ids)) ∧ Fil F' w' f p [] 0 ∧
      OnlyS (fun b => O b ∨ F b) w w' ∧ (∀ b, O' b → O b ∨ w.heap.size ≤ b) ∧ (∀ b, F' b → F b ∨ w.heap.size ≤ b) ∧ ∀ b, O' b → ¬ F' b := by
  obtain ⟨vi, hT, rfl⟩ := hF
  obtain ⟨o, hb, ho⟩ := hT.blk
  have HO := Lib.hid (show ¬ O f from fun h2 => hof f h2 (.inl rfl))
  have HF := Lib.hid hb.lt
  have HCALL : RowKit.Hid (Calls Tryz.prog 101 #[.pointer o, vi] w.drew fun e w2 => ∃ O2, e = .returned (.tuple #[]) ∧ PSto O2 w2 p (dropS s (intsN ids)) ∧ OnlyS O w.drew w2 ∧ ∀ b, O2 b → O b ∨ w.drew.heap.size ≤ b) := Lib.hid (by
    rcases ho with rfl | ⟨rfl, rfl, rfl, rfl⟩
    · have hrd : RdV w.drew vi ((intsN ids).map (Value.int .i64)) := by rw [intsN_ivs]; exact (RdV.of_owns hT.row).mono (Ext.drew w)
      refine (pDrop_any (w := w.drew) vi (intsN ids) (h.keep (fun b hb => rfl) (Nat.le_refl _)) hok hrd (fun _ k hk hO => hof k hO (.inr hk)) (by
        have := hT.few.1
        unfold intsN
        rw [List.length_map]
        omega) (fun i hi => by
        obtain ⟨q, hq, rfl⟩ := List.mem_map.1 hi
        have := hT.few.2.1 q hq
        omega)).mono ?_
      rintro e w2 ⟨rfl, O2, k1, k2, k3, -⟩
      exact ⟨O2, rfl, k1, k2, k3⟩
    · refine (nDrop17_any w.drew).mono ?_
      rintro e w2 ⟨rfl, rfl⟩
      exact ⟨O, rfl, h.keep (fun b hb => rfl) (Nat.le_refl _), OnlyS.refl _ _, fun b hb => .inl hb⟩)
  have HB := Lib.hid hb
  have HBZ := Lib.hid (fun z : Later (OnlyS O) w.drew => (HB.out.ext (Ext.drew w)).onlyS z.ext HO.out)
  have a0 : ∀ z : Later (OnlyS O) w.drew, z.val.cell? ⟨f, 0, none⟩ = some (.pointer o) := fun z => (HBZ.out z).cell 0 _ rfl
  have a1 : ∀ z : Later (OnlyS O) w.drew, z.val.cell? ⟨f, 1, none⟩ = some vi := fun z => (HBZ.out z).cell 1 _ rfl
  obtain ⟨ia, ic, rfl, -, -⟩ := own_shapeP hT.row
  clear h hok hT hof hb ho
  go_enter Tryz.func80, Tryz.ntmps80
  go_wp2_with fail
  refine wp_region_segs (OnlyS O) (OnlyS.keeps O) [([0, 1, 2, 3, 4, 5, 6, 7], some 8)] (by kernel_rfl) (by kernel_rfl) (fun c a a' w e h => (by exact ⟨e ▸ h.1, h.2⟩)) ?_
  simp only [pickSegs, pickOps, List.map_cons, List.map_nil, Option.map_some, Option.getD_some, List.getElem?_toArray, List.getElem?_cons_zero, List.getElem?_cons_succ]
  refine wpSegs_some fun K hK => ?_
  repeat go_big_quiet_step (fail)
  refine wpQuiet_nil ?_
  clear a0 a1
  go_wp2_with fail
  refine HCALL.out.mono ?_
  rintro e w2 ⟨O2, rfl, k1, k2, k3⟩
  have HP2 := Lib.hid k1
  have HO2 := Lib.hid k2
  have HN2 := Lib.hid k3
  clear k1 k2 k3
  go_wp2_with fail
  refine ⟨HO2.out, hK _ _ (wpSegs_nil ?_)⟩
  clear hK K
  have HB2 := Lib.hid ((HB.out.ext (Ext.drew w)).onlyS HO2.out HO.out)
  have c0 := HB2.out.cell 0 _ rfl
  have c1 := HB2.out.cell 1 _ rfl
  have c2 := HB2.out.cell 2 _ rfl
  have fz := HB2.out.free
  go_wp2_with fail
  go_end0
  have hs := (OnlyS.set0 f 0 w2 (.pointer none)).step (OnlyS.set0 f 1 _ (.slice none 0 0)) |>.step (OnlyS.set0 f 2 _ (.int .i64 0))
  have hO2f : ¬ O2 f := fun h2 => by
    rcases HN2.out f h2 with h3 | h3
    · exact HO.out h3
    · have := HF.out
      exact absurd h3 (Nat.not_le.2 this)
  refine ⟨O2, ownF f (.slice none 0 0), rfl, HP2.out.onlyS hs (fun b hb e => hO2f (e ▸ hb)), ⟨.slice none 0 0, ⟨⟨none, ((HB2.out.set 0 _).set 1 _).set 2 _, .inr ⟨rfl, rfl, rfl, rfl⟩⟩, owns_nil _ _ _ _, ⟨Nat.zero_le _, fun i hi => by simp at hi, Nat.zero_le _⟩, fun e => by cases e⟩, rfl⟩, ?_, HN2.out, fun b hb => ?_, fun b hb hw => ?_⟩
  · exact OnlyS.trans (OnlyS.of_ext (Ext.drew w)) (OnlyS.trans (HO2.out.mono fun b _ hb => .inl hb) (hs.mono fun b _ hb => .inr (.inl hb)) fun _ _ h => h) fun _ _ h => h
  · rcases hb with hb | hb
    · exact .inl (.inl hb)
    · cases hb
  · rcases hw with rfl | hw
    · exact hO2f hb
    · cases hw
end Go.Proofs.YtaoegcakefodaaaGreat

