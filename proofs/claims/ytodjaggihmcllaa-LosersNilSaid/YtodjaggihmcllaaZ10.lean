/-
  Texts of this proof, merged: LosP5, LosP6, LosP7.
-/
import Derived.Test.YtodjaggihmcllaaZ9
import Derived.Test.YtodjaggihmcllaaZ4
/-
  The program's contracts of layer 16: a tree, and a new one.
-/
namespace Go.Proofs.Ytodjaggihmcllaa
open Go.RowKit Go.BigFrame LosWin

/-- A tree of the lists with these heads, by these keys, that has held so many against each other; it writes in O alone, and reads nothing else above B. -/
def Tre (B : Nat) (O : Nat → Prop) (w : World) (p : Addr) (os : List (Option (List V))) (ks : List Ky) (n : Int) : Prop := ∃ t K HV LV hs lost, p = ⟨t, 0, none⟩ ∧ TF B O w t K HV LV hs os lost ks n

theorem Tre.lt {B : Nat} {O : Nat → Prop} {w : World} {p : Addr} {os : List (Option (List V))} {ks : List Ky} {n : Int} (h : Tre B O w p os ks n) {b : Nat} (hb : O b) : B ≤ b ∧ b < w.heap.size := by
  obtain ⟨t, K, HV, LV, hs, lost, -, h, -⟩ := h
  exact h.lt b hb
theorem Tre.keep {B : Nat} {O X : Nat → Prop} {w w' : World} {p : Addr} {os : List (Option (List V))} {ks : List Ky} {n : Int} (h : Tre B O w p os ks n) (hw : OnlyS X w w') (h1 : ∀ b, X b → ¬ O b) (_h2 : ∀ b, X b → B ≤ b) : Tre B O w' p os ks n := by
  obtain ⟨t, K, HV, LV, hs, lost, e, h, h3⟩ := h
  exact ⟨t, K, HV, LV, hs, lost, e, h.others hw h1, h3⟩
theorem Tre.fit {B : Nat} {O : Nat → Prop} {w : World} {p : Addr} {os : List (Option (List V))} {ks : List Ky} {n : Int} (h : Tre B O w p os ks n) : os.length ≤ 16 := by
  obtain ⟨t, K, HV, LV, hs, lost, -, -, h, -⟩ := h
  exact h

/-- A tree that has just been laid: no heads yet. -/
theorem TM.laid {b : Nat} {w w2 : World} {K LV : Value} {ks : List Ky} {N : Nat} (hx : Ext w w2) (hbw : b = w.heap.size) (hk : KyO (fun k => b ≤ k ∧ k < w2.heap.size) w2 K ks) (hl : w2.ownsRow b 3 1 LV N ((List.replicate N 0).map fun a : Nat => Value.int .i64 (a : Int))) :
    TM b (fun k => b ≤ k ∧ k < (w2.alloc (.cells #[K, .slice none 0 0, LV, .int .i64 0] 54)).heap.size) (w2.alloc (.cells #[K, .slice none 0 0, LV, .int .i64 0] 54)) w2.heap.size K (.slice none 0 0) LV [] [] (List.replicate N 0) ks 0 := by
  subst hbw
  have hsz : (w2.alloc (.cells #[K, .slice none 0 0, LV, .int .i64 0] 54)).heap.size = w2.heap.size + 1 := by simp only [World.alloc, Array.size_push]
  have hxn := ext_new w2 (.cells #[K, .slice none 0 0, LV, .int .i64 0] 54)
  have hs := hx.size
  have ho : OnlyS (fun _ => False) w2 (w2.alloc (.cells #[K, .slice none 0 0, LV, .int .i64 0] 54)) := OnlyS.of_ext hxn
  exact {
    blk := Blk.new w2 [K, .slice none 0 0, LV, .int .i64 0] 54
    keys := (hk.others ho fun _ _ _ h => h).mono fun k hk => ⟨hk.1, by omega⟩
    hown := owns_nil _ _ _ _
    hd := HdO.nil _ _ _
    lown := by
      rw [List.length_replicate]
      exact owns_extS hl hxn
    tO := ⟨hs, by omega⟩
    hO := fun k hk => by cases hk
    lO := fun k hk => by
      have := hl.lt k hk
      exact ⟨this.1, by omega⟩
    lt := fun _ h => h
    fit := FitO.nil _ }

set_option maxRecDepth 100000 in
set_option maxHeartbeats 4000000 in
theorem pNew16_any (u x : Value) (hs : List Value) (os : List (Option (List V))) (ks : List Ky) (w0 w : World) (hw : Ext w0 w) (hu : RdV w u hs) (hh : HdOpt w hs os) (hx : RdKs w0 x ks) (hk : ks.length ≤ 1000000) (hf : FitO 5000 os) (hr : ∀ r, some r ∈ os → r.length ≤ 1000000) (hl : os.length ≤ 1000000) :
    Calls Try.prog 10 #[u, x] w fun e w' => ((16 < os.length ∧ e = .returned (.tuple #[.pointer none, .int .i64 3])) ∨ (os.length ≤ 16 ∧ ∃ p O n, e = .returned (.tuple #[.pointer (some p), .int .i64 0]) ∧ Tre w0.heap.size O w' p os ks n ∧ 0 ≤ n ∧ n ≤ max ((os.length : Int) - 1) 0 ∧ ∀ b, O b → w.heap.size ≤ b)) ∧ Ext w w' := by
  obtain ⟨i1, hi1, hy0, hy1, hy2⟩ := info_parts Try.info_row
  obtain ⟨ua, uc, rfl, hu1, hu2, hat⟩ := RdV.cellsAt hu
  have HPL := Lib.hid (RdV.plainV hu).2.2.2
  unfold maxLen at hu2
  have HLE := Lib.hid hh.1
  obtain ⟨N, hN⟩ : ∃ N, hs.length = N := ⟨_, rfl⟩
  have HN := Lib.hid hN
  have HON := Lib.hid (show os.length = N from by rw [← hh.1, hN])
  rw [hN] at hu1 ⊢
  have hlN : N ≤ 1000000 := by rw [← HON.out]; exact hl
  have HW := Lib.hid hw
  have HH := Lib.hid hh
  have HF := Lib.hid hf
  have HR := Lib.hid hr
  have HXK := Lib.hid (hx.mono hw)
  rw [HON.out]
  clear hat hN hw hh hf hr hx hl hu
  by_cases h16 : 16 < N
  · have d1 : decide ((N : Int) > 16) = true := decide_eq_true (by omega)
    have d1' : decide (16 < N) = true := decide_eq_true h16
    go_enter Try.func10, Try.ntmps10
    go_wp2_with fail
    go_ret2
    exact ⟨.inl ⟨h16, rfl⟩, Ext.keeps.refl _⟩
  · have d1 : decide ((N : Int) > 16) = false := decide_eq_false (by omega)
    have d1' : decide (16 < N) = false := decide_eq_false h16
    have hx0 := HXK.out.shape
    obtain ⟨xa, xc, hxe, -, -⟩ := hx0
    subst hxe
    go_enter Try.func10, Try.ntmps10
    go_wp2_with fail
    go_cut [6] from 12 to 18 (fun pv W => ∃ (t : Nat) (K LV : Value), pv = .pointer (some ⟨t, 0, none⟩) ∧ TM w.heap.size (fun b => w.heap.size ≤ b ∧ b < W.heap.size) W t K (.slice none 0 0) LV [] [] (List.replicate N 0) ks 0 ∧ Ext w W)
    case first =>
      refine wp_region_plan Ext Ext.keeps (.quiet [0, 2, 3] (.two 1 (.one 4 (.quiet [5] (.one 6 (.quiet [7] .done)))) 4 (.one 1 (.quiet [5] (.one 6 (.quiet [7] .done)))))) (by kernel_rfl) (by kernel_rfl) (fun c a a' w e h => (by exact ⟨e ▸ h.1, h.2⟩)) ?_
      refine wpPlan_quiet fun K0 hK0 => ?_
      simp only [pickOps, List.map_cons, List.map_nil, Option.getD_some, List.getElem?_toArray, List.getElem?_cons_zero, List.getElem?_cons_succ]
      repeat go_big_quiet_step (fail)
      refine wpQuiet_nil (hK0 _ ?_)
      clear hK0 K0
      refine wpPlan_two (fun K1 hK1 => ?_) (fun K1 hK1 => ?_)
      · simp only [pickOps, List.map_cons, List.map_nil, Option.getD_some, List.getElem?_toArray, List.getElem?_cons_zero, List.getElem?_cons_succ]
        go_wp2_with fail
        refine (cloneKeys_any _ ks w.drew (HXK.out.mono (Ext.drew w)) hk).mono ?_
        rintro e w1 ⟨⟨o, rfl, ho⟩, x1⟩
        obtain ⟨ka, kc, rfl, -, -⟩ := ho.1.shape
        have HK1 := Lib.hid ho
        have HX1 := Lib.hid x1
        clear ho x1
        go_wp2_with fail
        refine ⟨HX1.out, hK1 _ _ ?_⟩
        clear hK1 K1
        obtain ⟨w2, hmr, hmo, hmx⟩ := make_lost w1 N (by omega)
        have HMO := Lib.hid hmo
        have HMX := Lib.hid hmx
        clear hmo hmx
        refine wpPlan_one fun K2 hK2 => ?_
        simp only [pickOps, List.map_cons, List.map_nil, Option.getD_some, List.getElem?_toArray, List.getElem?_cons_zero, List.getElem?_cons_succ]
        go_wp2_with fail
        refine ⟨HMX.out, hK2 _ _ ?_⟩
        clear hK2 K2 hmr
        refine wpPlan_quiet fun K3 hK3 => ?_
        simp only [pickOps, List.map_cons, List.map_nil, Option.getD_some, List.getElem?_toArray, List.getElem?_cons_zero, List.getElem?_cons_succ]
        repeat go_big_quiet_step (fail)
        refine wpQuiet_nil (hK3 _ ?_)
        clear hK3 K3
        refine wpPlan_one fun K3 hK3 => ?_
        simp only [pickOps, List.map_cons, List.map_nil, Option.getD_some, List.getElem?_toArray, List.getElem?_cons_zero, List.getElem?_cons_succ]
        go_wp2_with fail
        refine ⟨ext_new _ _, hK3 _ _ ?_⟩
        clear hK3 K3
        refine wpPlan_quiet fun K3 hK3 => ?_
        simp only [pickOps, List.map_cons, List.map_nil, Option.getD_some, List.getElem?_toArray, List.getElem?_cons_zero, List.getElem?_cons_succ]
        repeat go_big_quiet_step (fail)
        refine wpQuiet_nil (hK3 _ ?_)
        clear hK3 K3
        refine wpPlan_done ?_
        go_wp2_with fail
        go_meet
        have HXX := Lib.hid (Ext.trans (Ext.trans (Ext.drew w) HX1.out) HMX.out)
        refine ⟨_, _, _, rfl, TM.laid (b := w.heap.size) HXX.out rfl ((HK1.out.others (OnlyS.of_ext (X := fun _ => False) HMX.out) fun _ _ _ h => h).mono fun k hk => ⟨hk.1, Nat.lt_of_lt_of_le hk.2 HMX.out.size⟩) (Joins.ownsRow_le HMO.out (Ext.trans (Ext.drew w) HX1.out).size), Ext.trans HXX.out (ext_new _ _)⟩
      · simp only [pickOps, List.map_cons, List.map_nil, Option.getD_some, List.getElem?_toArray, List.getElem?_cons_zero, List.getElem?_cons_succ]
        obtain ⟨w2, hmr, hmo, hmx⟩ := make_lost w.drew N (by omega)
        have HMO := Lib.hid hmo
        have HMX := Lib.hid hmx
        clear hmo hmx
        go_wp2_with fail
        refine ⟨HMX.out, hK1 _ _ ?_⟩
        clear hK1 K1 hmr
        refine wpPlan_one fun K1 hK1 => ?_
        simp only [pickOps, List.map_cons, List.map_nil, Option.getD_some, List.getElem?_toArray, List.getElem?_cons_zero, List.getElem?_cons_succ]
        go_wp2_with fail
        refine (cloneKeys_any _ ks w2 (HXK.out.mono (Ext.trans (Ext.drew w) HMX.out)) hk).mono ?_
        rintro e w1 ⟨⟨o, rfl, ho⟩, x1⟩
        obtain ⟨ka, kc, rfl, -, -⟩ := ho.1.shape
        have HK1 := Lib.hid ho
        have HX1 := Lib.hid x1
        clear ho x1
        go_wp2_with fail
        refine ⟨HX1.out, hK1 _ _ ?_⟩
        clear hK1 K1
        refine wpPlan_quiet fun K3 hK3 => ?_
        simp only [pickOps, List.map_cons, List.map_nil, Option.getD_some, List.getElem?_toArray, List.getElem?_cons_zero, List.getElem?_cons_succ]
        repeat go_big_quiet_step (fail)
        refine wpQuiet_nil (hK3 _ ?_)
        clear hK3 K3
        refine wpPlan_one fun K3 hK3 => ?_
        simp only [pickOps, List.map_cons, List.map_nil, Option.getD_some, List.getElem?_toArray, List.getElem?_cons_zero, List.getElem?_cons_succ]
        go_wp2_with fail
        refine ⟨ext_new _ _, hK3 _ _ ?_⟩
        clear hK3 K3
        refine wpPlan_quiet fun K3 hK3 => ?_
        simp only [pickOps, List.map_cons, List.map_nil, Option.getD_some, List.getElem?_toArray, List.getElem?_cons_zero, List.getElem?_cons_succ]
        repeat go_big_quiet_step (fail)
        refine wpQuiet_nil (hK3 _ ?_)
        clear hK3 K3
        refine wpPlan_done ?_
        go_wp2_with fail
        go_meet
        have HXX := Lib.hid (Ext.trans (Ext.trans (Ext.drew w) HMX.out) HX1.out)
        have HSZ := Lib.hid (Ext.trans (Ext.drew w) HMX.out).size
        refine ⟨_, _, _, rfl, TM.laid (b := w.heap.size) HXX.out rfl (HK1.out.mono fun k hk => ⟨Nat.le_trans HSZ.out hk.1, hk.2⟩) (owns_extS HMO.out HX1.out), Ext.trans HXX.out (ext_new _ _)⟩
    case rest =>
    obtain ⟨t, K, LV, rfl, ht, hx0⟩ := hcut
    have HT := Lib.hid ht
    have HX0 := Lib.hid hx0
    have htw : w.heap.size ≤ t := ht.tO.1
    clear ht hx0
    generalize wc = w3 at HT HX0 ⊢
    go_wp2_with fail
    go_loopw [8, 21] (fun _ iv wr => ∃ (j : Nat) (HV : Value) (hs' : List Value), j ≤ N ∧ iv = .int .i64 j ∧ TM w.heap.size (fun b => w.heap.size ≤ b ∧ b < wr.heap.size) wr t K HV LV hs' (os.take j) (List.replicate N 0) ks 0 ∧ Ext w wr) (fun _ iv _ => N - (intOf iv).toNat)
    case atStart => exact ⟨0, _, _, Nat.zero_le _, rfl, HT.out, HX0.out⟩
    case round =>
      obtain ⟨j, HV, hs', hj, rfl, htr, hxr⟩ := hrel
      have HTR := Lib.hid htr
      have HXR := Lib.hid hxr
      clear htr hxr
      by_cases hlt : j < N
      · have hjo : j < os.length := by rw [HON.out]; exact hlt
        have HTL := Lib.hid (show (os.take j).length = j from by rw [List.length_take]; omega)
        obtain ⟨v, hv, hvo⟩ := HH.out.at j hjo
        obtain ⟨g, off, rfl, c0⟩ := HPL.out j v hv
        obtain ⟨v1, v2, v3, rfl⟩ := hvo.shape
        have y0 := (HXR.out.cell (lt_of_cell c0)).trans c0
        obtain ⟨ha, hc, hHV, -, -⟩ := own_shapeP HTR.out.hown
        rw [HTL.out] at hHV
        subst hHV
        have HCP := Lib.hid (fun W (hW : Ext w W) => pCopied16_any _ os[j] W (hvo.mono hW) (fun r hr => HR.out r (hr ▸ List.getElem_mem hjo)))
        have c1 := (HTR.out.ext (Ext.drew wr)).blk.cell 1 _ rfl
        clear hv hvo c0
        go_wp2_with fail
        refine wp_region_plan (Below w.heap.size) (Below.keepsD _) (.quiet [0, 1, 2, 3, 5] (.two 4 (.one 6 (.one 7 (.one 8 (.quiet [9, 10] (.one 11 .done))))) 6 (.two 4 (.one 7 (.one 8 (.quiet [9, 10] (.one 11 .done)))) 7 (.one 4 (.one 8 (.quiet [9, 10] (.one 11 .done))))))) (by kernel_rfl) (by kernel_rfl) (fun c a a' w e h => (by exact ⟨e ▸ h.1, h.2⟩)) ?_
        refine wpPlan_quiet fun K0 hK0 => ?_
        simp only [pickOps, List.map_cons, List.map_nil, Option.getD_some, List.getElem?_toArray, List.getElem?_cons_zero, List.getElem?_cons_succ]
        repeat go_big_quiet_step (fail)
        refine wpQuiet_nil (hK0 _ ?_)
        clear hK0 K0
        refine wpPlan_two (fun K1 hK1 => ?_) (fun K1 hK1 => ?_)
        · simp only [pickOps, List.map_cons, List.map_nil, Option.getD_some, List.getElem?_toArray, List.getElem?_cons_zero, List.getElem?_cons_succ]
          go_wp2_with fail
          refine ⟨Below.refl _ _, hK1 _ _ ?_⟩
          clear hK1 K1
          refine wpPlan_one fun K1 hK1 => ?_
          simp only [pickOps, List.map_cons, List.map_nil, Option.getD_some, List.getElem?_toArray, List.getElem?_cons_zero, List.getElem?_cons_succ]
          go_wp2_with fail
          refine (HCP.out wr.drew (Ext.trans HXR.out (Ext.drew wr))).mono ?_
          rintro e w1 ⟨⟨o, rfl, ho⟩, x1⟩
          obtain ⟨oa, on, oc, hoe⟩ := ho.opt.shape
          subst hoe
          have HOO := Lib.hid ho
          have HX1 := Lib.hid x1
          have HT1 := Lib.hid ((HTR.out.ext (Ext.trans (Ext.drew wr) x1)).more (O' := fun b => w.heap.size ≤ b ∧ b < w1.heap.size) (fun b hb => ⟨hb.1, Nat.lt_of_lt_of_le hb.2 (Ext.trans (Ext.drew wr) x1).size⟩) (fun b hb => hb))
          have HSZ1 := Lib.hid (show w.heap.size ≤ w1.heap.size from Nat.le_trans HXR.out.size (Ext.trans (Ext.drew wr) x1).size)
          clear ho x1
          go_wp2_with fail
          refine ⟨(show Below w.heap.size wr.drew w1 from Below.mono HX1.out (Nat.le_trans HXR.out.size (Ext.drew wr).size)), hK1 _ _ ?_⟩
          clear hK1 K1 c1
          refine wpPlan_one fun K1 hK1 => ?_
          simp only [pickOps, List.map_cons, List.map_nil, Option.getD_some, List.getElem?_toArray, List.getElem?_cons_zero, List.getElem?_cons_succ]
          go_wp2_with fail
          refine ⟨(Below.refl w.heap.size w1).alloc HSZ1.out _, hK1 _ _ ?_⟩
          clear hK1 K1
          refine wpPlan_one fun K1 hK1 => ?_
          simp only [pickOps, List.map_cons, List.map_nil, Option.getD_some, List.getElem?_toArray, List.getElem?_cons_zero, List.getElem?_cons_succ]
          go_wp2_with (at_builtin; go_loud (refine wpList_append_oneG rfl (.tmp 29) (.tmp 32) 22 rfl w.heap.size 26 i1 (.slice none 0 0) 1 24 Try.underlying22 hi1 hy0 hy1 hy2 rfl (by decide) (by decide) (.slice ha j hc) j hs' [.slice oa on oc] rfl (by have h := HT1.out.hown; rw [HTL.out] at h; exact h) rfl rfl (by simp [Value.oneCell']) (by omega) HSZ1.out ?_); intro v5 w5 h5a h5b h5c h5d; have HO5 := Lib.hid h5a; have HW5 := Lib.hid h5b; have HY5 := Lib.hid h5c; have HG5 := Lib.hid h5d; clear h5a h5b h5c h5d)
          obtain ⟨va, vc, hve, -, -⟩ := own_shapeP HO5.out
          subst hve
          refine ⟨HW5.out, hK1 _ _ ?_⟩
          clear hK1 K1
          simp only [Act.put, List.setIfInBounds_toArray, List.set]
          have HT5 := Lib.hid (HT1.out.push (o := os[j]) (HOO.out.base_le (Nat.le_trans HXR.out.size (Ext.drew wr).size) |>.mono fun k hk => ⟨Nat.le_trans (Nat.le_trans HXR.out.size (Ext.drew wr).size) hk.1, hk.2⟩) (fun r hr => HF.out r (hr ▸ List.getElem_mem hjo)) (by rw [HTL.out]; exact HO5.out) HY5.out HG5.out)
          have b5 := (HT1.out.blk.others HY5.out fun e => HT1.out.blk.apart HT1.out.hown (by decide) e)
          have c5 := b5.cell 1 _ rfl
          have f5 := b5.free 1
          have HB5 := Lib.hid (show Below w.heap.size w1 w5 from (Below.alloc (Below.refl w.heap.size w1) HSZ1.out _).trans HW5.out)
          clear b5
          refine wpPlan_quiet fun K3 hK3 => ?_
          simp only [pickOps, List.map_cons, List.map_nil, Option.getD_some, List.getElem?_toArray, List.getElem?_cons_zero, List.getElem?_cons_succ]
          repeat go_big_quiet_step (fail)
          refine wpQuiet_nil (hK3 _ ?_)
          clear hK3 K3
          refine wpPlan_one fun K1 hK1 => ?_
          simp only [pickOps, List.map_cons, List.map_nil, Option.getD_some, List.getElem?_toArray, List.getElem?_cons_zero, List.getElem?_cons_succ]
          go_wp2_with fail
          refine ⟨Below.setCell (Below.refl w.heap.size w5) htw _, hK1 _ _ ?_⟩
          clear hK1 K1 c5 f5
          refine wpPlan_done ?_
          go_wp2_with fail
          go_roundw
          case rel =>
            refine ⟨j + 1, .slice va (j + 1) vc, hs' ++ [.slice oa on oc], by omega, by go_num, ?_, ?_⟩
            · rw [List.take_succ_eq_append_getElem hjo]
              refine HT5.out.more (fun b hb => ?_) (fun b hb => hb)
              have h1 := HB5.out.size
              have h2 := HSZ1.out
              have h3 : ∀ u, (w5.setCell ⟨t, 1, none⟩ u).heap.size = w5.heap.size := fun u => by simp [World.setCell]
              rw [h3]
              rcases hb with hb | hb
              · exact ⟨hb.1, by omega⟩
              · exact ⟨by omega, hb.2⟩
            · exact (show Below w.heap.size w _ from Below.setCell ((show Below w.heap.size w w1 from (show Below w.heap.size w wr from HXR.out).trans ((show Below w.heap.size wr wr.drew from Below.drew (Below.refl _ _)).trans (Below.mono HX1.out (Nat.le_trans HXR.out.size (Ext.drew wr).size)))).trans HB5.out) htw _)
          case measure => simp [intOf]; omega
        · simp only [pickOps, List.map_cons, List.map_nil, Option.getD_some, List.getElem?_toArray, List.getElem?_cons_zero, List.getElem?_cons_succ]
          go_wp2_with fail
          refine (HCP.out wr.drew (Ext.trans HXR.out (Ext.drew wr))).mono ?_
          rintro e w1 ⟨⟨o, rfl, ho⟩, x1⟩
          obtain ⟨oa, on, oc, hoe⟩ := ho.opt.shape
          subst hoe
          have HOO := Lib.hid ho
          have HX1 := Lib.hid x1
          have HT1 := Lib.hid ((HTR.out.ext (Ext.trans (Ext.drew wr) x1)).more (O' := fun b => w.heap.size ≤ b ∧ b < w1.heap.size) (fun b hb => ⟨hb.1, Nat.lt_of_lt_of_le hb.2 (Ext.trans (Ext.drew wr) x1).size⟩) (fun b hb => hb))
          have HSZ1 := Lib.hid (show w.heap.size ≤ w1.heap.size from Nat.le_trans HXR.out.size (Ext.trans (Ext.drew wr) x1).size)
          clear ho x1
          go_wp2_with fail
          refine ⟨(show Below w.heap.size wr.drew w1 from Below.mono HX1.out (Nat.le_trans HXR.out.size (Ext.drew wr).size)), hK1 _ _ ?_⟩
          clear hK1 K1 c1
          have c1 := HT1.out.blk.cell 1 _ rfl
          refine wpPlan_two (fun K1 hK1 => ?_) (fun K1 hK1 => ?_)
          · simp only [pickOps, List.map_cons, List.map_nil, Option.getD_some, List.getElem?_toArray, List.getElem?_cons_zero, List.getElem?_cons_succ]
            go_wp2_with fail
            refine ⟨Below.refl _ _, hK1 _ _ ?_⟩
            clear hK1 K1
            clear c1
            refine wpPlan_one fun K1 hK1 => ?_
            simp only [pickOps, List.map_cons, List.map_nil, Option.getD_some, List.getElem?_toArray, List.getElem?_cons_zero, List.getElem?_cons_succ]
            go_wp2_with fail
            refine ⟨(Below.refl w.heap.size w1).alloc HSZ1.out _, hK1 _ _ ?_⟩
            clear hK1 K1
            refine wpPlan_one fun K1 hK1 => ?_
            simp only [pickOps, List.map_cons, List.map_nil, Option.getD_some, List.getElem?_toArray, List.getElem?_cons_zero, List.getElem?_cons_succ]
            go_wp2_with (at_builtin; go_loud (refine wpList_append_oneG rfl (.tmp 29) (.tmp 32) 22 rfl w.heap.size 26 i1 (.slice none 0 0) 1 24 Try.underlying22 hi1 hy0 hy1 hy2 rfl (by decide) (by decide) (.slice ha j hc) j hs' [.slice oa on oc] rfl (by have h := HT1.out.hown; rw [HTL.out] at h; exact h) rfl rfl (by simp [Value.oneCell']) (by omega) HSZ1.out ?_); intro v5 w5 h5a h5b h5c h5d; have HO5 := Lib.hid h5a; have HW5 := Lib.hid h5b; have HY5 := Lib.hid h5c; have HG5 := Lib.hid h5d; clear h5a h5b h5c h5d)
            obtain ⟨va, vc, hve, -, -⟩ := own_shapeP HO5.out
            subst hve
            refine ⟨HW5.out, hK1 _ _ ?_⟩
            clear hK1 K1
            simp only [Act.put, List.setIfInBounds_toArray, List.set]
            have HT5 := Lib.hid (HT1.out.push (o := os[j]) (HOO.out.base_le (Nat.le_trans HXR.out.size (Ext.drew wr).size) |>.mono fun k hk => ⟨Nat.le_trans (Nat.le_trans HXR.out.size (Ext.drew wr).size) hk.1, hk.2⟩) (fun r hr => HF.out r (hr ▸ List.getElem_mem hjo)) (by rw [HTL.out]; exact HO5.out) HY5.out HG5.out)
            have b5 := (HT1.out.blk.others HY5.out fun e => HT1.out.blk.apart HT1.out.hown (by decide) e)
            have c5 := b5.cell 1 _ rfl
            have f5 := b5.free 1
            have HB5 := Lib.hid (show Below w.heap.size w1 w5 from (Below.alloc (Below.refl w.heap.size w1) HSZ1.out _).trans HW5.out)
            clear b5
            refine wpPlan_quiet fun K3 hK3 => ?_
            simp only [pickOps, List.map_cons, List.map_nil, Option.getD_some, List.getElem?_toArray, List.getElem?_cons_zero, List.getElem?_cons_succ]
            repeat go_big_quiet_step (fail)
            refine wpQuiet_nil (hK3 _ ?_)
            clear hK3 K3
            refine wpPlan_one fun K1 hK1 => ?_
            simp only [pickOps, List.map_cons, List.map_nil, Option.getD_some, List.getElem?_toArray, List.getElem?_cons_zero, List.getElem?_cons_succ]
            go_wp2_with fail
            refine ⟨Below.setCell (Below.refl w.heap.size w5) htw _, hK1 _ _ ?_⟩
            clear hK1 K1 c5 f5
            refine wpPlan_done ?_
            go_wp2_with fail
            go_roundw
            case rel =>
              refine ⟨j + 1, .slice va (j + 1) vc, hs' ++ [.slice oa on oc], by omega, by go_num, ?_, ?_⟩
              · rw [List.take_succ_eq_append_getElem hjo]
                refine HT5.out.more (fun b hb => ?_) (fun b hb => hb)
                have h1 := HB5.out.size
                have h2 := HSZ1.out
                have h3 : ∀ u, (w5.setCell ⟨t, 1, none⟩ u).heap.size = w5.heap.size := fun u => by simp [World.setCell]
                rw [h3]
                rcases hb with hb | hb
                · exact ⟨hb.1, by omega⟩
                · exact ⟨by omega, hb.2⟩
              · exact (show Below w.heap.size w _ from Below.setCell ((show Below w.heap.size w w1 from (show Below w.heap.size w wr from HXR.out).trans ((show Below w.heap.size wr wr.drew from Below.drew (Below.refl _ _)).trans (Below.mono HX1.out (Nat.le_trans HXR.out.size (Ext.drew wr).size)))).trans HB5.out) htw _)
            case measure => simp [intOf]; omega
          · simp only [pickOps, List.map_cons, List.map_nil, Option.getD_some, List.getElem?_toArray, List.getElem?_cons_zero, List.getElem?_cons_succ]
            go_wp2_with fail
            refine ⟨(Below.refl w.heap.size w1).alloc HSZ1.out _, hK1 _ _ ?_⟩
            clear hK1 K1
            clear c1
            have c1 := (HT1.out.ext (ext_new w1 (.cells #[.slice oa on oc] 26))).blk.cell 1 _ rfl
            refine wpPlan_one fun K1 hK1 => ?_
            simp only [pickOps, List.map_cons, List.map_nil, Option.getD_some, List.getElem?_toArray, List.getElem?_cons_zero, List.getElem?_cons_succ]
            go_wp2_with fail
            refine ⟨Below.refl _ _, hK1 _ _ ?_⟩
            clear hK1 K1
            clear c1
            refine wpPlan_one fun K1 hK1 => ?_
            simp only [pickOps, List.map_cons, List.map_nil, Option.getD_some, List.getElem?_toArray, List.getElem?_cons_zero, List.getElem?_cons_succ]
            go_wp2_with (at_builtin; go_loud (refine wpList_append_oneG rfl (.tmp 29) (.tmp 32) 22 rfl w.heap.size 26 i1 (.slice none 0 0) 1 24 Try.underlying22 hi1 hy0 hy1 hy2 rfl (by decide) (by decide) (.slice ha j hc) j hs' [.slice oa on oc] rfl (by have h := HT1.out.hown; rw [HTL.out] at h; exact h) rfl rfl (by simp [Value.oneCell']) (by omega) HSZ1.out ?_); intro v5 w5 h5a h5b h5c h5d; have HO5 := Lib.hid h5a; have HW5 := Lib.hid h5b; have HY5 := Lib.hid h5c; have HG5 := Lib.hid h5d; clear h5a h5b h5c h5d)
            obtain ⟨va, vc, hve, -, -⟩ := own_shapeP HO5.out
            subst hve
            refine ⟨HW5.out, hK1 _ _ ?_⟩
            clear hK1 K1
            simp only [Act.put, List.setIfInBounds_toArray, List.set]
            have HT5 := Lib.hid (HT1.out.push (o := os[j]) (HOO.out.base_le (Nat.le_trans HXR.out.size (Ext.drew wr).size) |>.mono fun k hk => ⟨Nat.le_trans (Nat.le_trans HXR.out.size (Ext.drew wr).size) hk.1, hk.2⟩) (fun r hr => HF.out r (hr ▸ List.getElem_mem hjo)) (by rw [HTL.out]; exact HO5.out) HY5.out HG5.out)
            have b5 := (HT1.out.blk.others HY5.out fun e => HT1.out.blk.apart HT1.out.hown (by decide) e)
            have c5 := b5.cell 1 _ rfl
            have f5 := b5.free 1
            have HB5 := Lib.hid (show Below w.heap.size w1 w5 from (Below.alloc (Below.refl w.heap.size w1) HSZ1.out _).trans HW5.out)
            clear b5
            refine wpPlan_quiet fun K3 hK3 => ?_
            simp only [pickOps, List.map_cons, List.map_nil, Option.getD_some, List.getElem?_toArray, List.getElem?_cons_zero, List.getElem?_cons_succ]
            repeat go_big_quiet_step (fail)
            refine wpQuiet_nil (hK3 _ ?_)
            clear hK3 K3
            refine wpPlan_one fun K1 hK1 => ?_
            simp only [pickOps, List.map_cons, List.map_nil, Option.getD_some, List.getElem?_toArray, List.getElem?_cons_zero, List.getElem?_cons_succ]
            go_wp2_with fail
            refine ⟨Below.setCell (Below.refl w.heap.size w5) htw _, hK1 _ _ ?_⟩
            clear hK1 K1 c5 f5
            refine wpPlan_done ?_
            go_wp2_with fail
            go_roundw
            case rel =>
              refine ⟨j + 1, .slice va (j + 1) vc, hs' ++ [.slice oa on oc], by omega, by go_num, ?_, ?_⟩
              · rw [List.take_succ_eq_append_getElem hjo]
                refine HT5.out.more (fun b hb => ?_) (fun b hb => hb)
                have h1 := HB5.out.size
                have h2 := HSZ1.out
                have h3 : ∀ u, (w5.setCell ⟨t, 1, none⟩ u).heap.size = w5.heap.size := fun u => by simp [World.setCell]
                rw [h3]
                rcases hb with hb | hb
                · exact ⟨hb.1, by omega⟩
                · exact ⟨by omega, hb.2⟩
              · exact (show Below w.heap.size w _ from Below.setCell ((show Below w.heap.size w w1 from (show Below w.heap.size w wr from HXR.out).trans ((show Below w.heap.size wr wr.drew from Below.drew (Below.refl _ _)).trans (Below.mono HX1.out (Nat.le_trans HXR.out.size (Ext.drew wr).size)))).trans HB5.out) htw _)
            case measure => simp [intOf]; omega
      · have HALL := Lib.hid (show os.take j = os from List.take_of_length_le (by rw [HON.out]; omega))
        rw [HALL.out] at HTR
        clear HALL HT HX0
        by_cases h0 : 0 < N
        · have e0 : decide ((N : Int) > 0) = true := decide_eq_true (by omega)
          have e0' : decide (0 < N) = true := decide_eq_true h0
          obtain ⟨g, lc, hLV, hlc1, hlc2, -, -, -, hgt, -⟩ := HTR.out.loses (i := 0) (by rw [List.length_replicate]; exact h0)
          rw [List.length_replicate] at hLV hlc1
          subst hLV
          have HP := Lib.hid (pPlay16_any w.heap.size _ t K HV (.slice (some ⟨g, 0, none⟩) N lc) hs' os ks (by rw [HON.out]; omega) 4 1 (List.replicate N 0) 0 wr.drew (HTR.out.ext (Ext.drew wr)) (by rw [List.length_replicate, HON.out]) (Nat.le_refl _) (by rw [HON.out]; omega) (by rw [HON.out]; omega))
          rw [show ((1 : Nat) : Int) = 1 from rfl] at HP
          have HCN := Lib.hid (cnt_le os.length (by rw [HON.out]; omega))
          generalize cntN 4 os.length 1 = CN at HP HCN
          have HFN := Lib.hid (fun (lost : List Nat) (h1 : lost.length = os.length) (h2 : ∀ x, x < os.length → Anc 1 x → lost[x]? = some (losF (cmpR ks) os x)) => full_new (cmpR_pre ks) (os := os) (lost := lost.set 0 (winF (cmpR ks) os 1)) (by rw [List.length_set]; exact h1) (fun x hx1 hx2 => by rw [List.getElem?_set_ne (by omega)]; exact h2 x hx2 (anc_one x hx1)) (fun h => by rw [List.getElem?_set_self (by rw [h1]; exact h)]))
          generalize winF (cmpR ks) os 1 = WN at HP HFN
          have c2 := (HTR.out.ext (Ext.drew wr)).blk.cell 2 _ rfl
          have z2 : ∀ z : Later (Stay t) wr.drew, z.val.cell? ⟨t, 2, none⟩ = some (.slice (some ⟨g, 0, none⟩) N lc) := fun z => z.ext _ c2
          unfold maxLen at hlc2
          have h0i : (0 : Int) < (N : Int) := by omega
          go_wp2_with fail
          refine wp_region_segs (Stay t) (Stay.keeps t) [([0, 1, 2, 3, 4], some 5), ([6], some 7)] (by kernel_rfl) (by kernel_rfl) (fun c a a' w e h => (by exact ⟨e ▸ h.1, h.2⟩)) ?_
          simp only [pickSegs, pickOps, List.map_cons, List.map_nil, Option.map_some, Option.getD_some, List.getElem?_toArray, List.getElem?_cons_zero, List.getElem?_cons_succ]
          refine wpSegs_some fun K' hK' => ?_
          repeat go_big_quiet_step (fail)
          refine wpQuiet_nil ?_
          clear z2
          go_wp2_with fail
          refine HP.out.mono ?_
          rintro e w2 ⟨rfl, ho2, lost2, n2, ht2, hl2, hb2, hx2, -⟩
          have HO2 := Lib.hid ho2
          have HT2 := Lib.hid ht2
          have HL2 := Lib.hid hl2
          have HB2 := Lib.hid hb2
          have HF2 := Lib.hid (HFN.out lost2 hl2 hx2)
          clear ho2 ht2 hl2 hb2 hx2
          go_wp2_with fail
          refine ⟨fun u hu => ?_, hK' _ _ ?_⟩
          · rw [c2] at hu
            rw [HT2.out.blk.cell 2 _ rfl, ← hu]
          clear hK' K'
          obtain ⟨g', lc', e', -, -, -, cL2, fL2, -, hst2⟩ := HT2.out.loses (i := 0) (by rw [HL2.out, HON.out]; exact h0)
          have hg' : g = g' := by
            injection e' with e1
            injection e1 with e1
            injection e1
          subst hg'
          have HST2 := Lib.hid (hst2 WN)
          clear hst2 e' c2
          refine wpSegs_some fun K' hK' => ?_
          repeat go_big_quiet_step (fail)
          refine wpQuiet_nil ?_
          go_wp2_with fail
          refine ⟨fun u hu => (cell_set_other (.inl (Ne.symm hgt))).trans hu, hK' _ _ ?_⟩
          clear hK' K' cL2 fL2
          refine wpSegs_nil ?_
          go_wp2_with fail
          go_ret2
          refine ⟨.inr ⟨by omega, ⟨t, 0, none⟩, _, n2, rfl, ⟨t, K, HV, _, hs', _, rfl, HST2.out.1.base_le HW.out.size, by rw [HON.out]; omega, _, HF2.out⟩, ?_, ?_, fun b hb => hb.1⟩, ?_⟩
          · exact (HB2.out (Int.le_refl _) (by have := HCN.out; rw [HON.out] at this; omega)).1
          · have h1 := (HB2.out (Int.le_refl _) (by have := HCN.out; rw [HON.out] at this; omega)).2
            have h2 := HCN.out
            rw [HON.out] at h2
            omega
          · exact (show Below w.heap.size w _ from ((show Below w.heap.size w wr from HXR.out).trans ((show Below w.heap.size wr wr.drew from Below.drew (Below.refl _ _)))).trans (((HO2.out.trans HST2.out.2 (fun _ _ h => h)).mono (fun b _ hb => (HTR.out.wr hb).1) |>.below (Nat.le_trans HXR.out.size (Ext.drew wr).size) (fun b hb => hb))))
        · have e0 : decide ((N : Int) > 0) = false := decide_eq_false (by omega)
          have e0' : decide (0 < N) = false := decide_eq_false h0
          have hos : os = [] := List.eq_nil_of_length_eq_zero (by rw [HON.out]; omega)
          have HFN := Lib.hid (full_new (cmpR_pre ks) (os := os) (lost := List.replicate N 0) (by rw [List.length_replicate, HON.out]) (fun x hx1 hx2 => by rw [HON.out] at hx2; omega) (fun h => by rw [HON.out] at h; omega))
          clear hos
          go_wp2_with fail
          go_ret2
          exact ⟨.inr ⟨by omega, ⟨t, 0, none⟩, _, 0, rfl, ⟨t, K, HV, LV, hs', _, rfl, HTR.out.base_le HW.out.size, by rw [HON.out]; omega, _, HFN.out⟩, Int.le_refl _, by omega, fun b hb => hb.1⟩, HXR.out⟩

end Go.Proofs.Ytodjaggihmcllaa

/-
  The program's contracts of layer 16: a tree's calls, and those of none.
-/
namespace Go.Proofs.Ytodjaggihmcllaa
open Go.RowKit Go.BigFrame LosWin

/-- What stands behind a put. -/
def putS (ks : List Ky) (os : List (Option (List V))) (o : Option (List V)) : List (Option (List V)) := match LosPure.nextS (cmpR ks) os with | some i => os.set i o | none => os

theorem pNext16_any (B : Nat) (O : Nat → Prop) (p : Addr) (os : List (Option (List V))) (ks : List Ky) (n : Int) (w : World) (h : Tre B O w p os ks n) :
    Calls Try.prog 11 #[.pointer (some p)] w fun e w' => e = .returned (.tuple #[.int .i64 (nextI ks os), .bool (nextB ks os)]) ∧ OnlyS O w w' ∧ ∃ O', Tre B O' w' p os ks n ∧ ∀ b, O' b → O b ∨ w.heap.size ≤ b := by
  obtain ⟨t, K, HV, LV, hs, lost, rfl, h⟩ := h
  refine (pNextT_any B O t K HV LV hs os lost ks n w h).mono ?_
  rintro e w' ⟨rfl, hx⟩
  exact ⟨rfl, OnlyS.of_ext hx, O, ⟨t, K, HV, LV, hs, lost, rfl, h.1.ext hx, h.2⟩, fun b hb => .inl hb⟩

set_option maxRecDepth 100000 in
set_option maxHeartbeats 1000000 in
theorem pPut16_any (B : Nat) (O : Nat → Prop) (p : Addr) (os : List (Option (List V))) (ks : List Ky) (n : Int) (v : Value) (o : Option (List V)) (w : World) (h : Tre B O w p os ks n) (hv : OptV w v o) (hf : ∀ r, o = some r → FitR 5000 r ∧ r.length ≤ 1000000) :
    Calls Try.prog 13 #[.pointer (some p), v] w fun e w' => e = .returned (.int .i64 (if nextB ks os = true then 0 else 2)) ∧ OnlyS O w w' ∧ ∃ O' n', Tre B O' w' p (putS ks os o) ks n' ∧ (∀ b, O' b → O b ∨ w.heap.size ≤ b) ∧ (0 ≤ n → n ≤ 1000000000 → n ≤ n') ∧ (0 ≤ n → n ≤ 1000000000 → ∀ k : Nat, os.length ≤ 2 ^ k → n' ≤ n + k) := by
  obtain ⟨t, K, HV, LV, hs, lost, rfl, h⟩ := h
  have HT := Lib.hid h
  have HV := Lib.hid hv
  have HFT := Lib.hid hf
  have HNX := Lib.hid (pNextT_any B O t K _ LV hs os lost ks n w h)
  have HQ := Lib.hid (show (nextB ks os = false → putS ks os o = os) ∧ (nextB ks os = true → ∃ i : Nat, 0 < os.length ∧ lost[0]? = some i ∧ nextI ks os = (i : Int) ∧ putS ks os o = os.set i o) from by
    by_cases h0 : 0 < os.length
    · obtain ⟨i, h1, h2, h3⟩ := h.win h0
      unfold nextB nextI putS
      rw [h3]
      cases os[i]?.join.isSome with
      | true => exact ⟨fun h => by simp at h, fun _ => ⟨i, h0, h1, rfl, rfl⟩⟩
      | false => exact ⟨fun _ => rfl, fun h => by simp at h⟩
    · have : os = [] := List.eq_nil_of_length_eq_zero (by omega)
      subst this
      exact ⟨fun _ => rfl, fun h => by cases h⟩)
  obtain ⟨va, vn, vc, rfl⟩ := hv.shape
  generalize nextI ks os = I at HNX HQ
  generalize nextB ks os = Q at HNX HQ ⊢
  generalize putS ks os o = os2 at HQ ⊢
  clear h hv hf
  go_enter Try.func13, Try.ntmps13
  go_wp2_with fail
  refine HNX.out.mono ?_
  rintro e w1 ⟨rfl, x1⟩
  have HX1 := Lib.hid x1
  clear x1
  cases Q with
  | false =>
    obtain rfl := HQ.out.1 rfl
    go_wp2_with fail
    go_ret
    exact ⟨rfl, OnlyS.of_ext HX1.out, O, n, ⟨t, K, _, LV, hs, lost, rfl, HT.out.1.ext HX1.out, HT.out.2⟩, fun b hb => .inl hb, fun _ _ => Int.le_refl _, fun _ _ k _ => by omega⟩
  | true =>
    obtain ⟨i, h0, hl0, rfl, rfl⟩ := HQ.out.2 rfl
    have HL0 := Lib.hid hl0
    clear hl0
    go_wp2_with fail
    refine (pCopied16_any _ o w1 (HV.out.mono HX1.out) (fun r hr => (HFT.out r hr).2)).mono ?_
    rintro e w2 ⟨⟨u, rfl, ho⟩, x2⟩
    have HB := Lib.hid (show B ≤ w.heap.size from by have := HT.out.1.lt t HT.out.1.tO; omega)
    have HX2 := Lib.hid x2
    have HTM := Lib.hid (((HT.out.1.ext HX1.out).ext x2).more (O' := fun b => O b ∨ (w1.heap.size ≤ b ∧ b < w2.heap.size)) (fun b hb => .inl hb) (fun b hb => by
      have h1 := HX1.out.size
      have h2 := x2.size
      have h3 := HB.out
      rcases hb with hb | hb
      · have := HT.out.1.lt b hb
        omega
      · omega))
    have HU := Lib.hid ((ho.base_le (Nat.le_trans HB.out HX1.out.size)).mono (O' := fun b => O b ∨ (w1.heap.size ≤ b ∧ b < w2.heap.size)) fun k hk => .inr hk)
    obtain ⟨ua, un, uc, rfl⟩ := ho.opt.shape
    clear ho x2
    go_wp2_with fail
    refine (pReplace16_any B _ t K _ LV hs os lost ks n i _ o w2 ⟨HTM.out, HT.out.2⟩ h0 HL0.out HU.out (fun r hr => (HFT.out r hr).1)).mono ?_
    rintro e w3 ⟨rfl, ho3, lost3, n3, ht3, hb3⟩
    have HO3 := Lib.hid (((OnlyS.of_ext (X := O) (Ext.trans HX1.out HX2.out))).trans (ho3.mono fun b _ hb => HT.out.1.wr hb) (fun _ _ h => h))
    have HT3 := Lib.hid ht3
    have HB3 := Lib.hid hb3
    clear ho3 ht3 hb3
    go_wp2_with fail
    go_ret
    refine ⟨rfl, HO3.out, _, n3, ⟨t, K, _, LV, _, lost3, rfl, HT3.out⟩, fun b hb => ?_, fun h1 h2 => (HB3.out 4 HT.out.2.1 h1 (by omega)).1, fun h1 h2 k hk => ?_⟩
    · rcases hb with hb | hb
      · exact .inl hb
      · exact .inr (Nat.le_trans HX1.out.size hb.1)
    · rcases Nat.lt_or_ge 4 k with h4 | h4
      · have := (HB3.out 4 HT.out.2.1 h1 (by omega)).2
        omega
      · exact (HB3.out k hk h1 (by omega)).2

set_option maxRecDepth 100000 in
theorem pAsked16_any (B : Nat) (O : Nat → Prop) (p : Addr) (os : List (Option (List V))) (ks : List Ky) (n : Int) (w : World) (h : Tre B O w p os ks n) :
    Calls Try.prog 18 #[.pointer (some p)] w fun e w' => e = .returned (.int .i64 n) ∧ w' = w := by
  obtain ⟨t, K, HV, LV, hs, lost, rfl, h, -⟩ := h
  have c3 := h.blk.cell 3 _ rfl
  clear h
  go_enter Try.func18, Try.ntmps18
  go_wp2_with fail
  go_ret
  exact ⟨rfl, rfl⟩

set_option maxRecDepth 100000 in
theorem pNextNil16_any (w : World) : Calls Try.prog 11 #[.pointer none] w fun e w' => e = .returned (.tuple #[.int .i64 0, .bool false]) ∧ Ext w w' := by
  go_enter Try.func11, Try.ntmps11
  go_wp2_with fail
  refine wp_region_segs Ext Ext.keeps [(List.range 25, none)] (by kernel_rfl) (by kernel_rfl) (fun c a a' w e h => (by exact ⟨e ▸ h.1, h.2⟩)) ?_
  simp only [List.range, List.range.loop, pickSegs, pickOps, List.map_cons, List.map_nil, Option.map_none, Option.getD_some, List.getElem?_toArray, List.getElem?_cons_zero, List.getElem?_cons_succ]
  refine wpSegs_none ?_
  repeat go_big_quiet_step (fail)
  refine wpQuiet_nil (wpSegs_nil ?_)
  go_wp2_with fail
  go_ret2
  exact ⟨rfl, Ext.drew w⟩
set_option maxRecDepth 100000 in
theorem pPutNil16_any (v : Value) (r : List V) (w : World) (hv : RdVals w v r) : Calls Try.prog 13 #[.pointer none, v] w fun e w' => e = .returned (.int .i64 2) ∧ Ext w w' := by
  obtain ⟨va, vc, rfl, -, -⟩ := hv.shape
  go_enter Try.func13, Try.ntmps13
  go_wp2_with fail
  refine (pNextNil16_any w).mono ?_
  rintro e w1 ⟨rfl, x1⟩
  have HX1 := Lib.hid x1
  clear x1
  go_wp2_with fail
  go_ret
  exact ⟨rfl, HX1.out⟩
set_option maxRecDepth 100000 in
theorem pAskedNil16_any (w : World) : Calls Try.prog 18 #[.pointer none] w fun e w' => e = .returned (.int .i64 0) ∧ w' = w := by
  go_enter Try.func18, Try.ntmps18
  go_wp2_with fail
  go_ret
  exact ⟨rfl, rfl⟩

end Go.Proofs.Ytodjaggihmcllaa

/-
  The program's contracts of layer 16: the first row of a list is taken; lists are cloned.
-/
namespace Go.Proofs.Ytodjaggihmcllaa
open Go.RowKit Go.BigFrame LosWin

set_option maxRecDepth 100000 in
set_option maxHeartbeats 1000000 in
theorem cloneLists_any (u : Value) (xs : List Value) (w : World) (hu : RdV w u xs) (h1 : ∀ x ∈ xs, x.oneCell' = true) (hl : xs.length ≤ 1000000) :
    Calls Try.prog 29 #[u] w fun e w' => (∃ v, e = .returned v ∧ w'.ownsRow w.heap.size 22 1 v xs.length xs) ∧ Ext w w' := by
  obtain ⟨i0, hi, hz0, hz1, hz2⟩ := info_parts Try.info_rows
  rcases hu with ⟨rfl, rfl⟩ | ⟨x, cap, rfl, h2, h3, h4⟩
  · have hq : ∀ w, (binOp BinOp.eql 40 (.slice none 0 0) (.slice none 0 0)).run Try.prog w = .ok (.bool true) w := fun w => Lib.run_eql_slice_nil w _ _ none 0 0 0 0 Try.underlying40
    clear h1
    go_enter Try.func29, Try.ntmps29
    go_wp2_with fail
    go_ret
    exact ⟨⟨_, rfl, owns_nil _ _ _ _⟩, Ext.keeps.refl _⟩
  · have hq : ∀ w, (binOp BinOp.eql 40 (.slice (some x) xs.length cap) (.slice none 0 0)).run Try.prog w = .ok (.bool false) w := fun w => Lib.run_eql_slice_nil w _ _ (some x) _ _ 0 0 Try.underlying40
    have HR := Lib.hid (RdV.mono (.inr ⟨x, cap, rfl, h2, h3, h4⟩ : RdV w (.slice (some x) xs.length cap) xs) (ext_new w (.cells #[] 22)))
    have HE := Lib.hid (show (w.alloc (.cells #[] 22)).ownsRow w.heap.size 22 1 (.slice (some ⟨w.heap.size, 0, none⟩) 0 0) 0 [] from World.ownsRow_made w #[] 0 (Nat.le_refl _) (by simp [maxLen]) rfl)
    have H1 := Lib.hid h1
    clear h4 h1
    go_enter Try.func29, Try.ntmps29
    go_wp2_with (at_builtin; go_loud (refine wpList_append_rdA rfl (.tmp 5) (.tmp 6) 40 rfl w.heap.size 22 i0 (.slice none 0 0) 24 Try.underlying40 hi hz0 hz1 hz2 rfl _ 0 [] rfl HE.out _ xs rfl HR.out H1.out (by unfold maxLen; omega) (by omega) (by simp) ?_); intro v2 w2 hown2 hbel2 _ _; rw [List.nil_append, Nat.zero_add] at hown2; have HO2 := Lib.hid hown2; have HB2 := Lib.hid hbel2; clear hown2 hbel2)
    go_ret
    exact ⟨⟨_, rfl, HO2.out⟩, (show Below w.heap.size w _ from ext_new w _).trans HB2.out⟩

theorem HdLists.set {w : World} {hs : List Value} {ls : List (List (List V))} (h : HdLists w hs ls) (j : Nat) {v : Value} {l : List (List V)} (hv : RdRV w v l) : HdLists w (hs.set j v) (ls.set j l) := by
  refine ⟨by rw [List.length_set, List.length_set, h.1], fun i h1 h2 => ?_⟩
  rw [List.length_set] at h1 h2
  rw [List.getElem_set, List.getElem_set]
  by_cases e : j = i
  · rw [if_pos e, if_pos e]; exact hv
  · rw [if_neg e, if_neg e]; exact h.2 i h1 h2

set_option maxRecDepth 100000 in
set_option maxHeartbeats 1000000 in
theorem pTaken16_any (b : Nat) (w0 w : World) (L : Value) (N : Nat) (xs : List Value) (ls : List (List (List V))) (i : Nat) (hb : w0.heap.size ≤ b) (h : w.ownsRow b 22 1 L N xs) (hh : HdLists w0 xs ls) (hw : Below w0.heap.size w0 w) (hi : i < ls.length) (hN : N = ls.length) (_hbw : b ≤ w.heap.size) (hr : ∀ l ∈ ls, ∀ r ∈ l, r.length ≤ 1000000) :
    Calls Try.prog 30 #[L, .int .i64 i] w fun e w' => (∃ u xs', e = .returned u ∧ OptO w.heap.size (fun k => w.heap.size ≤ k ∧ k < w'.heap.size) w' u (ls[i].head?) ∧ w'.ownsRow b 22 1 L N xs' ∧ HdLists w0 xs' (ls.set i ls[i].tail)) ∧ OnlyS (fun k => L.ownBlock = some k) w w' := by
  obtain ⟨la, lc, rfl, hlc1, hlc2⟩ := own_shapeP h
  unfold maxLen at hlc2
  obtain ⟨g, rfl, -, fL, hgb, hgl, hst⟩ := own_at h (i := i) (by omega)
  obtain ⟨a, c, hx, hrd⟩ := hh.at i hi
  have cL := (h.cellAt i (by omega)).trans hx
  have HR := Lib.hid (hr _ (List.getElem_mem hi))
  have HO := Lib.hid h
  have HH := Lib.hid hh
  have HW := Lib.hid hw
  have hiN : i < N := by omega
  cases hc : ls[i] with
  | nil =>
    rw [hc] at cL
    have e : ls.set i [] = ls := by
      rw [← hc]
      exact List.set_getElem_self hi
    simp only [List.tail_nil, List.head?_nil]
    rw [e]
    simp only [List.length_nil] at cL
    clear h hh hx hrd hst e hc hr
    go_enter Try.func30, Try.ntmps30
    go_wp2_with fail
    go_ret
    exact ⟨⟨_, xs, rfl, rfl, HO.out, HH.out⟩, OnlyS.refl _ _⟩
  | cons r t =>
    rw [hc] at cL hrd HR
    obtain ⟨ha, hn, hcp, g1, off, r', t', a', c', e1, rfl, c0, hrv, hrt, hsl⟩ := hrd.cut (by simp)
    obtain ⟨rfl, rfl⟩ : r = r' ∧ t = t' := by
      injection e1 with e2 e3
      exact ⟨e2, e3⟩
    simp only [List.tail_cons, List.head?_cons]
    have HST := Lib.hid (fun (W : World) (h : W.ownsRow b 22 1 (.slice (some ⟨g, 0, none⟩) N lc) N xs) => (h.stored i (.slice a' ((r :: t).length - 1) c')).1)
    have HHS := Lib.hid (hh.set i hrt)
    have y0 := (hw.cell (lt_of_cell c0)).trans c0
    have HRV := Lib.hid ((hrv.mono hw).mono (ext_new w (.cells #[] 38)))
    have HRL := Lib.hid (show ([] : List V).length + r.length ≤ 100000000 from by have := HR.out r (by simp); simp; omega)
    have hg1 : g1 < w0.heap.size := lt_of_cell c0
    have hg1w : g1 < w.heap.size := Nat.lt_of_lt_of_le hg1 hw.size
    have HGNE : g1 ≠ g := by omega
    obtain ⟨M, hM⟩ : ∃ M, (r :: t).length = M := ⟨_, rfl⟩
    rw [hM] at cL HST HHS hsl
    have hM0 : 0 < M := by rw [← hM]; simp
    have e0 : ((M : Int) == 0) = false := by simp; omega
    have e0' : (M == 0) = false := by simp; omega
    clear h hh hx hrd hst hc hr e1 c0 hrv hrt hM
    go_enter Try.func30, Try.ntmps30
    go_wp2_with (at_builtin; first
      | (refine wpList_append_valsN rfl (.tmp 12) (.tmp 18) 26 rfl Try.underlying26 w.heap.size _ ([] : List V) _ r rfl (empty_vals w) rfl HRV.out HRL.out (by simp) ?_
         intro v2 w2 hown2 hbel2 _ hnil2
         rw [List.nil_append] at hown2
         have HO2 := Lib.hid hown2
         have HX2 := Lib.hid (show Ext w w2 from (show Below w.heap.size w _ from ext_new w _).trans hbel2)
         have HN2 := Lib.hid (show v2 ≠ .slice none 0 0 from fun e => by have := (hnil2.1 e).1; cases this)
         have HO3 := Lib.hid (owns_extS HO.out HX2.out)
         have cL2 := (HX2.out.cell (lt_of_cell cL)).trans cL
         have fL2 := HO3.out.frozenAt i
         obtain ⟨p1, p2, hp⟩ := owns3_shape hown2
         subst hp
         clear hown2 hbel2 hnil2))
    go_ret
    refine ⟨⟨_, _, rfl, ⟨⟨own_others HO2.out (only_set g i w2 _) (fun k hk e => ?_), HN2.out⟩, fun k hk => ?_⟩, HST.out w2 HO3.out, HHS.out⟩, ?_⟩
    · have := (HO2.out.lt k hk).1
      omega
    · have := HO2.out.lt k hk
      simp only [World.setCell, Array.size_modify]
      exact this
    · exact (OnlyS.of_ext HX2.out).trans ((only_set g i w2 _).mono fun b _ e => by rw [e]; rfl) (fun _ _ h => h)

end Go.Proofs.Ytodjaggihmcllaa
