/-
  Texts of this proof, merged.
-/
import Derived.Test.YtaoegcakefodaaaGreatZ1
import Derived.Test.YtaoegcakefodaaaGreatZ2
import Derived.Test.YtaoegcakefodaaaGreatZ3
import Derived.Test.YtaoegcakefodaaaGreatZ4
import Derived.Test.YtaoegcakefodaaaGreatZ5
import Derived.Test.YtaoegcakefodaaaGreatZ6
import Derived.Test.YtaoegcakefodaaaGreatZ7
import Derived.Test.YtaoegcakefodaaaGreatZ8
import Derived.Test.YtaoegcakefodaaaGreatZ9
import Derived.Test.YtaoegcakefodaaaGreatZ10
import Derived.Test.YtaoegcakefodaaaGreatZ11
import Derived.Test.YtaoegcakefodaaaGreatZ12
import Derived.Test.YtaoegcakefodaaaGreatZ13
import Derived.Test.YtaoegcakefodaaaGreatZ14
import Derived.Test.YtaoegcakefodaaaGreatZ15
import Derived.Test.YtaoegcakefodaaaGreatZ16
import Derived.Test.YtaoegcakefodaaaGreatZ17
import Derived.Test.YtaoegcakefodaaaGreatZ18
namespace Go.Proofs.YtaoegcakefodaaaGreat
open Go.RowKit Go.BigFrame LosWin
def Tre (B : Nat) (O : Nat → Prop) (w : World) (p : Addr) (os : List (Option (List V))) (ks : List Ky) (n : Int) : Prop := ∃ t K HV LV hs lost, p = ⟨t, 0, none⟩ ∧ TF B O w t K HV LV hs os lost ks n
theorem Tre.lt {B : Nat} {O : Nat → Prop} {w : World} {p : Addr} {os : List (Option (List V))} {ks : List Ky} {n : Int} (h : Tre B O w p os ks n) {b : Nat} (hb : O b) : B ≤ b ∧ b < w.heap.size := by
  obtain ⟨t, K, HV, LV, hs, lost, -, h, -⟩ := h
  exact h.lt b hb
theorem Tre.keep {B : Nat} {O X : Nat → Prop} {w w' : World} {p : Addr} {os : List (Option (List V))} {ks : List Ky} {n : Int} (h : Tre B O w p os ks n) (hw : OnlyS X w w') (h1 : ∀ b, X b → ¬ O b) (_h2 : ∀ b, X b → B ≤ b) : Tre B O w' p os ks n := by
  obtain ⟨t, K, HV, LV, hs, lost, e, h, h3⟩ := h
  exact ⟨t, K, HV, LV, hs, lost, e, h.others hw h1, h3⟩
theorem Tre.fit {B : Nat} {O : Nat → Prop} {w : World} {p : Addr} {os : List (Option (List V))} {ks : List Ky} {n : Int} (h : Tre B O w p os ks n) : os.length ≤ 16 := by
  obtain ⟨t, K, HV, LV, hs, lost, -, -, h, -⟩ := h
  exact h
theorem TM.laid {b : Nat} {w w2 : World} {K LV : Value} {ks : List Ky} {N : Nat} (hx : Ext w w2) (hbw : b = w.heap.size) (hk : KyO (fun k => b ≤ k ∧ k < w2.heap.size) w2 K ks) (hl : w2.ownsRow b 3 1 LV N ((List.replicate N 0).map fun a : Nat => Value.int .i64 (a : Int))) :
    TM b (fun k => b ≤ k ∧ k < (w2.alloc (.cells #[K, .slice none 0 0, LV, .int .i64 0] 154)).heap.size) (w2.alloc (.cells #[K, .slice none 0 0, LV, .int .i64 0] 154)) w2.heap.size K (.slice none 0 0) LV [] [] (List.replicate N 0) ks 0 := by
  subst hbw
  have hsz : (w2.alloc (.cells #[K, .slice none 0 0, LV, .int .i64 0] 154)).heap.size = w2.heap.size + 1 := by simp only [World.alloc, Array.size_push]
  have hxn := ext_new w2 (.cells #[K, .slice none 0 0, LV, .int .i64 0] 154)
  have hs := hx.size
  have ho : OnlyS (fun _ => False) w2 (w2.alloc (.cells #[K, .slice none 0 0, LV, .int .i64 0] 154)) := OnlyS.of_ext hxn
  exact {
    blk := Blk.new w2 [K, .slice none 0 0, LV, .int .i64 0] 154
    keys := (hk.others ho fun _ _ _ h => h).mono fun k hk => ⟨hk.1, by omega⟩
    hown := owns_nil _ _ _ _
    hd := HdO.nil _ _ _
    lown := by
      rw [List.length_replicate]
      exact owns_extS hl hxn
    tO := ⟨hs, by omega⟩
    hO := fun k hk => by cases hk
    lO := fun k hk => by
      have := hl.lt k hk
      exact ⟨this.1, by omega⟩
    lt := fun _ h => h
    fit := FitO.nil _ }
set_option maxRecDepth 100000 in
set_option maxHeartbeats 4000000 in
theorem pNew16_any (u x : Value) (hs : List Value) (os : List (Option (List V))) (ks : List Ky) (w0 w : World) (hw : Ext w0 w) (hu : RdV w u hs) (hh : HdOpt w hs os) (hx : RdKs w0 x ks) (hk : ks.length ≤ 1000000) (hf : FitO 5000 os) (hr : ∀ r, some r ∈ os → r.length ≤ 1000000) (hl : os.length ≤ 1000000) :
    Calls Tryz.prog 88 #[u, x] w fun e w' => ((16 < os.length ∧ e = .returned (.tuple #[.pointer none, .int .i64 3])) ∨ (os.length ≤ 16 ∧ ∃ p O n, e = .returned (.tuple #[.pointer (some p), .int .i64 0]) ∧ Tre w0.heap.size O w' p os ks n ∧ 0 ≤ n ∧ n ≤ max ((os.length : Int) - 1) 0 ∧ ∀ b, O b → w.heap.size ≤ b)) ∧ Ext w w' := by
  obtain ⟨i1, hi1, hy0, hy1, hy2⟩ := info_parts Tryz.info_row
  obtain ⟨ua, uc, rfl, hu1, hu2, hat⟩ := RdV.cellsAt hu
  have HPL := Lib.hid (RdV.plainV hu).2.2.2
  unfold maxLen at hu2
  have HLE := Lib.hid hh.1
  obtain ⟨N, hN⟩ : ∃ N, hs.length = N := ⟨_, rfl⟩
  have HN := Lib.hid hN
  have HON := Lib.hid (show os.length = N from by rw [← hh.1, hN])
  rw [hN] at hu1 ⊢
  have hlN : N ≤ 1000000 := by rw [← HON.out]; exact hl
  have HW := Lib.hid hw
  have HH := Lib.hid hh
  have HF := Lib.hid hf
  have HR := Lib.hid hr
  have HXK := Lib.hid (hx.mono hw)
  rw [HON.out]
  clear hat hN hw hh hf hr hx hl hu
  by_cases h16 : 16 < N
  · have d1 : decide ((N : Int) > 16) = true := decide_eq_true (by omega)
    have d1' : decide (16 < N) = true := decide_eq_true h16
    go_enter Tryz.func88, Tryz.ntmps88
    go_wp2_with fail
    go_ret2
    exact ⟨.inl ⟨h16, rfl⟩, Ext.keeps.refl _⟩
  · have d1 : decide ((N : Int) > 16) = false := decide_eq_false (by omega)
    have d1' : decide (16 < N) = false := decide_eq_false h16
    have hx0 := HXK.out.shape
    obtain ⟨xa, xc, hxe, -, -⟩ := hx0
    subst hxe
    go_enter Tryz.func88, Tryz.ntmps88
    go_wp2_with fail
    go_cut [6] from 12 to 18 (fun pv W => ∃ (t : Nat) (K LV : Value), pv = .pointer (some ⟨t, 0, none⟩) ∧ TM w.heap.size (fun b => w.heap.size ≤ b ∧ b < W.heap.size) W t K (.slice none 0 0) LV [] [] (List.replicate N 0) ks 0 ∧ Ext w W)
    case first =>
      refine wp_region_plan Ext Ext.keeps (.quiet [0, 2, 3] (.two 1 (.one 4 (.quiet [5] (.one 6 (.quiet [7] .done)))) 4 (.one 1 (.quiet [5] (.one 6 (.quiet [7] .done)))))) (by kernel_rfl) (by kernel_rfl) (fun c a a' w e h => (by exact ⟨e ▸ h.1, h.2⟩)) ?_
      refine wpPlan_quiet fun K0 hK0 => ?_
      simp only [pickOps, List.map_cons, List.map_nil, Option.getD_some, List.getElem?_toArray, List.getElem?_cons_zero, List.getElem?_cons_succ]
      repeat go_big_quiet_step (fail)
      refine wpQuiet_nil (hK0 _ ?_)
      clear hK0 K0
      refine wpPlan_two (fun K1 hK1 => ?_) (fun K1 hK1 => ?_)
      · simp only [pickOps, List.map_cons, List.map_nil, Option.getD_some, List.getElem?_toArray, List.getElem?_cons_zero, List.getElem?_cons_succ]
        go_wp2_with fail
        refine (cloneKeys_any _ ks w.drew (HXK.out.mono (Ext.drew w)) hk).mono ?_
        rintro e w1 ⟨⟨o, rfl, ho⟩, x1⟩
        obtain ⟨ka, kc, rfl, -, -⟩ := ho.1.shape
        have HK1 := Lib.hid ho
        have HX1 := Lib.hid x1
        clear ho x1
        go_wp2_with fail
        refine ⟨HX1.out, hK1 _ _ ?_⟩
        clear hK1 K1
        obtain ⟨w2, hmr, hmo, hmx⟩ := make_lost w1 N (by omega)
        have HMO := Lib.hid hmo
        have HMX := Lib.hid hmx
        clear hmo hmx
        refine wpPlan_one fun K2 hK2 => ?_
        simp only [pickOps, List.map_cons, List.map_nil, Option.getD_some, List.getElem?_toArray, List.getElem?_cons_zero, List.getElem?_cons_succ]
        go_wp2_with fail
        refine ⟨HMX.out, hK2 _ _ ?_⟩
        clear hK2 K2 hmr
        refine wpPlan_quiet fun K3 hK3 => ?_
        simp only [pickOps, List.map_cons, List.map_nil, Option.getD_some, List.getElem?_toArray, List.getElem?_cons_zero, List.getElem?_cons_succ]
        repeat go_big_quiet_step (fail)
        refine wpQuiet_nil (hK3 _ ?_)
        clear hK3 K3
        refine wpPlan_one fun K3 hK3 => ?_
        simp only [pickOps, List.map_cons, List.map_nil, Option.getD_some, List.getElem?_toArray, List.getElem?_cons_zero, List.getElem?_cons_succ]
        go_wp2_with fail
        refine ⟨ext_new _ _, hK3 _ _ ?_⟩
        clear hK3 K3
        refine wpPlan_quiet fun K3 hK3 => ?_
        simp only [pickOps, List.map_cons, List.map_nil, Option.getD_some, List.getElem?_toArray, List.getElem?_cons_zero, List.getElem?_cons_succ]
        repeat go_big_quiet_step (fail)
        refine wpQuiet_nil (hK3 _ ?_)
        clear hK3 K3
        refine wpPlan_done ?_
        go_wp2_with fail
        go_meet
        have HXX := Lib.hid (Ext.trans (Ext.trans (Ext.drew w) HX1.out) HMX.out)
        refine ⟨_, _, _, rfl, TM.laid (b := w.heap.size) HXX.out rfl ((HK1.out.others (OnlyS.of_ext (X := fun _ => False) HMX.out) fun _ _ _ h => h).mono fun k hk => ⟨hk.1, Nat.lt_of_lt_of_le hk.2 HMX.out.size⟩) (Joins.ownsRow_le HMO.out (Ext.trans (Ext.drew w) HX1.out).size), Ext.trans HXX.out (ext_new _ _)⟩
      · simp only [pickOps, List.map_cons, List.map_nil, Option.getD_some, List.getElem?_toArray, List.getElem?_cons_zero, List.getElem?_cons_succ]
        obtain ⟨w2, hmr, hmo, hmx⟩ := make_lost w.drew N (by omega)
        have HMO := Lib.hid hmo
        have HMX := Lib.hid hmx
        clear hmo hmx
        go_wp2_with fail
        refine ⟨HMX.out, hK1 _ _ ?_⟩
        clear hK1 K1 hmr
        refine wpPlan_one fun K1 hK1 => ?_
        simp only [pickOps, List.map_cons, List.map_nil, Option.getD_some, List.getElem?_toArray, List.getElem?_cons_zero, List.getElem?_cons_succ]
        go_wp2_with fail
        refine (cloneKeys_any _ ks w2 (HXK.out.mono (Ext.trans (Ext.drew w) HMX.out)) hk).mono ?_
        rintro e w1 ⟨⟨o, rfl, ho⟩, x1⟩
        obtain ⟨ka, kc, rfl, -, -⟩ := ho.1.shape
        have HK1 := Lib.hid ho
        have HX1 := Lib.hid x1
        clear ho x1
        go_wp2_with fail
        refine ⟨HX1.out, hK1 _ _ ?_⟩
        clear hK1 K1
        refine wpPlan_quiet fun K3 hK3 => ?_
        simp only [pickOps, List.map_cons, List.map_nil, Option.getD_some, List.getElem?_toArray, List.getElem?_cons_zero, List.getElem?_cons_succ]
        repeat go_big_quiet_step (fail)
        refine wpQuiet_nil (hK3 _ ?_)
        clear hK3 K3
        refine wpPlan_one fun K3 hK3 => ?_
        simp only [pickOps, List.map_cons, List.map_nil, Option.getD_some, List.getElem?_toArray, List.getElem?_cons_zero, List.getElem?_cons_succ]
        go_wp2_with fail
        refine ⟨ext_new _ _, hK3 _ _ ?_⟩
        clear hK3 K3
        refine wpPlan_quiet fun K3 hK3 => ?_
        simp only [pickOps, List.map_cons, List.map_nil, Option.getD_some, List.getElem?_toArray, List.getElem?_cons_zero, List.getElem?_cons_succ]
        repeat go_big_quiet_step (fail)
        refine wpQuiet_nil (hK3 _ ?_)
        clear hK3 K3
        refine wpPlan_done ?_
        go_wp2_with fail
        go_meet
        have HXX := Lib.hid (Ext.trans (Ext.trans (Ext.drew w) HMX.out) HX1.out)
        have HSZ := Lib.hid (Ext.trans (Ext.drew w) HMX.out).size
        refine ⟨_, _, _, rfl, TM.laid (b := w.heap.size) HXX.out rfl (HK1.out.mono fun k hk => ⟨Nat.le_trans HSZ.out hk.1, hk.2⟩) (owns_extS HMO.out HX1.out), Ext.trans HXX.out (ext_new _ _)⟩
    case rest =>
    obtain ⟨t, K, LV, rfl, ht, hx0⟩ := hcut
    have HT := Lib.hid ht
    have HX0 := Lib.hid hx0
    have htw : w.heap.size ≤ t := ht.tO.1
    clear ht hx0
    generalize wc = w3 at HT HX0 ⊢
    go_wp2_with fail
    go_loopw [8, 21] (fun _ iv wr => ∃ (j : Nat) (HV : Value) (hs' : List Value), j ≤ N ∧ iv = .int .i64 j ∧ TM w.heap.size (fun b => w.heap.size ≤ b ∧ b < wr.heap.size) wr t K HV LV hs' (os.take j) (List.replicate N 0) ks 0 ∧ Ext w wr) (fun _ iv _ => N - (intOf iv).toNat)
    case atStart => exact ⟨0, _, _, Nat.zero_le _, rfl, HT.out, HX0.out⟩
    case round =>
      obtain ⟨j, HV, hs', hj, rfl, htr, hxr⟩ := hrel
      have HTR := Lib.hid htr
      have HXR := Lib.hid hxr
      clear htr hxr
      by_cases hlt : j < N
      · have hjo : j < os.length := by rw [HON.out]; exact hlt
        have HTL := Lib.hid (show (os.take j).length = j from by rw [List.length_take]; omega)
        obtain ⟨v, hv, hvo⟩ := HH.out.at j hjo
        obtain ⟨g, off, rfl, c0⟩ := HPL.out j v hv
        obtain ⟨v1, v2, v3, rfl⟩ := hvo.shape
        have y0 := (HXR.out.cell (lt_of_cell c0)).trans c0
        obtain ⟨ha, hc, hHV, -, -⟩ := own_shapeP HTR.out.hown
        rw [HTL.out] at hHV
        subst hHV
        have HCP := Lib.hid (fun W (hW : Ext w W) => pCopied16_any _ os[j] W (hvo.mono hW) (fun r hr => HR.out r (hr ▸ List.getElem_mem hjo)))
        have c1 := (HTR.out.ext (Ext.drew wr)).blk.cell 1 _ rfl
        clear hv hvo c0
        go_wp2_with fail
        refine wp_region_plan (Below w.heap.size) (Below.keepsD _) (.quiet [0, 1, 2, 3, 5] (.two 4 (.one 6 (.one 7 (.one 8 (.quiet [9, 10] (.one 11 .done))))) 6 (.two 4 (.one 7 (.one 8 (.quiet [9, 10] (.one 11 .done)))) 7 (.one 4 (.one 8 (.quiet [9, 10] (.one 11 .done))))))) (by kernel_rfl) (by kernel_rfl) (fun c a a' w e h => (by exact ⟨e ▸ h.1, h.2⟩)) ?_
        refine wpPlan_quiet fun K0 hK0 => ?_
        simp only [pickOps, List.map_cons, List.map_nil, Option.getD_some, List.getElem?_toArray, List.getElem?_cons_zero, List.getElem?_cons_succ]
        repeat go_big_quiet_step (fail)
        refine wpQuiet_nil (hK0 _ ?_)
        clear hK0 K0
        refine wpPlan_two (fun K1 hK1 => ?_) (fun K1 hK1 => ?_)
        · simp only [pickOps, List.map_cons, List.map_nil, Option.getD_some, List.getElem?_toArray, List.getElem?_cons_zero, List.getElem?_cons_succ]
          go_wp2_with fail
          refine ⟨Below.refl _ _, hK1 _ _ ?_⟩
          clear hK1 K1
          refine wpPlan_one fun K1 hK1 => ?_
          simp only [pickOps, List.map_cons, List.map_nil, Option.getD_some, List.getElem?_toArray, List.getElem?_cons_zero, List.getElem?_cons_succ]
          go_wp2_with fail
          refine (HCP.out wr.drew (Ext.trans HXR.out (Ext.drew wr))).mono ?_
          rintro e w1 ⟨⟨o, rfl, ho⟩, x1⟩
          obtain ⟨oa, on, oc, hoe⟩ := ho.opt.shape
          subst hoe
          have HOO := Lib.hid ho
          have HX1 := Lib.hid x1
          have HT1 := Lib.hid ((HTR.out.ext (Ext.trans (Ext.drew wr) x1)).more (O' := fun b => w.heap.size ≤ b ∧ b < w1.heap.size) (fun b hb => ⟨hb.1, Nat.lt_of_lt_of_le hb.2 (Ext.trans (Ext.drew wr) x1).size⟩) (fun b hb => hb))
          have HSZ1 := Lib.hid (show w.heap.size ≤ w1.heap.size from Nat.le_trans HXR.out.size (Ext.trans (Ext.drew wr) x1).size)
          clear ho x1
          go_wp2_with fail
          refine ⟨(show Below w.heap.size wr.drew w1 from Below.mono HX1.out (Nat.le_trans HXR.out.size (Ext.drew wr).size)), hK1 _ _ ?_⟩
          clear hK1 K1 c1
          refine wpPlan_one fun K1 hK1 => ?_
          simp only [pickOps, List.map_cons, List.map_nil, Option.getD_some, List.getElem?_toArray, List.getElem?_cons_zero, List.getElem?_cons_succ]
          go_wp2_with fail
          refine ⟨(Below.refl w.heap.size w1).alloc HSZ1.out _, hK1 _ _ ?_⟩
          clear hK1 K1
          refine wpPlan_one fun K1 hK1 => ?_
          simp only [pickOps, List.map_cons, List.map_nil, Option.getD_some, List.getElem?_toArray, List.getElem?_cons_zero, List.getElem?_cons_succ]
          go_wp2_with (at_builtin; go_loud (refine wpList_append_oneG rfl (.tmp 29) (.tmp 32) 22 rfl w.heap.size 58 i1 (.slice none 0 0) 1 24 Tryz.underlying22 hi1 hy0 hy1 hy2 rfl (by decide) (by decide) (.slice ha j hc) j hs' [.slice oa on oc] rfl (by have h := HT1.out.hown; rw [HTL.out] at h; exact h) rfl rfl (by simp [Value.oneCell']) (by omega) HSZ1.out ?_); intro v5 w5 h5a h5b h5c h5d; have HO5 := Lib.hid h5a; have HW5 := Lib.hid h5b; have HY5 := Lib.hid h5c; have HG5 := Lib.hid h5d; clear h5a h5b h5c h5d)
          obtain ⟨va, vc, hve, -, -⟩ := own_shapeP HO5.out
          subst hve
          refine ⟨HW5.out, hK1 _ _ ?_⟩
          clear hK1 K1
          simp only [Act.put, List.setIfInBounds_toArray, List.set]
          have HT5 := Lib.hid (HT1.out.push (o := os[j]) (HOO.out.base_le (Nat.le_trans HXR.out.size (Ext.drew wr).size) |>.mono fun k hk => ⟨Nat.le_trans (Nat.le_trans HXR.out.size (Ext.drew wr).size) hk.1, hk.2⟩) (fun r hr => HF.out r (hr ▸ List.getElem_mem hjo)) (by rw [HTL.out]; exact HO5.out) HY5.out HG5.out)
          have b5 := (HT1.out.blk.others HY5.out fun e => HT1.out.blk.apart HT1.out.hown (by decide) e)
          have c5 := b5.cell 1 _ rfl
          have f5 := b5.free 1
          have HB5 := Lib.hid (show Below w.heap.size w1 w5 from (Below.alloc (Below.refl w.heap.size w1) HSZ1.out _).trans HW5.out)
          clear b5
          refine wpPlan_quiet fun K3 hK3 => ?_
          simp only [pickOps, List.map_cons, List.map_nil, Option.getD_some, List.getElem?_toArray, List.getElem?_cons_zero, List.getElem?_cons_succ]
          repeat go_big_quiet_step (fail)
          refine wpQuiet_nil (hK3 _ ?_)
          clear hK3 K3
          refine wpPlan_one fun K1 hK1 => ?_
          simp only [pickOps, List.map_cons, List.map_nil, Option.getD_some, List.getElem?_toArray, List.getElem?_cons_zero, List.getElem?_cons_succ]
          go_wp2_with fail
          refine ⟨Below.setCell (Below.refl w.heap.size w5) htw _, hK1 _ _ ?_⟩
          clear hK1 K1 c5 f5
          refine wpPlan_done ?_
          go_wp2_with fail
          go_roundw
          case rel =>
            refine ⟨j + 1, .slice va (j + 1) vc, hs' ++ [.slice oa on oc], by omega, by go_num, ?_, ?_⟩
            · rw [List.take_succ_eq_append_getElem hjo]
              refine HT5.out.more (fun b hb => ?_) (fun b hb => hb)
              have h1 := HB5.out.size
              have h2 := HSZ1.out
              have h3 : ∀ u, (w5.setCell ⟨t, 1, none⟩ u).heap.size = w5.heap.size := fun u => by simp [World.setCell]
              rw [h3]
              rcases hb with hb | hb
              · exact ⟨hb.1, by omega⟩
              · exact ⟨by omega, hb.2⟩
            · exact (show Below w.heap.size w _ from Below.setCell ((show Below w.heap.size w w1 from (show Below w.heap.size w wr from HXR.out).trans ((show Below w.heap.size wr wr.drew from Below.drew (Below.refl _ _)).trans (Below.mono HX1.out (Nat.le_trans HXR.out.size (Ext.drew wr).size)))).trans HB5.out) htw _)
          case measure => simp [intOf]; omega
        · simp only [pickOps, List.map_cons, List.map_nil, Option.getD_some, List.getElem?_toArray, List.getElem?_cons_zero, List.getElem?_cons_succ]
          go_wp2_with fail
          refine (HCP.out wr.drew (Ext.trans HXR.out (Ext.drew wr))).mono ?_
          rintro e w1 ⟨⟨o, rfl, ho⟩, x1⟩
          obtain ⟨oa, on, oc, hoe⟩ := ho.opt.shape
          subst hoe
          have HOO := Lib.hid ho
          have HX1 := Lib.hid x1
          have HT1 := Lib.hid ((HTR.out.ext (Ext.trans (Ext.drew wr) x1)).more (O' := fun b => w.heap.size ≤ b ∧ b < w1.heap.size) (fun b hb => ⟨hb.1, Nat.lt_of_lt_of_le hb.2 (Ext.trans (Ext.drew wr) x1).size⟩) (fun b hb => hb))
          have HSZ1 := Lib.hid (show w.heap.size ≤ w1.heap.size from Nat.le_trans HXR.out.size (Ext.trans (Ext.drew wr) x1).size)
          clear ho x1
          go_wp2_with fail
          refine ⟨(show Below w.heap.size wr.drew w1 from Below.mono HX1.out (Nat.le_trans HXR.out.size (Ext.drew wr).size)), hK1 _ _ ?_⟩
          clear hK1 K1 c1
          have c1 := HT1.out.blk.cell 1 _ rfl
          refine wpPlan_two (fun K1 hK1 => ?_) (fun K1 hK1 => ?_)
          · simp only [pickOps, List.map_cons, List.map_nil, Option.getD_some, List.getElem?_toArray, List.getElem?_cons_zero, List.getElem?_cons_succ]
            go_wp2_with fail
            refine ⟨Below.refl _ _, hK1 _ _ ?_⟩
            clear hK1 K1
            clear c1
            refine wpPlan_one fun K1 hK1 => ?_
            simp only [pickOps, List.map_cons, List.map_nil, Option.getD_some, List.getElem?_toArray, List.getElem?_cons_zero, List.getElem?_cons_succ]
            go_wp2_with fail
            refine ⟨(Below.refl w.heap.size w1).alloc HSZ1.out _, hK1 _ _ ?_⟩
            clear hK1 K1
            refine wpPlan_one fun K1 hK1 => ?_
            simp only [pickOps, List.map_cons, List.map_nil, Option.getD_some, List.getElem?_toArray, List.getElem?_cons_zero, List.getElem?_cons_succ]
            go_wp2_with (at_builtin; go_loud (refine wpList_append_oneG rfl (.tmp 29) (.tmp 32) 22 rfl w.heap.size 58 i1 (.slice none 0 0) 1 24 Tryz.underlying22 hi1 hy0 hy1 hy2 rfl (by decide) (by decide) (.slice ha j hc) j hs' [.slice oa on oc] rfl (by have h := HT1.out.hown; rw [HTL.out] at h; exact h) rfl rfl (by simp [Value.oneCell']) (by omega) HSZ1.out ?_); intro v5 w5 h5a h5b h5c h5d; have HO5 := Lib.hid h5a; have HW5 := Lib.hid h5b; have HY5 := Lib.hid h5c; have HG5 := Lib.hid h5d; clear h5a h5b h5c h5d)
            obtain ⟨va, vc, hve, -, -⟩ := own_shapeP HO5.out
            subst hve
            refine ⟨HW5.out, hK1 _ _ ?_⟩
            clear hK1 K1
            simp only [Act.put, List.setIfInBounds_toArray, List.set]
            have HT5 := Lib.hid (HT1.out.push (o := os[j]) (HOO.out.base_le (Nat.le_trans HXR.out.size (Ext.drew wr).size) |>.mono fun k hk => ⟨Nat.le_trans (Nat.le_trans HXR.out.size (Ext.drew wr).size) hk.1, hk.2⟩) (fun r hr => HF.out r (hr ▸ List.getElem_mem hjo)) (by rw [HTL.out]; exact HO5.out) HY5.out HG5.out)
            have b5 := (HT1.out.blk.others HY5.out fun e => HT1.out.blk.apart HT1.out.hown (by decide) e)
            have c5 := b5.cell 1 _ rfl
            have f5 := b5.free 1
            have HB5 := Lib.hid (show Below w.heap.size w1 w5 from (Below.alloc (Below.refl w.heap.size w1) HSZ1.out _).trans HW5.out)
            clear b5
            refine wpPlan_quiet fun K3 hK3 => ?_
            simp only [pickOps, List.map_cons, List.map_nil, Option.getD_some, List.getElem?_toArray, List.getElem?_cons_zero, List.getElem?_cons_succ]
            repeat go_big_quiet_step (fail)
            refine wpQuiet_nil (hK3 _ ?_)
            clear hK3 K3
            refine wpPlan_one fun K1 hK1 => ?_
            simp only [pickOps, List.map_cons, List.map_nil, Option.getD_some, List.getElem?_toArray, List.getElem?_cons_zero, List.getElem?_cons_succ]
            go_wp2_with fail
            refine ⟨Below.setCell (Below.refl w.heap.size w5) htw _, hK1 _ _ ?_⟩
            clear hK1 K1 c5 f5
            refine wpPlan_done ?_
            go_wp2_with fail
            go_roundw
            case rel =>
              refine ⟨j + 1, .slice va (j + 1) vc, hs' ++ [.slice oa on oc], by omega, by go_num, ?_, ?_⟩
              · rw [List.take_succ_eq_append_getElem hjo]
                refine HT5.out.more (fun b hb => ?_) (fun b hb => hb)
                have h1 := HB5.out.size
                have h2 := HSZ1.out
                have h3 : ∀ u, (w5.setCell ⟨t, 1, none⟩ u).heap.size = w5.heap.size := fun u => by simp [World.setCell]
                rw [h3]
                rcases hb with hb | hb
                · exact ⟨hb.1, by omega⟩
                · exact ⟨by omega, hb.2⟩
              · exact (show Below w.heap.size w _ from Below.setCell ((show Below w.heap.size w w1 from (show Below w.heap.size w wr from HXR.out).trans ((show Below w.heap.size wr wr.drew from Below.drew (Below.refl _ _)).trans (Below.mono HX1.out (Nat.le_trans HXR.out.size (Ext.drew wr).size)))).trans HB5.out) htw _)
            case measure => simp [intOf]; omega
          · simp only [pickOps, List.map_cons, List.map_nil, Option.getD_some, List.getElem?_toArray, List.getElem?_cons_zero, List.getElem?_cons_succ]
            go_wp2_with fail
            refine ⟨(Below.refl w.heap.size w1).alloc HSZ1.out _, hK1 _ _ ?_⟩
            clear hK1 K1
            clear c1
            have c1 := (HT1.out.ext (ext_new w1 (.cells #[.slice oa on oc] 58))).blk.cell 1 _ rfl
            refine wpPlan_one fun K1 hK1 => ?_
            simp only [pickOps, List.map_cons, List.map_nil, Option.getD_some, List.getElem?_toArray, List.getElem?_cons_zero, List.getElem?_cons_succ]
            go_wp2_with fail
            refine ⟨Below.refl _ _, hK1 _ _ ?_⟩
            clear hK1 K1
            clear c1
            refine wpPlan_one fun K1 hK1 => ?_
            simp only [pickOps, List.map_cons, List.map_nil, Option.getD_some, List.getElem?_toArray, List.getElem?_cons_zero, List.getElem?_cons_succ]
            go_wp2_with (at_builtin; go_loud (refine wpList_append_oneG rfl (.tmp 29) (.tmp 32) 22 rfl w.heap.size 58 i1 (.slice none 0 0) 1 24 Tryz.underlying22 hi1 hy0 hy1 hy2 rfl (by decide) (by decide) (.slice ha j hc) j hs' [.slice oa on oc] rfl (by have h := HT1.out.hown; rw [HTL.out] at h; exact h) rfl rfl (by simp [Value.oneCell']) (by omega) HSZ1.out ?_); intro v5 w5 h5a h5b h5c h5d; have HO5 := Lib.hid h5a; have HW5 := Lib.hid h5b; have HY5 := Lib.hid h5c; have HG5 := Lib.hid h5d; clear h5a h5b h5c h5d)
            obtain ⟨va, vc, hve, -, -⟩ := own_shapeP HO5.out
            subst hve
            refine ⟨HW5.out, hK1 _ _ ?_⟩
            clear hK1 K1
            simp only [Act.put, List.setIfInBounds_toArray, List.set]
            have HT5 := Lib.hid (HT1.out.push (o := os[j]) (HOO.out.base_le (Nat.le_trans HXR.out.size (Ext.drew wr).size) |>.mono fun k hk => ⟨Nat.le_trans (Nat.le_trans HXR.out.size (Ext.drew wr).size) hk.1, hk.2⟩) (fun r hr => HF.out r (hr ▸ List.getElem_mem hjo)) (by rw [HTL.out]; exact HO5.out) HY5.out HG5.out)
            have b5 := (HT1.out.blk.others HY5.out fun e => HT1.out.blk.apart HT1.out.hown (by decide) e)
            have c5 := b5.cell 1 _ rfl
            have f5 := b5.free 1
            have HB5 := Lib.hid (show Below w.heap.size w1 w5 from (Below.alloc (Below.refl w.heap.size w1) HSZ1.out _).trans HW5.out)
            clear b5
            refine wpPlan_quiet fun K3 hK3 => ?_
            simp only [pickOps, List.map_cons, List.map_nil, Option.getD_some, List.getElem?_toArray, List.getElem?_cons_zero, List.getElem?_cons_succ]
            repeat go_big_quiet_step (fail)
            refine wpQuiet_nil (hK3 _ ?_)
            clear hK3 K3
            refine wpPlan_one fun K1 hK1 => ?_
            simp only [pickOps, List.map_cons, List.map_nil, Option.getD_some, List.getElem?_toArray, List.getElem?_cons_zero, List.getElem?_cons_succ]
            go_wp2_with fail
            refine ⟨Below.setCell (Below.refl w.heap.size w5) htw _, hK1 _ _ ?_⟩
            clear hK1 K1 c5 f5
            refine wpPlan_done ?_
            go_wp2_with fail
            go_roundw
            case rel =>
              refine ⟨j + 1, .slice va (j + 1) vc, hs' ++ [.slice oa on oc], by omega, by go_num, ?_, ?_⟩
              · rw [List.take_succ_eq_append_getElem hjo]
                refine HT5.out.more (fun b hb => ?_) (fun b hb => hb)
                have h1 := HB5.out.size
                have h2 := HSZ1.out
                have h3 : ∀ u, (w5.setCell ⟨t, 1, none⟩ u).heap.size = w5.heap.size := fun u => by simp [World.setCell]
                rw [h3]
                rcases hb with hb | hb
                · exact ⟨hb.1, by omega⟩
                · exact ⟨by omega, hb.2⟩
              · exact (show Below w.heap.size w _ from Below.setCell ((show Below w.heap.size w w1 from (show Below w.heap.size w wr from HXR.out).trans ((show Below w.heap.size wr wr.drew from Below.drew (Below.refl _ _)).trans (Below.mono HX1.out (Nat.le_trans HXR.out.size (Ext.drew wr).size)))).trans HB5.out) htw _)
            case measure => simp [intOf]; omega
      · have HALL := Lib.hid (show os.take j = os from List.take_of_length_le (by rw [HON.out]; omega))
        rw [HALL.out] at HTR
        clear HALL HT HX0
        by_cases h0 : 0 < N
        · have e0 : decide ((N : Int) > 0) = true := decide_eq_true (by omega)
          have e0' : decide (0 < N) = true := decide_eq_true h0
          obtain ⟨g, lc, hLV, hlc1, hlc2, -, -, -, hgt, -⟩ := HTR.out.loses (i := 0) (by rw [List.length_replicate]; exact h0)
          rw [List.length_replicate] at hLV hlc1
          subst hLV
          have HP := Lib.hid (pPlay16_any w.heap.size _ t K HV (.slice (some ⟨g, 0, none⟩) N lc) hs' os ks (by rw [HON.out]; omega) 4 1 (List.replicate N 0) 0 wr.drew (HTR.out.ext (Ext.drew wr)) (by rw [List.length_replicate, HON.out]) (Nat.le_refl _) (by rw [HON.out]; omega) (by rw [HON.out]; omega))
          rw [show ((1 : Nat) : Int) = 1 from rfl] at HP
          have HCN := Lib.hid (cnt_le os.length (by rw [HON.out]; omega))
          generalize cntN 4 os.length 1 = CN at HP HCN
          have HFN := Lib.hid (fun (lost : List Nat) (h1 : lost.length = os.length) (h2 : ∀ x, x < os.length → Anc 1 x → lost[x]? = some (losF (cmpR ks) os x)) => full_new (cmpR_pre ks) (os := os) (lost := lost.set 0 (winF (cmpR ks) os 1)) (by rw [List.length_set]; exact h1) (fun x hx1 hx2 => by rw [List.getElem?_set_ne (by omega)]; exact h2 x hx2 (anc_one x hx1)) (fun h => by rw [List.getElem?_set_self (by rw [h1]; exact h)]))
          generalize winF (cmpR ks) os 1 = WN at HP HFN
          have c2 := (HTR.out.ext (Ext.drew wr)).blk.cell 2 _ rfl
          have z2 : ∀ z : Later (Stay t) wr.drew, z.val.cell? ⟨t, 2, none⟩ = some (.slice (some ⟨g, 0, none⟩) N lc) := fun z => z.ext _ c2
          unfold maxLen at hlc2
          have h0i : (0 : Int) < (N : Int) := by omega
          go_wp2_with fail
          refine wp_region_segs (Stay t) (Stay.keeps t) [([0, 1, 2, 3, 4], some 5), ([6], some 7)] (by kernel_rfl) (by kernel_rfl) (fun c a a' w e h => (by exact ⟨e ▸ h.1, h.2⟩)) ?_
          simp only [pickSegs, pickOps, List.map_cons, List.map_nil, Option.map_some, Option.getD_some, List.getElem?_toArray, List.getElem?_cons_zero, List.getElem?_cons_succ]
          refine wpSegs_some fun K' hK' => ?_
          repeat go_big_quiet_step (fail)
          refine wpQuiet_nil ?_
          clear z2
          go_wp2_with fail
          refine HP.out.mono ?_
          rintro e w2 ⟨rfl, ho2, lost2, n2, ht2, hl2, hb2, hx2, -⟩
          have HO2 := Lib.hid ho2
          have HT2 := Lib.hid ht2
          have HL2 := Lib.hid hl2
          have HB2 := Lib.hid hb2
          have HF2 := Lib.hid (HFN.out lost2 hl2 hx2)
          clear ho2 ht2 hl2 hb2 hx2
          go_wp2_with fail
          refine ⟨fun u hu => ?_, hK' _ _ ?_⟩
          · rw [c2] at hu
            rw [HT2.out.blk.cell 2 _ rfl, ← hu]
          clear hK' K'
          obtain ⟨g', lc', e', -, -, -, cL2, fL2, -, hst2⟩ := HT2.out.loses (i := 0) (by rw [HL2.out, HON.out]; exact h0)
          have hg' : g = g' := by
            injection e' with e1
            injection e1 with e1
            injection e1
          subst hg'
          have HST2 := Lib.hid (hst2 WN)
          clear hst2 e' c2
          refine wpSegs_some fun K' hK' => ?_
          repeat go_big_quiet_step (fail)
          refine wpQuiet_nil ?_
          go_wp2_with fail
          refine ⟨fun u hu => (cell_set_other (.inl (Ne.symm hgt))).trans hu, hK' _ _ ?_⟩
          clear hK' K' cL2 fL2
          refine wpSegs_nil ?_
          go_wp2_with fail
          go_ret2
          refine ⟨.inr ⟨by omega, ⟨t, 0, none⟩, _, n2, rfl, ⟨t, K, HV, _, hs', _, rfl, HST2.out.1.base_le HW.out.size, by rw [HON.out]; omega, _, HF2.out⟩, ?_, ?_, fun b hb => hb.1⟩, ?_⟩
          · exact (HB2.out (Int.le_refl _) (by have := HCN.out; rw [HON.out] at this; omega)).1
          · have h1 := (HB2.out (Int.le_refl _) (by have := HCN.out; rw [HON.out] at this; omega)).2
            have h2 := HCN.out
            rw [HON.out] at h2
            omega
          · exact (show Below w.heap.size w _ from ((show Below w.heap.size w wr from HXR.out).trans ((show Below w.heap.size wr wr.drew from Below.drew (Below.refl _ _)))).trans (((HO2.out.trans HST2.out.2 (fun _ _ h => h)).mono (fun b _ hb => (HTR.out.wr hb).1) |>.below (Nat.le_trans HXR.out.size (Ext.drew wr).size) (fun b hb => hb))))
        · have e0 : decide ((N : Int) > 0) = false := decide_eq_false (by omega)
          have e0' : decide (0 < N) = false := decide_eq_false h0
          have hos : os = [] := List.eq_nil_of_length_eq_zero (by rw [HON.out]; omega)
          have HFN := Lib.hid (full_new (cmpR_pre ks) (os := os) (lost := List.replicate N 0) (by rw [List.length_replicate, HON.out]) (fun x hx1 hx2 => by rw [HON.out] at hx2; omega) (fun h => by rw [HON.out] at h; omega))
          clear hos
          go_wp2_with fail
          go_ret2
          exact ⟨.inr ⟨by omega, ⟨t, 0, none⟩, _, 0, rfl, ⟨t, K, HV, LV, hs', _, rfl, HTR.out.base_le HW.out.size, by rw [HON.out]; omega, _, HFN.out⟩, Int.le_refl _, by omega, fun b hb => hb.1⟩, HXR.out⟩
end Go.Proofs.YtaoegcakefodaaaGreat

namespace Go.Proofs.YtaoegcakefodaaaGreat
open Go.RowKit Go.BigFrame LosWin
def putL16 (ks : List Ky) (os : List (Option (List V))) (o : Option (List V)) : List (Option (List V)) := match LosPure.nextS (cmpR ks) os with | some i => os.set i o | none => os
theorem pNext16_any (B : Nat) (O : Nat → Prop) (p : Addr) (os : List (Option (List V))) (ks : List Ky) (n : Int) (w : World) (h : Tre B O w p os ks n) :
    Calls Tryz.prog 89 #[.pointer (some p)] w fun e w' => e = .returned (.tuple #[.int .i64 (nextI ks os), .bool (nextB ks os)]) ∧ OnlyS O w w' ∧ ∃ O', Tre B O' w' p os ks n ∧ ∀ b, O' b → O b ∨ w.heap.size ≤ b := by
  obtain ⟨t, K, HV, LV, hs, lost, rfl, h⟩ := h
  refine (pNextT_any B O t K HV LV hs os lost ks n w h).mono ?_
  rintro e w' ⟨rfl, hx⟩
  exact ⟨rfl, OnlyS.of_ext hx, O, ⟨t, K, HV, LV, hs, lost, rfl, h.1.ext hx, h.2⟩, fun b hb => .inl hb⟩
set_option maxRecDepth 100000 in
set_option maxHeartbeats 1000000 in
theorem pPut16_any (B : Nat) (O : Nat → Prop) (p : Addr) (os : List (Option (List V))) (ks : List Ky) (n : Int) (v : Value) (o : Option (List V)) (w : World) (h : Tre B O w p os ks n) (hv : OptV w v o) (hf : ∀ r, o = some r → FitR 5000 r ∧ r.length ≤ 1000000) :
    Calls Tryz.prog 91 #[.pointer (some p), v] w fun e w' => e = .returned (.int .i64 (if nextB ks os = true then 0 else 2)) ∧ OnlyS O w w' ∧ ∃ O' n', Tre B O' w' p (putL16 ks os o) ks n' ∧ (∀ b, O' b → O b ∨ w.heap.size ≤ b) ∧ (0 ≤ n → n ≤ 1000000000 → n ≤ n') ∧ (0 ≤ n → n ≤ 1000000000 → ∀ k : Nat, os.length ≤ 2 ^ k → n' ≤ n + k) := by
  obtain ⟨t, K, HV, LV, hs, lost, rfl, h⟩ := h
  have HT := Lib.hid h
  have HV := Lib.hid hv
  have HFT := Lib.hid hf
  have HNX := Lib.hid (pNextT_any B O t K _ LV hs os lost ks n w h)
  have HQ := Lib.hid (show (nextB ks os = false → putL16 ks os o = os) ∧ (nextB ks os = true → ∃ i : Nat, 0 < os.length ∧ lost[0]? = some i ∧ nextI ks os = (i : Int) ∧ putL16 ks os o = os.set i o) from by
    by_cases h0 : 0 < os.length
    · obtain ⟨i, h1, h2, h3⟩ := h.win h0
      unfold nextB nextI putL16
      rw [h3]
      cases os[i]?.join.isSome with
      | true => exact ⟨fun h => by simp at h, fun _ => ⟨i, h0, h1, rfl, rfl⟩⟩
      | false => exact ⟨fun _ => rfl, fun h => by simp at h⟩
    · have : os = [] := List.eq_nil_of_length_eq_zero (by omega)
      subst this
      exact ⟨fun _ => rfl, fun h => by cases h⟩)
  obtain ⟨va, vn, vc, rfl⟩ := hv.shape
  generalize nextI ks os = I at HNX HQ
  generalize nextB ks os = Q at HNX HQ ⊢
  generalize putL16 ks os o = os2 at HQ ⊢
  clear h hv hf
  go_enter Tryz.func91, Tryz.ntmps91
  go_wp2_with fail
  refine HNX.out.mono ?_
  rintro e w1 ⟨rfl, x1⟩
  have HX1 := Lib.hid x1
  clear x1
  cases Q with
  | false =>
    obtain rfl := HQ.out.1 rfl
    go_wp2_with fail
    go_ret
    exact ⟨rfl, OnlyS.of_ext HX1.out, O, n, ⟨t, K, _, LV, hs, lost, rfl, HT.out.1.ext HX1.out, HT.out.2⟩, fun b hb => .inl hb, fun _ _ => Int.le_refl _, fun _ _ k _ => by omega⟩
  | true =>
    obtain ⟨i, h0, hl0, rfl, rfl⟩ := HQ.out.2 rfl
    have HL0 := Lib.hid hl0
    clear hl0
    go_wp2_with fail
    refine (pCopied16_any _ o w1 (HV.out.mono HX1.out) (fun r hr => (HFT.out r hr).2)).mono ?_
    rintro e w2 ⟨⟨u, rfl, ho⟩, x2⟩
    have HB := Lib.hid (show B ≤ w.heap.size from by have := HT.out.1.lt t HT.out.1.tO; omega)
    have HX2 := Lib.hid x2
    have HTM := Lib.hid (((HT.out.1.ext HX1.out).ext x2).more (O' := fun b => O b ∨ (w1.heap.size ≤ b ∧ b < w2.heap.size)) (fun b hb => .inl hb) (fun b hb => by
      have h1 := HX1.out.size
      have h2 := x2.size
      have h3 := HB.out
      rcases hb with hb | hb
      · have := HT.out.1.lt b hb
        omega
      · omega))
    have HU := Lib.hid ((ho.base_le (Nat.le_trans HB.out HX1.out.size)).mono (O' := fun b => O b ∨ (w1.heap.size ≤ b ∧ b < w2.heap.size)) fun k hk => .inr hk)
    obtain ⟨ua, un, uc, rfl⟩ := ho.opt.shape
    clear ho x2
    go_wp2_with fail
    refine (pReplace16_any B _ t K _ LV hs os lost ks n i _ o w2 ⟨HTM.out, HT.out.2⟩ h0 HL0.out HU.out (fun r hr => (HFT.out r hr).1)).mono ?_
    rintro e w3 ⟨rfl, ho3, lost3, n3, ht3, hb3⟩
    have HO3 := Lib.hid (((OnlyS.of_ext (X := O) (Ext.trans HX1.out HX2.out))).trans (ho3.mono fun b _ hb => HT.out.1.wr hb) (fun _ _ h => h))
    have HT3 := Lib.hid ht3
    have HB3 := Lib.hid hb3
    clear ho3 ht3 hb3
    go_wp2_with fail
    go_ret
    refine ⟨rfl, HO3.out, _, n3, ⟨t, K, _, LV, _, lost3, rfl, HT3.out⟩, fun b hb => ?_, fun h1 h2 => (HB3.out 4 HT.out.2.1 h1 (by omega)).1, fun h1 h2 k hk => ?_⟩
    · rcases hb with hb | hb
      · exact .inl hb
      · exact .inr (Nat.le_trans HX1.out.size hb.1)
    · rcases Nat.lt_or_ge 4 k with h4 | h4
      · have := (HB3.out 4 HT.out.2.1 h1 (by omega)).2
        omega
      · exact (HB3.out k hk h1 (by omega)).2
end Go.Proofs.YtaoegcakefodaaaGreat

namespace Go.Proofs.YtaoegcakefodaaaGreat
open Go.RowKit Go.BigFrame LosWin
section
variable {α : Type} {f : α → α → Int}
theorem merge_done {cur : List (List α)} (hn : LosPure.nextS f (cur.map List.head?) = none) : LosPure.mergeL f cur = [] := by
  unfold LosPure.mergeL
  cases cur.flatten.length with
  | zero => rfl
  | succ n => unfold LosPure.mergeN; rw [hn]
theorem flat_stepL {cur : List (List α)} {i : Nat} {x : α} {t : List α} (hc : cur[i]? = some (x :: t)) : cur.flatten.length = (cur.set i t).flatten.length + 1 := by
  obtain ⟨e1, e2⟩ := LosPure.set_parts hc t
  rw [e2]
  conv => lhs; rw [e1]
  simp only [List.flatten_append, List.flatten_cons, List.length_append, List.length_cons]
  omega
theorem merge_step {cur : List (List α)} {i : Nat} {x : α} {t : List α} (hn : LosPure.nextS f (cur.map List.head?) = some i) (hc : cur[i]? = some (x :: t)) : LosPure.mergeL f cur = x :: LosPure.mergeL f (cur.set i t) := by
  unfold LosPure.mergeL
  rw [flat_stepL hc]
  conv => lhs; unfold LosPure.mergeN
  rw [hn]
  simp only [hc]
end
theorem head_mem {α : Type} {l : List α} {r : α} (h : l.head? = some r) : r ∈ l := by
  cases l with
  | nil => cases h
  | cons a t =>
    have e : a = r := by simpa using h
    rw [e]
    exact List.mem_cons_self
theorem heads_mem {ls : List (List (List V))} {r : List V} (h : some r ∈ ls.map List.head?) : ∃ l ∈ ls, r ∈ l := by
  obtain ⟨l, hl, e⟩ := List.mem_map.1 h
  exact ⟨l, hl, head_mem e⟩
theorem nextI_at {ks : List Ky} {cur : List (List (List V))} (h : nextB ks (cur.map List.head?) = true) : ∃ (i : Nat) (x : List V) (t : List (List V)), nextI ks (cur.map List.head?) = (i : Int) ∧ cur[i]? = some (x :: t) ∧ LosPure.nextS (cmpR ks) (cur.map List.head?) = some i := by
  unfold nextB at h
  unfold nextI
  cases hn : LosPure.nextS (cmpR ks) (cur.map List.head?) with
  | none => rw [hn] at h; cases h
  | some i =>
    obtain ⟨q, h1, -⟩ := LosPure.next_some (cmpR_pre ks) hn
    rw [List.getElem?_map] at h1
    cases hc : cur[i]? with
    | none => rw [hc] at h1; simp at h1
    | some l =>
      rw [hc] at h1
      cases l with
      | nil => simp at h1
      | cons q' t => exact ⟨i, q', t, rfl, by rw [hc], rfl⟩
end Go.Proofs.YtaoegcakefodaaaGreat

namespace Go.Proofs.YtaoegcakefodaaaGreat
open Go.RowKit Go.BigFrame
def setZ3 (Z : Nat → Nat → Prop) (a b c : Nat) (A B C : Nat → Prop) : Nat → Nat → Prop := fun k => if k = a then A else if k = b then B else if k = c then C else Z k
theorem setZ3_a (Z : Nat → Nat → Prop) (a b c : Nat) (A B C : Nat → Prop) : setZ3 Z a b c A B C a = A := if_pos rfl
theorem setZ3_b (Z : Nat → Nat → Prop) {a b : Nat} (c : Nat) (A B C : Nat → Prop) (h : b ≠ a) : setZ3 Z a b c A B C b = B := (if_neg h).trans (if_pos rfl)
theorem setZ3_c (Z : Nat → Nat → Prop) {a b c : Nat} (A B C : Nat → Prop) (h : c ≠ a) (h2 : c ≠ b) : setZ3 Z a b c A B C c = C := (if_neg h).trans ((if_neg h2).trans (if_pos rfl))
theorem setZ3_o (Z : Nat → Nat → Prop) {a b c k : Nat} (A B C : Nat → Prop) (h : k ≠ a) (h2 : k ≠ b) (h3 : k ≠ c) : setZ3 Z a b c A B C k = Z k := (if_neg h).trans ((if_neg h2).trans (if_neg h3))
theorem Fam.set3 {N : Nat} {Z : Nat → Nat → Prop} {w w' : World} (h : Fam N Z w) {a b c : Nat} (hab : b ≠ a) (hac : c ≠ a) (hbc : c ≠ b) {A B C : Nat → Prop} (hs : w.heap.size ≤ w'.heap.size)
    (hA : ∀ x, A x → (Z a x ∨ Z b x ∨ Z c x ∨ w.heap.size ≤ x) ∧ x < w'.heap.size) (hB : ∀ x, B x → (Z a x ∨ Z b x ∨ Z c x ∨ w.heap.size ≤ x) ∧ x < w'.heap.size) (hC : ∀ x, C x → (Z a x ∨ Z b x ∨ Z c x ∨ w.heap.size ≤ x) ∧ x < w'.heap.size)
    (d1 : ∀ x, A x → ¬ B x) (d2 : ∀ x, A x → ¬ C x) (d3 : ∀ x, B x → ¬ C x) : Fam N (setZ3 Z a b c A B C) w' := by
  have key : ∀ X : Nat → Prop, (∀ x, X x → (Z a x ∨ Z b x ∨ Z c x ∨ w.heap.size ≤ x) ∧ x < w'.heap.size) → ∀ x, X x → ((∃ j, (j = a ∨ j = b ∨ j = c) ∧ Z j x) ∨ w.heap.size ≤ x) ∧ x < w'.heap.size := fun X hX x hx => by
    obtain ⟨h1, h2⟩ := hX x hx
    refine ⟨?_, h2⟩
    rcases h1 with h1 | h1 | h1 | h1
    · exact .inl ⟨a, .inl rfl, h1⟩
    · exact .inl ⟨b, .inr (.inl rfl), h1⟩
    · exact .inl ⟨c, .inr (.inr rfl), h1⟩
    · exact .inr h1
  refine h.step (fun k => k = a ∨ k = b ∨ k = c) hs (fun i hi x hx => ?_) (fun i hi x hx => ?_) (fun i j hi hj hij x hx hy => ?_)
  · rw [setZ3_o Z A B C (fun e => hi (.inl e)) (fun e => hi (.inr (.inl e))) (fun e => hi (.inr (.inr e)))] at hx
    exact hx
  · rcases hi with rfl | rfl | rfl
    · rw [setZ3_a] at hx
      exact key A hA x hx
    · rw [setZ3_b Z _ A B C hab] at hx
      exact key B hB x hx
    · rw [setZ3_c Z A B C hac hbc] at hx
      exact key C hC x hx
  · rcases hi with rfl | rfl | rfl <;> rcases hj with rfl | rfl | rfl
    · exact hij rfl
    · rw [setZ3_a] at hx; rw [setZ3_b Z _ A B C hab] at hy; exact d1 x hx hy
    · rw [setZ3_a] at hx; rw [setZ3_c Z A B C hac hbc] at hy; exact d2 x hx hy
    · rw [setZ3_b Z _ A B C hab] at hx; rw [setZ3_a] at hy; exact d1 x hy hx
    · exact hij rfl
    · rw [setZ3_b Z _ A B C hab] at hx; rw [setZ3_c Z A B C hac hbc] at hy; exact d3 x hx hy
    · rw [setZ3_c Z A B C hac hbc] at hx; rw [setZ3_a] at hy; exact d2 x hy hx
    · rw [setZ3_c Z A B C hac hbc] at hx; rw [setZ3_b Z _ A B C hab] at hy; exact d3 x hy hx
    · exact hij rfl
theorem Fam.set1 {N : Nat} {Z : Nat → Nat → Prop} {w w' : World} (h : Fam N Z w) (a : Nat) {A : Nat → Prop} (hs : w.heap.size ≤ w'.heap.size) (hA : ∀ x, A x → (Z a x ∨ w.heap.size ≤ x) ∧ x < w'.heap.size) : Fam N (setZ Z a A) w' := by
  refine h.step (fun k => k = a) hs (fun i hi x hx => ?_) (fun i hi x hx => ?_) (fun i j hi hj hij => absurd (hi.trans hj.symm) hij)
  · rw [setZ_other Z A hi] at hx
    exact hx
  · subst hi
    rw [setZ_same] at hx
    obtain ⟨h1, h2⟩ := hA x hx
    exact ⟨h1.imp (fun h => ⟨i, rfl, h⟩) id, h2⟩
def heldO (cur : List (List (List V))) : Int := (cur.map fun l => match l with | [] => (0 : Int) | r :: _ => rowCost r).sum
structure Mg (B p q t : Nat) (ks : List Ky) (K R CA HA : Value) (g : List Run) (most base : Int) (P : Nat → Prop) (held : Int) (w : World) (Z : Nat → Nat → Prop) (s : St) (cv hs : List Value) (cur : List (List (List V))) : Prop where
  fam : Fam 0 Z w
  sto : PSto (Z 0) w p s
  ok : okS s
  pur : ∃ pk, PurS w q ⟨most, base + held, pk⟩
  blk : Wk5 w t p q K held R
  zt : Z 3 t
  zq : Z 4 q
  fls : Fls w p g
  zf : ∀ r ∈ g, ∀ b, r.F b → Z 5 b
  hold : ∀ r ∈ g, Holds s r.ids (rowsB (sortS ks r.y))
  ca : w.ownsRow B 122 1 CA g.length cv
  zca : ∀ b, CA.ownBlock = some b → Z 6 b
  ha : w.ownsRow B 58 1 HA g.length hs
  zha : ∀ b, HA.ownBlock = some b → Z 7 b
  cl : cur.length = g.length
  hd : ∀ i, P i → ∀ v l, hs[i]? = some v → cur[i]? = some l → OptO B (Z (9 + 2 * i)) w v l.head?
  cu : ∀ i, P i → ∀ r l, g[i]? = some r → cur[i]? = some l → ∃ c m, cv[i]? = some (.pointer (some ⟨c, 0, none⟩)) ∧ m ≤ (sortS ks r.y).length ∧ l = (sortS ks r.y).drop m ∧ Cur (Z (8 + 2 * i)) w c r.f p r.ids (sortS ks r.y) (min (m + 1) (sortS ks r.y).length)
section
variable {B p q t : Nat} {ks : List Ky} {K R CA HA : Value} {g : List Run} {most base : Int} {P : Nat → Prop} {held : Int} {w : World} {Z : Nat → Nat → Prop} {s : St} {cv hs : List Value} {cur : List (List (List V))}
theorem Mg.turn (h : Mg B p q t ks K R CA HA g most base P held w Z s cv hs cur) {w' : World} {Z' : Nat → Nat → Prop} {s' : St} {held' : Int} {P' : Nat → Prop} {cv' hs' : List Value} (S : Nat → Prop)
    (ho : OnlyS (fun b => ∃ i, S i ∧ Z i b) w w') (hf : Fam 0 Z' w') (hz : ∀ i, ¬ S i → Z' i = Z i) (hP : ∀ i, P' i → P i) (hPc : ∀ i, P' i → ¬ S (8 + 2 * i) ∧ ¬ S (9 + 2 * i))
    (h0 : (¬ S 0 ∧ s' = s) ∨ (PSto (Z' 0) w' p s' ∧ okS s' ∧ ∀ r ∈ g, Holds s' r.ids (rowsB (sortS ks r.y))))
    (h34 : (¬ S 3 ∧ ¬ S 4 ∧ held' = held) ∨ (Z' 3 t ∧ Z' 4 q ∧ (∃ pk, PurS w' q ⟨most, base + held', pk⟩) ∧ Wk5 w' t p q K held' R))
    (h5 : ¬ S 5) (h6 : (¬ S 6 ∧ cv' = cv) ∨ ((∀ b, CA.ownBlock = some b → Z' 6 b) ∧ w'.ownsRow B 122 1 CA g.length cv')) (h7 : (¬ S 7 ∧ hs' = hs) ∨ ((∀ b, HA.ownBlock = some b → Z' 7 b) ∧ w'.ownsRow B 58 1 HA g.length hs'))
    (hcv : ∀ i, P' i → cv'[i]? = cv[i]?) (hhs : ∀ i, P' i → hs'[i]? = hs[i]?) : Mg B p q t ks K R CA HA g most base P' held' w' Z' s' cv' hs' cur := by
  have hno : ∀ {j : Nat}, ¬ S j → ∀ b, (∃ i, S i ∧ Z i b) → ¬ Z j b := fun hj => h.fam.other hj
  have hsto : PSto (Z' 0) w' p s' ∧ okS s' ∧ ∀ r ∈ g, Holds s' r.ids (rowsB (sortS ks r.y)) := by
    rcases h0 with ⟨h1, rfl⟩ | h1
    · rw [hz 0 h1]
      exact ⟨h.sto.onlyS ho fun b hb h2 => hno h1 b h2 hb, h.ok, h.hold⟩
    · exact h1
  have hpw : Z' 3 t ∧ Z' 4 q ∧ (∃ pk, PurS w' q ⟨most, base + held', pk⟩) ∧ Wk5 w' t p q K held' R := by
    rcases h34 with ⟨h3, h4, rfl⟩ | h1
    · rw [hz 3 h3, hz 4 h4]
      obtain ⟨pk, hpk⟩ := h.pur
      exact ⟨h.zt, h.zq, ⟨pk, hpk.onlyS ho fun h2 => hno h4 q h2 h.zq⟩, h.blk.onlyS ho fun h2 => hno h3 t h2 h.zt⟩
    · exact h1
  have hca : (∀ b, CA.ownBlock = some b → Z' 6 b) ∧ w'.ownsRow B 122 1 CA g.length cv' := by
    rcases h6 with ⟨h1, rfl⟩ | h1
    · exact ⟨fun b hb => by rw [hz 6 h1]; exact h.zca b hb, own_others h.ca ho fun b hb h2 => hno h1 b h2 (h.zca b hb)⟩
    · exact h1
  have hha : (∀ b, HA.ownBlock = some b → Z' 7 b) ∧ w'.ownsRow B 58 1 HA g.length hs' := by
    rcases h7 with ⟨h1, rfl⟩ | h1
    · exact ⟨fun b hb => by rw [hz 7 h1]; exact h.zha b hb, own_others h.ha ho fun b hb h2 => hno h1 b h2 (h.zha b hb)⟩
    · exact h1
  refine ⟨hf, hsto.1, hsto.2.1, hpw.2.2.1, hpw.2.2.2, hpw.1, hpw.2.1, h.fls.keep ho fun r hr b h2 h3 => hno h5 b h2 (h.zf r hr b h3), fun r hr b hb => by rw [hz 5 h5]; exact h.zf r hr b hb, hsto.2.2,
    hca.2, hca.1, hha.2, hha.1, h.cl, fun i hi v l hv hl => ?_, fun i hi r l hr hl => ?_⟩
  · rw [hhs i hi] at hv
    have h1 := h.hd i (hP i hi) v l hv hl
    rw [hz _ (hPc i hi).2]
    refine h1.others ho fun b hb h2 => ?_
    refine hno (hPc i hi).2 b h2 ?_
    cases hh : l.head? with
    | none => rw [hh] at h1; rw [show v = .slice none 0 0 from h1] at hb; cases hb
    | some r => rw [hh] at h1; exact h1.2 b hb
  · obtain ⟨c, m, h1, h2, h3, h4⟩ := h.cu i (hP i hi) r l hr hl
    refine ⟨c, m, by rw [hcv i hi]; exact h1, h2, h3, ?_⟩
    rw [hz _ (hPc i hi).1]
    exact h4.keep ho fun b h5 => hno (hPc i hi).1 b h5
theorem Mg.settle (h : Mg B p q t ks K R CA HA g most base P held w Z s cv hs cur) {i0 : Nat} {r0 : Run} (hi : g[i0]? = some r0) (hP : ¬ P i0) (l0 : List (List V)) {v0 : Value} (hv : hs[i0]? = some v0) (hd : OptO B (Z (9 + 2 * i0)) w v0 l0.head?)
    (hc : ∃ c m, cv[i0]? = some (.pointer (some ⟨c, 0, none⟩)) ∧ m ≤ (sortS ks r0.y).length ∧ l0 = (sortS ks r0.y).drop m ∧ Cur (Z (8 + 2 * i0)) w c r0.f p r0.ids (sortS ks r0.y) (min (m + 1) (sortS ks r0.y).length)) :
    Mg B p q t ks K R CA HA g most base (fun i => P i ∨ i = i0) held w Z s cv hs (cur.set i0 l0) := by
  have hlt : i0 < cur.length := by rw [h.cl]; exact (List.getElem?_eq_some_iff.1 hi).1
  refine { h with cl := by rw [List.length_set]; exact h.cl, hd := fun i hi2 v l hv2 hl => ?_, cu := fun i hi2 r l hr hl => ?_ }
  · by_cases e : i = i0
    · subst e
      rw [hv] at hv2
      rw [List.getElem?_set_self hlt] at hl
      rw [← Option.some.inj hv2, ← Option.some.inj hl]
      exact hd
    · rw [List.getElem?_set_ne (fun e2 => e e2.symm)] at hl
      exact h.hd i (hi2.resolve_right e) v l hv2 hl
  · by_cases e : i = i0
    · subst e
      rw [hi] at hr
      rw [List.getElem?_set_self hlt] at hl
      rw [← Option.some.inj hr, ← Option.some.inj hl]
      exact hc
    · rw [List.getElem?_set_ne (fun e2 => e e2.symm)] at hl
      exact h.cu i (hi2.resolve_right e) r l hr hl
theorem Mg.writeC (h : Mg B p q t ks K R CA HA g most base P held w Z s cv hs cur) {i0 : Nat} (hi : i0 < g.length) (hP : ¬ P i0) :
    ∃ b c, CA = .slice (some ⟨b, 0, none⟩) g.length c ∧ (∃ u0, w.cell? ⟨b, i0, none⟩ = some u0) ∧ w.frozen? ⟨b, i0, none⟩ = false ∧ ∀ u, Mg B p q t ks K R CA HA g most base P held (w.setCell ⟨b, i0, none⟩ u) Z s (cv.set i0 u) hs cur ∧ OnlyS (fun x => Z 6 x) w (w.setCell ⟨b, i0, none⟩ u) := by
  obtain ⟨a, c, hCA, -, -⟩ := own_shapeP h.ca
  have hca := h.ca
  rw [hCA] at hca
  obtain ⟨b, rfl, -, hfz, -, -, hst⟩ := own_at hca hi
  have hlen : cv.length = g.length := by simpa using h.ca.1
  have hzb : Z 6 b := h.zca b (by rw [hCA]; rfl)
  refine ⟨b, c, hCA, ⟨_, (hca.cellAt i0 (by omega)).trans (List.getElem?_eq_getElem (by omega))⟩, hfz, fun u => ?_⟩
  have ho := only_setL b i0 w u
  have ho2 : OnlyS (fun x => ∃ i, i = 6 ∧ Z i x) w (w.setCell ⟨b, i0, none⟩ u) := ho.mono fun x _ e => ⟨6, rfl, by rw [e]; exact hzb⟩
  refine ⟨h.turn (fun i => i = 6) ho2 (h.fam.later ho.size) (fun _ _ => rfl) (fun i hi => hi) (fun i _ => ⟨by omega, by omega⟩) (.inl ⟨by decide, rfl⟩) (.inl ⟨by decide, by decide, rfl⟩) (by decide) (.inr ⟨h.zca, by rw [hCA]; exact hst u⟩) (.inl ⟨by decide, rfl⟩) (fun i hPi => ?_) (fun _ _ => rfl), ho.mono fun x _ e => by rw [e]; exact hzb⟩
  have hne : i0 ≠ i := fun e => hP (by rw [e]; exact hPi)
  rw [List.getElem?_set_ne hne]
theorem Mg.writeH (h : Mg B p q t ks K R CA HA g most base P held w Z s cv hs cur) {i0 : Nat} (hi : i0 < g.length) (hP : ¬ P i0) :
    ∃ b c, HA = .slice (some ⟨b, 0, none⟩) g.length c ∧ (∃ u0, w.cell? ⟨b, i0, none⟩ = some u0) ∧ w.frozen? ⟨b, i0, none⟩ = false ∧ ∀ u, Mg B p q t ks K R CA HA g most base P held (w.setCell ⟨b, i0, none⟩ u) Z s cv (hs.set i0 u) cur ∧ OnlyS (fun x => Z 7 x) w (w.setCell ⟨b, i0, none⟩ u) := by
  obtain ⟨a, c, hHA, -, -⟩ := own_shapeP h.ha
  have hha := h.ha
  rw [hHA] at hha
  obtain ⟨b, rfl, -, hfz, -, -, hst⟩ := own_at hha hi
  have hlen : hs.length = g.length := by simpa using h.ha.1
  have hzb : Z 7 b := h.zha b (by rw [hHA]; rfl)
  refine ⟨b, c, hHA, ⟨_, (hha.cellAt i0 (by omega)).trans (List.getElem?_eq_getElem (by omega))⟩, hfz, fun u => ?_⟩
  have ho := only_setL b i0 w u
  have ho2 : OnlyS (fun x => ∃ i, i = 7 ∧ Z i x) w (w.setCell ⟨b, i0, none⟩ u) := ho.mono fun x _ e => ⟨7, rfl, by rw [e]; exact hzb⟩
  refine ⟨h.turn (fun i => i = 7) ho2 (h.fam.later ho.size) (fun _ _ => rfl) (fun i hi => hi) (fun i _ => ⟨by omega, by omega⟩) (.inl ⟨by decide, rfl⟩) (.inl ⟨by decide, by decide, rfl⟩) (by decide) (.inl ⟨by decide, rfl⟩) (.inr ⟨h.zha, by rw [hHA]; exact hst u⟩) (fun _ _ => rfl) (fun i hPi => ?_), ho.mono fun x _ e => by rw [e]; exact hzb⟩
  have hne : i0 ≠ i := fun e => hP (by rw [e]; exact hPi)
  rw [List.getElem?_set_ne hne]
theorem Mg.ext (h : Mg B p q t ks K R CA HA g most base P held w Z s cv hs cur) {w' : World} (hx : Ext w w') : Mg B p q t ks K R CA HA g most base P held w' Z s cv hs cur :=
  h.turn (fun _ => False) (OnlyS.of_ext hx) (h.fam.later hx.size) (fun _ _ => rfl) (fun _ h => h) (fun _ _ => ⟨id, id⟩) (.inl ⟨id, rfl⟩) (.inl ⟨id, id, rfl⟩) id (.inl ⟨id, rfl⟩) (.inl ⟨id, rfl⟩) (fun _ _ => rfl) (fun _ _ => rfl)
theorem Mg.one (h : Mg B p q t ks K R CA HA g most base P held w Z s cv hs cur) {w' : World} {a : Nat} (ha : a = 1 ∨ a = 2) {A : Nat → Prop} (ho : OnlyS (Z a) w w') (hA : ∀ x, A x → (Z a x ∨ w.heap.size ≤ x) ∧ x < w'.heap.size) : Mg B p q t ks K R CA HA g most base P held w' (setZ Z a A) s cv hs cur := by
  refine h.turn (fun i => i = a) (ho.mono fun x _ hx => ⟨a, rfl, hx⟩) (h.fam.set1 a ho.size hA) (fun i hi => setZ_other Z A hi) (fun _ h => h) (fun i _ => ⟨by omega, by omega⟩) (.inl ⟨by omega, rfl⟩) (.inl ⟨by omega, by omega, rfl⟩) (by omega) (.inl ⟨by omega, rfl⟩) (.inl ⟨by omega, rfl⟩) (fun _ _ => rfl) (fun _ _ => rfl)
end
end Go.Proofs.YtaoegcakefodaaaGreat

