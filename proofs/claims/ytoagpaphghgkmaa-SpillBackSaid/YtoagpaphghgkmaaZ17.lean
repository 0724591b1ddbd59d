/-
  Texts of this proof, merged: SpiNum, SpiVal, SpiRow.
-/
import Derived.Test.YtoagpaphghgkmaaZ16
import Derived.Test.YtoagpaphghgkmaaZ12
import Derived.Test.YtoagpaphghgkmaaZ8
/-
  A cursor of the program of layer 17: an unsigned integer is taken, a value is taken.
-/
namespace Go.Proofs.Ytoagpaphghgkmaa
open Go.RowKit Go.BigFrame

/-- What a call leaves that takes something that ends at endp: it tells that, or the error of a page. -/
def Got17 (O X : Nat → Prop) (w : World) (c p : Nat) (s : St) (ids : List Nat) (B : List UInt8) (endp J left : Nat) (good bad : Ending) (e : Ending) (w' : World) : Prop :=
  ∃ O' vi vr, PSto O' w' p s ∧ Duo O X w O' (ownC c vi vr) w' ∧
    ((endp ≤ 56 * J ∧ e = good ∧ CuM w' c p (ids.drop ((endp + 55) / 56)) (((padB B ids.length).take (56 * ((endp + 55) / 56))).drop endp) left vi vr) ∨
     (56 * J < endp ∧ e = bad ∧ ∃ is rest, CuM w' c p is rest left vi vr))
/-- What lies at a place begins the bytes that were read from there on. -/
theorem padB_at {B : List UInt8} {N m pos : Nat} {a t : List UInt8} (_hl : B.length ≤ 56 * N) (hat : (padB B N).drop pos = a ++ t) (_hm : m ≤ N) (he : pos + a.length ≤ 56 * m) :
    ((padB B N).take (56 * m)).drop pos = a ++ ((padB B N).take (56 * m)).drop (pos + a.length) := by
  rw [padB_rest, hat, take_app _ _ _ (by omega), padB_rest, ← List.drop_drop, hat, List.drop_left]
  congr 2
  omega

set_option maxRecDepth 100000 in
set_option maxHeartbeats 4000000 in
theorem pNumber17_any (O : Nat → Prop) (c p pos J left M n : Nat) (E : Int) (s : St) (ids : List Nat) (B t : List UInt8) (vi vr : Value) (w : World) (h : PSto O w p s) (hok : okS s) (hp : PgT s ids B J M E)
    (hC : CuM w c p (ids.drop ((pos + 55) / 56)) (((padB B ids.length).take (56 * ((pos + 55) / 56))).drop pos) left vi vr) (hox : ∀ b, O b → ¬ ownC c vi vr b)
    (hfew : ∀ i ∈ ids, i ≤ 4096) (hpos : pos ≤ 56 * J) (hat : (padB B ids.length).drop pos = enc n ++ t) (hn : n < 2 ^ 64) (hen : pos + (enc n).length ≤ 56 * ids.length) (hM : pos + (enc n).length ≤ M) :
    Calls Try.prog 71 #[.pointer (some ⟨c, 0, none⟩)] w (Got17 O (ownC c vi vr) w c p s ids B (pos + (enc n).length) J left (.returned (.tuple #[.int .u64 n, .int .i64 0])) (.returned (.tuple #[.int .u64 0, .int .i64 E]))) := by
  have hel := enc_length n
  have hep := enc_pos n
  have HFILL := Lib.hid (pFill17_any 90 numCut enters_num17 (fun v b W hb _ => (pNumCut17_any v b W hb).mono fun e w' hh => ⟨hh.1, hh.2 ▸ Ext.keeps.refl _⟩) O c p pos (pos + (enc n).length) J left M E s ids B vi vr w h hok hp hC hox hfew hpos (by omega) hen (by omega) hM (fun m h1 h2 => by
    rw [numCut_enc hn t _ (56 * m - pos) (by rw [padB_rest, hat]), decide_eq_decide, padB_rest_len pos hp.len h2]
    omega))
  have HPG := Lib.hid hp
  have HAT := Lib.hid hat
  obtain ⟨i5, hi5, hz0, hz1, hz2⟩ := info_parts Try.info5
  clear h hok hp hC hox hat
  go_enter Try.func71, Try.ntmps71
  go_wp2_with fail
  refine HFILL.out.mono ?_
  rintro e w1 ⟨O1, vi1, vr1, hp1, hd1, ⟨hle, rfl, hC1⟩ | ⟨hlt, rfl, is, rest, hC1⟩⟩
  · have HP1 := Lib.hid hp1
    have HD1 := Lib.hid hd1
    have hmn : (pos + (enc n).length + 55) / 56 ≤ ids.length := by have := HPG.out.jn; omega
    rw [padB_at HPG.out.len HAT.out hmn (by omega)] at hC1
    generalize hR : ((padB B ids.length).take (56 * ((pos + (enc n).length + 55) / 56))).drop (pos + (enc n).length) = R at hC1
    have hRl : R.length ≤ 1000 := by
      rw [← hR, padB_rest_len _ HPG.out.len hmn]
      omega
    have HR := Lib.hid hR
    clear hR
    obtain ⟨ra, rc, rfl, hr1, hr2⟩ := hC1.rest.shape
    rw [List.length_map, List.length_append] at hr1 hC1
    unfold maxLen at hr2
    rw [List.length_map, List.length_append] at HD1
    have HC1 := Lib.hid hC1
    have HNEW := Lib.hid (New_anyP _ (enc n ++ R) w1 hC1.rest.rd (by rw [List.length_append]; omega))
    have c2 := hC1.blk.cell 2 _ rfl
    clear hp1 hd1 hC1
    go_wp2_with fail
    refine HNEW.out.mono ?_
    rintro e w2 ⟨g, rfl, hg1, hg2, hrd, hx2⟩
    have HNUM := Lib.hid (RNum_tk _ g _ false w2 (fun h => by cases h) hrd)
    rw [tk_enc n R hn] at HNUM
    have HX2 := Lib.hid hx2
    clear hrd hx2
    go_wp2_with fail
    refine HNUM.out.mono ?_
    rintro e w3 ⟨rfl, hrd3, ho3⟩
    have HBAD := Lib.hid (Bad_anyP _ g R false w3 hrd3)
    have HLF := Lib.hid (pLeft17_any _ g R false w3.drew (fun h => by cases h) ⟨hrd3.choose, hrd3.choose_spec.1, hrd3.choose_spec.2.1.mono (Ext.drew w3), hrd3.choose_spec.2.2⟩)
    have HX3 := Lib.hid (show Ext w1 w3 from HX2.out.trans (Below.of_only ho3 HX2.out.size hg1))
    clear hrd3 ho3
    go_wp2_with fail
    refine HBAD.out.mono ?_
    rintro e w4 ⟨rfl, rfl⟩
    obtain ⟨ra', rc', hdo, hdb, hdr⟩ := ((HC1.out.keep (OnlyS.of_ext (X := fun _ => False) HX3.out) (fun _ h => h.elim)).rest.ext (Ext.drew w3)).dropG Try.underlying43 hi5 hz1 (enc n).length (by omega)
    obtain ⟨TL, hTL⟩ : ∃ TL, (enc n).length + R.length = TL := ⟨_, rfl⟩
    obtain ⟨RL, hRL⟩ : ∃ RL, R.length = RL := ⟨_, rfl⟩
    have hdr2 : ∀ W, (Instr.slice 43 (.slice ra TL rc) (some (.int .i64 ((TL : Int) - (RL : Int)))) none none).run Try.prog W = .ok (.slice ra' (TL - (enc n).length) rc') W := by
      intro W
      have := hdr W
      rw [hTL] at this
      rw [show ((TL : Int) - (RL : Int)) = (((enc n).length : Nat) : Int) by omega]
      exact this
    rw [hTL] at HC1 HD1 hdo hdb
    rw [hRL] at HLF
    have hT1 : TL ≤ 2000 := by omega
    have hT2 : RL ≤ TL := by omega
    have HXD := Lib.hid (Ext.trans HX3.out (Ext.drew w3))
    have HDO := Lib.hid hdo
    have HDB := Lib.hid hdb
    clear hdo hdb hdr c2 hTL hRL
    have HFIN := Lib.hid (fun (wd : World) (hx : Ext w1 wd) (hdo : OwnT (c + 1) 5 wd (.slice ra' (TL - (enc n).length) rc') (List.drop (enc n).length (List.map bv (enc n ++ R)))) => (show Got17 O (ownC c vi vr) w c p s ids B (pos + (enc n).length) J left (.returned (.tuple #[.int .u64 n, .int .i64 0])) (.returned (.tuple #[.int .u64 0, .int .i64 E])) (.returned (.tuple #[.int .u64 n, .int .i64 0])) (wd.setCell ⟨c, 2, none⟩ (.slice ra' (TL - (enc n).length) rc')) by
      have hs := OnlyS.set0 c 2 wd (.slice ra' (TL - (enc n).length) rc')
      have hC := HC1.out.keep (OnlyS.of_ext (X := fun _ => False) hx) (fun _ h => h.elim)
      have hvr : ∀ k, (Value.slice ra' (TL - (enc n).length) rc').ownBlock = some k → (Value.slice ra TL rc).ownBlock = some k := fun k hk => HDB.out ▸ hk
      have hd : Duo O1 (ownC c vi1 (.slice ra TL rc)) w1 O1 (ownC c vi1 (.slice ra' (TL - (enc n).length) rc')) (wd.setCell ⟨c, 2, none⟩ (.slice ra' (TL - (enc n).length) rc')) := by
        refine ⟨OnlyS.trans (OnlyS.of_ext hx) (hs.mono fun b _ hb => .inr (.inl hb)) fun _ _ h => h, fun _ hb => .inl hb, fun b hb => ?_, fun b hb hw => ?_⟩
        · rcases hb with hb | hb | hb
          · exact .inl (.inl hb)
          · exact .inl (.inr (.inl hb))
          · exact .inl (.inr (.inr (hvr b hb)))
        · rcases hw with hw | hw | hw
          · exact HD1.out.apart b hb (.inl hw)
          · exact HD1.out.apart b hb (.inr (.inl hw))
          · exact HD1.out.apart b hb (.inr (.inr (hvr b hw)))
      refine ⟨O1, vi1, _, (HP1.out.onlyS (OnlyS.of_ext (X := fun _ => False) hx) (fun _ _ h => h)).onlyS hs (fun b hb e => HD1.out.apart b hb (.inl e)), HD1.out.trans hd, .inl ⟨hle, rfl, ⟨hC.blk.set 2 _, hC.ids.beside hs (fun k e => .inr fun e2 => (hC.ine k e2).1 e), fun k hk => ⟨(hC.ine k hk).1, Nat.lt_of_lt_of_le (hC.ine k hk).2.1 hs.size, fun e => (hC.ine k hk).2.2 (hvr k e)⟩, ?_, fun k hk => ?_, hC.few⟩⟩⟩
      · rw [HR.out]
        have h1 := hdo.beside hs (fun k e => .inl (by omega))
        rwa [← List.map_drop, List.drop_left] at h1
      · have h1 := hC.rin k (hvr k hk)
        exact ⟨h1.1, Nat.lt_of_lt_of_le h1.2 hs.size⟩))
    have HB4 := Lib.hid ((HC1.out.keep (OnlyS.of_ext (X := fun _ => False) HX3.out) (fun _ h => h.elim)).blk.ext (Ext.drew w3))
    have c2 := HB4.out.cell 2 _ rfl
    have HFI := Lib.hid (HFIN.out w3.drew HXD.out HDO.out)
    clear HFIN HDO
    go_wp2_with fail
    refine wp_region_plan (OnlyS (fun b => b = c)) (OnlyS.keeps _) (.quiet [0, 1, 2, 3, 5, 6, 7, 10] (.three 4 (.two 8 (.quiet [9] (.one 11 (.quiet [12, 13, 14, 15] (.one 16 .done)))) 11 (.one 8 (.quiet [9] (.quiet [12, 13, 14, 15] (.one 16 .done))))) 8 (.quiet [9] (.two 4 (.one 11 (.quiet [12, 13, 14, 15] (.one 16 .done))) 11 (.quiet [12] (.one 4 (.quiet [13, 14, 15] (.one 16 .done)))))) 11 (.two 4 (.one 8 (.quiet [9] (.quiet [12, 13, 14, 15] (.one 16 .done)))) 8 (.quiet [9, 12] (.one 4 (.quiet [13, 14, 15] (.one 16 .done))))))) (by kernel_rfl) (by kernel_rfl) (fun c a a' w e h => (by exact ⟨e ▸ h.1, h.2⟩)) ?_
    refine wpPlan_quiet fun K3 hK3 => ?_
    simp only [pickOps, List.map_cons, List.map_nil, Option.getD_some, List.getElem?_toArray, List.getElem?_cons_zero, List.getElem?_cons_succ]
    repeat go_big_quiet_step (fail)
    refine wpQuiet_nil (hK3 _ ?_)
    clear hK3 K3
    refine wpPlan_three (fun K1 hK1 => ?_) (fun K1 hK1 => ?_) (fun K1 hK1 => ?_)
    · simp only [pickOps, List.map_cons, List.map_nil, Option.getD_some, List.getElem?_toArray, List.getElem?_cons_zero, List.getElem?_cons_succ]
      go_wp2_with fail
      refine ⟨OnlyS.refl _ _, hK1 _ _ ?_⟩
      clear hK1 K1
      refine wpPlan_two (fun K1 hK1 => ?_) (fun K1 hK1 => ?_)
      · simp only [pickOps, List.map_cons, List.map_nil, Option.getD_some, List.getElem?_toArray, List.getElem?_cons_zero, List.getElem?_cons_succ]
        go_wp2_with fail
        refine ⟨OnlyS.refl _ _, hK1 _ _ ?_⟩
        clear hK1 K1
        refine wpPlan_quiet fun K3 hK3 => ?_
        simp only [pickOps, List.map_cons, List.map_nil, Option.getD_some, List.getElem?_toArray, List.getElem?_cons_zero, List.getElem?_cons_succ]
        repeat go_big_quiet_step (fail)
        refine wpQuiet_nil (hK3 _ ?_)
        clear hK3 K3
        refine wpPlan_one fun K1 hK1 => ?_
        simp only [pickOps, List.map_cons, List.map_nil, Option.getD_some, List.getElem?_toArray, List.getElem?_cons_zero, List.getElem?_cons_succ]
        go_wp2_with fail
        refine HLF.out.mono ?_
        rintro e w9 ⟨rfl, rfl⟩
        go_wp2_with fail
        refine ⟨OnlyS.refl _ _, hK1 _ _ ?_⟩
        clear hK1 K1
        refine wpPlan_quiet fun K3 hK3 => ?_
        simp only [pickOps, List.map_cons, List.map_nil, Option.getD_some, List.getElem?_toArray, List.getElem?_cons_zero, List.getElem?_cons_succ]
        repeat go_big_quiet_step (fail)
        refine wpQuiet_nil (hK3 _ ?_)
        clear hK3 K3
        have fz := HB4.out.free 2
        have z2 := HB4.out.cell 2 _ rfl
        refine wpPlan_one fun K1 hK1 => ?_
        simp only [pickOps, List.map_cons, List.map_nil, Option.getD_some, List.getElem?_toArray, List.getElem?_cons_zero, List.getElem?_cons_succ]
        go_wp2_with fail
        refine ⟨OnlyS.set0 c 2 _ _, hK1 _ _ ?_⟩
        clear hK1 K1
        refine wpPlan_done ?_
        go_wp2_with fail
        go_ret2
        exact HFI.out
      · simp only [pickOps, List.map_cons, List.map_nil, Option.getD_some, List.getElem?_toArray, List.getElem?_cons_zero, List.getElem?_cons_succ]
        go_wp2_with fail
        refine HLF.out.mono ?_
        rintro e w9 ⟨rfl, rfl⟩
        go_wp2_with fail
        refine ⟨OnlyS.refl _ _, hK1 _ _ ?_⟩
        clear hK1 K1
        refine wpPlan_one fun K1 hK1 => ?_
        simp only [pickOps, List.map_cons, List.map_nil, Option.getD_some, List.getElem?_toArray, List.getElem?_cons_zero, List.getElem?_cons_succ]
        go_wp2_with fail
        refine ⟨OnlyS.refl _ _, hK1 _ _ ?_⟩
        clear hK1 K1
        refine wpPlan_quiet fun K3 hK3 => ?_
        simp only [pickOps, List.map_cons, List.map_nil, Option.getD_some, List.getElem?_toArray, List.getElem?_cons_zero, List.getElem?_cons_succ]
        repeat go_big_quiet_step (fail)
        refine wpQuiet_nil (hK3 _ ?_)
        clear hK3 K3
        refine wpPlan_quiet fun K3 hK3 => ?_
        simp only [pickOps, List.map_cons, List.map_nil, Option.getD_some, List.getElem?_toArray, List.getElem?_cons_zero, List.getElem?_cons_succ]
        repeat go_big_quiet_step (fail)
        refine wpQuiet_nil (hK3 _ ?_)
        clear hK3 K3
        have fz := HB4.out.free 2
        have z2 := HB4.out.cell 2 _ rfl
        refine wpPlan_one fun K1 hK1 => ?_
        simp only [pickOps, List.map_cons, List.map_nil, Option.getD_some, List.getElem?_toArray, List.getElem?_cons_zero, List.getElem?_cons_succ]
        go_wp2_with fail
        refine ⟨OnlyS.set0 c 2 _ _, hK1 _ _ ?_⟩
        clear hK1 K1
        refine wpPlan_done ?_
        go_wp2_with fail
        go_ret2
        exact HFI.out
    · simp only [pickOps, List.map_cons, List.map_nil, Option.getD_some, List.getElem?_toArray, List.getElem?_cons_zero, List.getElem?_cons_succ]
      go_wp2_with fail
      refine ⟨OnlyS.refl _ _, hK1 _ _ ?_⟩
      clear hK1 K1
      refine wpPlan_quiet fun K3 hK3 => ?_
      simp only [pickOps, List.map_cons, List.map_nil, Option.getD_some, List.getElem?_toArray, List.getElem?_cons_zero, List.getElem?_cons_succ]
      repeat go_big_quiet_step (fail)
      refine wpQuiet_nil (hK3 _ ?_)
      clear hK3 K3
      refine wpPlan_two (fun K1 hK1 => ?_) (fun K1 hK1 => ?_)
      · simp only [pickOps, List.map_cons, List.map_nil, Option.getD_some, List.getElem?_toArray, List.getElem?_cons_zero, List.getElem?_cons_succ]
        go_wp2_with fail
        refine ⟨OnlyS.refl _ _, hK1 _ _ ?_⟩
        clear hK1 K1
        refine wpPlan_one fun K1 hK1 => ?_
        simp only [pickOps, List.map_cons, List.map_nil, Option.getD_some, List.getElem?_toArray, List.getElem?_cons_zero, List.getElem?_cons_succ]
        go_wp2_with fail
        refine HLF.out.mono ?_
        rintro e w9 ⟨rfl, rfl⟩
        go_wp2_with fail
        refine ⟨OnlyS.refl _ _, hK1 _ _ ?_⟩
        clear hK1 K1
        refine wpPlan_quiet fun K3 hK3 => ?_
        simp only [pickOps, List.map_cons, List.map_nil, Option.getD_some, List.getElem?_toArray, List.getElem?_cons_zero, List.getElem?_cons_succ]
        repeat go_big_quiet_step (fail)
        refine wpQuiet_nil (hK3 _ ?_)
        clear hK3 K3
        have fz := HB4.out.free 2
        have z2 := HB4.out.cell 2 _ rfl
        refine wpPlan_one fun K1 hK1 => ?_
        simp only [pickOps, List.map_cons, List.map_nil, Option.getD_some, List.getElem?_toArray, List.getElem?_cons_zero, List.getElem?_cons_succ]
        go_wp2_with fail
        refine ⟨OnlyS.set0 c 2 _ _, hK1 _ _ ?_⟩
        clear hK1 K1
        refine wpPlan_done ?_
        go_wp2_with fail
        go_ret2
        exact HFI.out
      · simp only [pickOps, List.map_cons, List.map_nil, Option.getD_some, List.getElem?_toArray, List.getElem?_cons_zero, List.getElem?_cons_succ]
        go_wp2_with fail
        refine HLF.out.mono ?_
        rintro e w9 ⟨rfl, rfl⟩
        go_wp2_with fail
        refine ⟨OnlyS.refl _ _, hK1 _ _ ?_⟩
        clear hK1 K1
        refine wpPlan_quiet fun K3 hK3 => ?_
        simp only [pickOps, List.map_cons, List.map_nil, Option.getD_some, List.getElem?_toArray, List.getElem?_cons_zero, List.getElem?_cons_succ]
        repeat go_big_quiet_step (fail)
        refine wpQuiet_nil (hK3 _ ?_)
        clear hK3 K3
        refine wpPlan_one fun K1 hK1 => ?_
        simp only [pickOps, List.map_cons, List.map_nil, Option.getD_some, List.getElem?_toArray, List.getElem?_cons_zero, List.getElem?_cons_succ]
        go_wp2_with fail
        refine ⟨OnlyS.refl _ _, hK1 _ _ ?_⟩
        clear hK1 K1
        refine wpPlan_quiet fun K3 hK3 => ?_
        simp only [pickOps, List.map_cons, List.map_nil, Option.getD_some, List.getElem?_toArray, List.getElem?_cons_zero, List.getElem?_cons_succ]
        repeat go_big_quiet_step (fail)
        refine wpQuiet_nil (hK3 _ ?_)
        clear hK3 K3
        have fz := HB4.out.free 2
        have z2 := HB4.out.cell 2 _ rfl
        refine wpPlan_one fun K1 hK1 => ?_
        simp only [pickOps, List.map_cons, List.map_nil, Option.getD_some, List.getElem?_toArray, List.getElem?_cons_zero, List.getElem?_cons_succ]
        go_wp2_with fail
        refine ⟨OnlyS.set0 c 2 _ _, hK1 _ _ ?_⟩
        clear hK1 K1
        refine wpPlan_done ?_
        go_wp2_with fail
        go_ret2
        exact HFI.out
    · simp only [pickOps, List.map_cons, List.map_nil, Option.getD_some, List.getElem?_toArray, List.getElem?_cons_zero, List.getElem?_cons_succ]
      go_wp2_with fail
      refine HLF.out.mono ?_
      rintro e w9 ⟨rfl, rfl⟩
      go_wp2_with fail
      refine ⟨OnlyS.refl _ _, hK1 _ _ ?_⟩
      clear hK1 K1
      refine wpPlan_two (fun K1 hK1 => ?_) (fun K1 hK1 => ?_)
      · simp only [pickOps, List.map_cons, List.map_nil, Option.getD_some, List.getElem?_toArray, List.getElem?_cons_zero, List.getElem?_cons_succ]
        go_wp2_with fail
        refine ⟨OnlyS.refl _ _, hK1 _ _ ?_⟩
        clear hK1 K1
        refine wpPlan_one fun K1 hK1 => ?_
        simp only [pickOps, List.map_cons, List.map_nil, Option.getD_some, List.getElem?_toArray, List.getElem?_cons_zero, List.getElem?_cons_succ]
        go_wp2_with fail
        refine ⟨OnlyS.refl _ _, hK1 _ _ ?_⟩
        clear hK1 K1
        refine wpPlan_quiet fun K3 hK3 => ?_
        simp only [pickOps, List.map_cons, List.map_nil, Option.getD_some, List.getElem?_toArray, List.getElem?_cons_zero, List.getElem?_cons_succ]
        repeat go_big_quiet_step (fail)
        refine wpQuiet_nil (hK3 _ ?_)
        clear hK3 K3
        refine wpPlan_quiet fun K3 hK3 => ?_
        simp only [pickOps, List.map_cons, List.map_nil, Option.getD_some, List.getElem?_toArray, List.getElem?_cons_zero, List.getElem?_cons_succ]
        repeat go_big_quiet_step (fail)
        refine wpQuiet_nil (hK3 _ ?_)
        clear hK3 K3
        have fz := HB4.out.free 2
        have z2 := HB4.out.cell 2 _ rfl
        refine wpPlan_one fun K1 hK1 => ?_
        simp only [pickOps, List.map_cons, List.map_nil, Option.getD_some, List.getElem?_toArray, List.getElem?_cons_zero, List.getElem?_cons_succ]
        go_wp2_with fail
        refine ⟨OnlyS.set0 c 2 _ _, hK1 _ _ ?_⟩
        clear hK1 K1
        refine wpPlan_done ?_
        go_wp2_with fail
        go_ret2
        exact HFI.out
      · simp only [pickOps, List.map_cons, List.map_nil, Option.getD_some, List.getElem?_toArray, List.getElem?_cons_zero, List.getElem?_cons_succ]
        go_wp2_with fail
        refine ⟨OnlyS.refl _ _, hK1 _ _ ?_⟩
        clear hK1 K1
        refine wpPlan_quiet fun K3 hK3 => ?_
        simp only [pickOps, List.map_cons, List.map_nil, Option.getD_some, List.getElem?_toArray, List.getElem?_cons_zero, List.getElem?_cons_succ]
        repeat go_big_quiet_step (fail)
        refine wpQuiet_nil (hK3 _ ?_)
        clear hK3 K3
        refine wpPlan_one fun K1 hK1 => ?_
        simp only [pickOps, List.map_cons, List.map_nil, Option.getD_some, List.getElem?_toArray, List.getElem?_cons_zero, List.getElem?_cons_succ]
        go_wp2_with fail
        refine ⟨OnlyS.refl _ _, hK1 _ _ ?_⟩
        clear hK1 K1
        refine wpPlan_quiet fun K3 hK3 => ?_
        simp only [pickOps, List.map_cons, List.map_nil, Option.getD_some, List.getElem?_toArray, List.getElem?_cons_zero, List.getElem?_cons_succ]
        repeat go_big_quiet_step (fail)
        refine wpQuiet_nil (hK3 _ ?_)
        clear hK3 K3
        have fz := HB4.out.free 2
        have z2 := HB4.out.cell 2 _ rfl
        refine wpPlan_one fun K1 hK1 => ?_
        simp only [pickOps, List.map_cons, List.map_nil, Option.getD_some, List.getElem?_toArray, List.getElem?_cons_zero, List.getElem?_cons_succ]
        go_wp2_with fail
        refine ⟨OnlyS.set0 c 2 _ _, hK1 _ _ ?_⟩
        clear hK1 K1
        refine wpPlan_done ?_
        go_wp2_with fail
        go_ret2
        exact HFI.out
  · have HP1 := Lib.hid hp1
    have HD1 := Lib.hid hd1
    have HC1 := Lib.hid hC1
    have hE : E ≠ 0 := by
      have h1 := HPG.out.jn
      exact (HPG.out.bad (by omega) (by omega)).2
    have q1 : (E != 0) = true := by rw [bne_iff_ne]; exact hE
    have q2 : (E == 0) = false := beq_eq_false_iff_ne.2 hE
    clear hp1 hd1 hC1 hE
    go_wp2_with fail
    go_ret2
    exact ⟨O1, vi1, vr1, HP1.out, HD1.out, .inr ⟨hlt, rfl, is, rest, HC1.out⟩⟩

end Go.Proofs.Ytoagpaphghgkmaa

/-
  A cursor of the program of layer 17: a value is taken.
-/
namespace Go.Proofs.Ytoagpaphghgkmaa
open Go.RowKit Go.BigFrame

set_option maxRecDepth 100000 in
set_option maxHeartbeats 4000000 in
theorem pValue17_any (O : Nat → Prop) (c p pos J left M : Nat) (v : V) (E : Int) (s : St) (ids : List Nat) (B t : List UInt8) (vi vr : Value) (w : World) (h : PSto O w p s) (hok : okS s) (hp : PgT s ids B J M E)
    (hC : CuM w c p (ids.drop ((pos + 55) / 56)) (((padB B ids.length).take (56 * ((pos + 55) / 56))).drop pos) left vi vr) (hox : ∀ b, O b → ¬ ownC c vi vr b)
    (hfew : ∀ i ∈ ids, i ≤ 4096) (hpos : pos ≤ 56 * J) (hat : (padB B ids.length).drop pos = encV v ++ t) (hv : v.fits) (hrv : rightV v = true) (hen : pos + (encV v).length ≤ 56 * ids.length) (hM : pos + (encV v).length ≤ M) :
    Calls Try.prog 72 #[.pointer (some ⟨c, 0, none⟩)] w (Got17 O (ownC c vi vr) w c p s ids B (pos + (encV v).length) J left (.returned (.tuple #[v.val, .int .i64 0])) (.returned (.tuple #[.agg #[.int .u8 0, .int .i64 0, .string ⟨#[]⟩], .int .i64 E]))) := by
  have hel := encV_le v
  have hep := encV_pos v
  have HP := Lib.hid h
  have HC := Lib.hid hC
  have HOX := Lib.hid hox
  have HFILL := Lib.hid (fun (W : World) (hx : Ext w W) => pFill17_any 95 valCut enters_val17 (fun u b W hb hl => pValCut17_any u b W hb hl) O c p pos (pos + (encV v).length) J left M E s ids B vi vr W (h.onlyS (OnlyS.of_ext (X := fun _ => False) hx) (fun _ _ h => h)) hok hp (hC.keep (OnlyS.of_ext (X := fun _ => False) hx) (fun _ h => h.elim)) hox hfew hpos (by omega) hen (by omega) hM (fun m h1 h2 => by
    rw [valCut_enc hv hrv t _ (56 * m - pos) (by rw [padB_rest, hat]), decide_eq_decide, padB_rest_len pos hp.len h2]
    omega))
  have HPG := Lib.hid hp
  have HAT := Lib.hid hat
  have HKV := Lib.hid (fun m => (show takeV (encV v ++ m) = some (v, m) by
    rw [takeV_enc v hv m]
    unfold keepV
    rw [if_pos hrv]))
  clear h hok hp hC hox hat
  go_enter Try.func72, Try.ntmps72
  go_wp2_with fail
  refine (HFILL.out _ (ext_new _ _)).mono ?_
  rintro e w1 ⟨O1, vi1, vr1, hp1, hd1, ⟨hle, rfl, hC1⟩ | ⟨hlt, rfl, is, rest, hC1⟩⟩
  · have HZ1 := Lib.hid (show Blk w1 w.heap.size [.int .u8 0, .int .i64 0, .string ⟨#[]⟩] 59 from (Blk.new w _ _).onlyS hd1.only (fun hb => by
      rcases hb with hb | hb
      · have := HP.out.lt _ hb
        omega
      · have := HC.out.lt hb
        omega))
    have HP1 := Lib.hid hp1
    have HD1 := Lib.hid hd1
    have hmn : (pos + (encV v).length + 55) / 56 ≤ ids.length := by have := HPG.out.jn; omega
    rw [padB_at HPG.out.len HAT.out hmn (by omega)] at hC1
    generalize hR : ((padB B ids.length).take (56 * ((pos + (encV v).length + 55) / 56))).drop (pos + (encV v).length) = R at hC1
    have hRl : R.length ≤ 1000 := by
      rw [← hR, padB_rest_len _ HPG.out.len hmn]
      omega
    have HR := Lib.hid hR
    clear hR
    obtain ⟨ra, rc, rfl, hr1, hr2⟩ := hC1.rest.shape
    rw [List.length_map, List.length_append] at hr1 hC1
    unfold maxLen at hr2
    rw [List.length_map, List.length_append] at HD1
    have HC1 := Lib.hid hC1
    have HTAKE := Lib.hid (TakeO_any _ (encV v ++ R) w1 hC1.rest.rd (by rw [List.length_append]; omega))
    have c2 := hC1.blk.cell 2 _ rfl
    have hsz1 : w.heap.size + 1 ≤ w1.heap.size := by
      have := HZ1.out.lt
      omega
    have HFIN := Lib.hid (fun (w2 w6 : World) (r : Value) (hx : Ext w1 w2) (hr : w2.ownsRow w1.heap.size 5 1 r R.length (R.map bv)) (ho : OnlyS (fun b => b = c ∨ b = w.heap.size) w2 w6) (hb : Blk w6 c [.pointer (some ⟨p, 0, none⟩), vi1, r, .int .i64 left, .int .i64 0] 102) => (show Got17 O (ownC c vi vr) w c p s ids B (pos + (encV v).length) J left (.returned (.tuple #[v.val, .int .i64 0])) (.returned (.tuple #[.agg #[.int .u8 0, .int .i64 0, .string ⟨#[]⟩], .int .i64 E])) (.returned (.tuple #[v.val, .int .i64 0])) w6 by
      have hO1 : ∀ b, O1 b → b ≠ c ∧ b ≠ w.heap.size := fun b hb => ⟨fun e => HD1.out.apart b hb (.inl e), fun e => by
        rcases HD1.out.os b hb with h1 | h1
        · have := HP.out.lt b h1
          omega
        · simp only [World.alloc, Array.size_push] at h1
          omega⟩
      have hV1 : ∀ k, vi1.ownBlock = some k → k ≠ w.heap.size := fun k hk e => by
        rcases HD1.out.xs k (.inr (.inl hk)) with h1 | h1
        · have := HC.out.lt h1
          omega
        · simp only [World.alloc, Array.size_push] at h1
          omega
      have hC2 := HC1.out.keep (OnlyS.of_ext (X := fun _ => False) hx) (fun _ h => h.elim)
      have hrb : ∀ k, r.ownBlock = some k → w1.heap.size ≤ k ∧ k < w2.heap.size := fun k hk => hr.lt k hk
      have hn : ∀ b, w.heap.size + 1 ≤ b → w.heap.size ≤ b := fun b h => by omega
      have hs1 : ∀ b, (w.alloc (.cells #[.int .u8 0, .int .i64 0, .string ⟨#[]⟩] 59)).heap.size ≤ b → w.heap.size ≤ b := fun b h => by
        simp only [World.alloc, Array.size_push] at h
        omega
      have hd : Duo O (ownC c vi vr) w O1 (ownC c vi1 r) w6 := by
        refine ⟨OnlyS.trans (OnlyS.trans (OnlyS.of_ext (ext_new w (.cells #[.int .u8 0, .int .i64 0, .string ⟨#[]⟩] 59))) HD1.out.only fun _ _ h => h) (OnlyS.trans (OnlyS.of_ext hx) ho fun _ _ h => h) fun i hi h => h.elim (fun e => .inr (.inl e)) (fun e => absurd e (by omega)), fun b hb => ?_, fun b hb => ?_, fun b hb hw => ?_⟩
        · exact (HD1.out.os b hb).imp id (hs1 b)
        · rcases hb with hb | hb | hb
          · exact .inl (.inl hb)
          · exact (HD1.out.xs b (.inr (.inl hb))).imp id (hs1 b)
          · exact .inr (by have := (hrb b hb).1; omega)
        · rcases hw with hw | hw | hw
          · exact HD1.out.apart b hb (.inl hw)
          · exact HD1.out.apart b hb (.inr (.inl hw))
          · have := HP1.out.lt b hb
            have := (hrb b hw).1
            omega
      refine ⟨O1, vi1, r, (HP1.out.onlyS (OnlyS.of_ext (X := fun _ => False) hx) (fun _ _ h => h)).onlyS ho (fun b hb e => e.elim (hO1 b hb).1 (hO1 b hb).2), hd, .inl ⟨hle, rfl, ⟨hb, hC2.ids.beside ho (fun k e => .inr fun e2 => e.elim (fun e => (hC2.ine k e2).1 e) (fun e => hV1 k e2 e)), fun k hk => ⟨(hC2.ine k hk).1, Nat.lt_of_lt_of_le (hC2.ine k hk).2.1 ho.size, fun e => ?_⟩, ?_, fun k hk => ⟨?_, Nat.lt_of_lt_of_le (hrb k hk).2 ho.size⟩, hC2.few⟩⟩⟩
      · have := (HC1.out.ine k hk).2.1
        have := (hrb k e).1
        omega
      · rw [HR.out]
        have hcl := HC1.out.blk.lt
        refine (OwnT.of_owns (owns_base hr (by omega : c + 1 ≤ w1.heap.size))).beside ho (fun k e => ?_)
        rcases e with e | e
        · exact .inl (by omega)
        · exact .inr fun e2 => by have := (hrb k e2).1; omega
      · have hcl := HC1.out.blk.lt
        have := (hrb k hk).1
        omega))
    clear hp1 hd1 hC1
    go_wp2_with fail
    refine HTAKE.out.mono ?_
    rintro e w2 ⟨⟨v2, m2, r2, htk, rfl, hr2⟩ | ⟨htk, -⟩, hx2⟩
    · rw [HKV.out R] at htk
      simp only [Option.some.injEq, Prod.mk.injEq] at htk
      obtain ⟨rfl, rfl⟩ := htk
      have HR2 := Lib.hid hr2
      have HX2 := Lib.hid hx2
      have HZ2 := Lib.hid (HZ1.out.ext hx2)
      have HB2 := Lib.hid (HC1.out.blk.ext hx2)
      obtain ⟨qa, qc, rfl, -, -⟩ := own_shapeP hr2
      clear hr2 hx2 c2
      obtain ⟨vk, vn, vs⟩ := v
      unfold V.val
      simp only
      have HB3 := Lib.hid ((HB2.out.ext (ext_new w2 (.cells #[.int .u8 vk, .int .i64 vn, .string ⟨vs.toArray⟩] 59))))
      have hc0 := HB2.out.lt
      have hc00 := HC.out.blk.lt
      have hszs : (w2.setCell ⟨c, 2, none⟩ (.slice qa R.length qc)).heap.size = w2.heap.size := by simp [World.setCell]
      have HZ4 := Lib.hid ((HZ2.out.beside (b' := c) (by omega) 2 (.slice qa R.length qc)).ext (ext_new _ (.cells #[.int .u8 vk, .int .i64 vn, .string ⟨vs.toArray⟩] 59)))
      have HB4 := Lib.hid ((HB2.out.set 2 (.slice qa R.length qc)).ext (ext_new _ (.cells #[.int .u8 vk, .int .i64 vn, .string ⟨vs.toArray⟩] 59)))
      have hn4 := Blk.new (w2.setCell ⟨c, 2, none⟩ (.slice qa R.length qc)) [.int .u8 vk, .int .i64 vn, .string ⟨vs.toArray⟩] 59
      rw [hszs] at hn4
      have HN4 := Lib.hid hn4
      clear hn4 hszs
      have z0 := HZ4.out.cell 0 _ rfl
      have z1 := HZ4.out.cell 1 _ rfl
      have z2 := HZ4.out.cell 2 _ rfl
      have zf := HZ4.out.free
      have y2 := HB3.out.cell 2 _ rfl
      have yf := HB3.out.free
      have n0 := HN4.out.cell 0 _ rfl
      have n1 := HN4.out.cell 1 _ rfl
      have n2 := HN4.out.cell 2 _ rfl
      go_wp2_with fail
      have HZ6 := ((HZ4.out.set 0 (.int .u8 vk)).set 1 (.int .i64 vn)).set 2 (.string ⟨vs.toArray⟩)
      have e0 := HZ6.cell 0 _ rfl
      have e1 := HZ6.cell 1 _ rfl
      have e2 := HZ6.cell 2 _ rfl
      refine bodyPost_ret (v := .tuple #[.agg #[.int .u8 vk, .int .i64 vn, .string ⟨vs.toArray⟩], .int .i64 0]) (by simp [results, Try.results72, go_sem, e0, e1, e2]) rfl ?_
      have hz6 : ∀ b : Nat, b = w.heap.size → b ≠ c := fun b e => by omega
      have hoz : OnlyS (fun b => b = c ∨ b = w.heap.size) w2 (((((w2.setCell ⟨c, 2, none⟩ (.slice qa R.length qc)).alloc (.cells #[.int .u8 vk, .int .i64 vn, .string ⟨vs.toArray⟩] 59)).setCell ⟨w.heap.size, 0, none⟩ (.int .u8 vk)).setCell ⟨w.heap.size, 1, none⟩ (.int .i64 vn)).setCell ⟨w.heap.size, 2, none⟩ (.string ⟨vs.toArray⟩)) :=
        (((((OnlyS.set0 c 2 w2 (.slice qa R.length qc)).mono fun _ _ h => .inl h).step (OnlyS.of_ext (ext_new _ _))).step ((OnlyS.set0 w.heap.size 0 _ (.int .u8 vk)).mono fun _ _ h => .inr h)).step ((OnlyS.set0 w.heap.size 1 _ (.int .i64 vn)).mono fun _ _ h => .inr h)).step ((OnlyS.set0 w.heap.size 2 _ (.string ⟨vs.toArray⟩)).mono fun _ _ h => .inr h)
      exact HFIN.out w2 _ (.slice qa R.length qc) HX2.out HR2.out hoz (((HB4.out.beside (b' := w.heap.size) (by omega) 0 _).beside (b' := w.heap.size) (by omega) 1 _).beside (b' := w.heap.size) (by omega) 2 _)
    · rw [HKV.out R] at htk
      cases htk
  · have HZ1 := Lib.hid (show Blk w1 w.heap.size [.int .u8 0, .int .i64 0, .string ⟨#[]⟩] 59 from (Blk.new w _ _).onlyS hd1.only (fun hb => by
      rcases hb with hb | hb
      · have := HP.out.lt _ hb
        omega
      · have := HC.out.lt hb
        omega))
    have HP1 := Lib.hid hp1
    have HD1 := Lib.hid hd1
    have HC1 := Lib.hid hC1
    have hE : E ≠ 0 := by
      have h1 := HPG.out.jn
      exact (HPG.out.bad (by omega) (by omega)).2
    have q1 : (E != 0) = true := by rw [bne_iff_ne]; exact hE
    have q2 : (E == 0) = false := beq_eq_false_iff_ne.2 hE
    have z0 := HZ1.out.cell 0 _ rfl
    have z1 := HZ1.out.cell 1 _ rfl
    have z2 := HZ1.out.cell 2 _ rfl
    have zf := HZ1.out.free
    clear hp1 hd1 hC1 hE
    go_wp2_with fail
    have HZ6 := ((HZ1.out.set 0 (.int .u8 0)).set 1 (.int .i64 0)).set 2 (.string ⟨#[]⟩)
    have e0 := HZ6.cell 0 _ rfl
    have e1 := HZ6.cell 1 _ rfl
    have e2 := HZ6.cell 2 _ rfl
    refine bodyPost_ret (v := .tuple #[.agg #[.int .u8 0, .int .i64 0, .string ⟨#[]⟩], .int .i64 E]) (by simp [results, Try.results72, go_sem, e0, e1, e2]) rfl ?_
    have hoz : OnlyS (fun b => b = w.heap.size) w1 (((w1.setCell ⟨w.heap.size, 0, none⟩ (.int .u8 0)).setCell ⟨w.heap.size, 1, none⟩ (.int .i64 0)).setCell ⟨w.heap.size, 2, none⟩ (.string ⟨#[]⟩)) := ((OnlyS.set0 w.heap.size 0 _ (.int .u8 0)).step (OnlyS.set0 w.heap.size 1 _ (.int .i64 0))).step (OnlyS.set0 w.heap.size 2 _ (.string ⟨#[]⟩))
    have hs1 : ∀ b, (w.alloc (.cells #[.int .u8 0, .int .i64 0, .string ⟨#[]⟩] 59)).heap.size ≤ b → w.heap.size + 1 ≤ b := fun b h => by
      simp only [World.alloc, Array.size_push] at h
      omega
    have hO1 : ∀ b, O1 b → b ≠ w.heap.size := fun b hb e => by
      rcases HD1.out.os b hb with h1 | h1
      · have := HP.out.lt b h1
        omega
      · have := hs1 b h1
        omega
    have hX1 : ∀ b, ownC c vi1 vr1 b → b ≠ w.heap.size := fun b hb e => by
      rcases HD1.out.xs b hb with h1 | h1
      · have := HC.out.lt h1
        omega
      · have := hs1 b h1
        omega
    refine ⟨O1, vi1, vr1, HP1.out.onlyS hoz hO1, ⟨OnlyS.trans (OnlyS.trans (OnlyS.of_ext (ext_new w (.cells #[.int .u8 0, .int .i64 0, .string ⟨#[]⟩] 59))) HD1.out.only fun _ _ h => h) hoz fun i hi h => absurd h (by omega), fun b hb => (HD1.out.os b hb).imp id fun h => Nat.le_of_succ_le (hs1 b h), fun b hb => (HD1.out.xs b hb).imp id fun h => Nat.le_of_succ_le (hs1 b h), HD1.out.apart⟩, .inr ⟨hlt, rfl, is, rest, HC1.out.keep hoz fun b e hb => hX1 b hb e⟩⟩

end Go.Proofs.Ytoagpaphghgkmaa

/-
  A cursor of the program of layer 17: a row is taken.
-/
namespace Go.Proofs.Ytoagpaphghgkmaa
open Go.RowKit Go.BigFrame

theorem owns_onlyG {X : Nat → Prop} {base n size : Nat} {e : TypeId} {w w' : World} {v : Value} {xs : List Value} (h : w.ownsRow base e size v n xs) (ho : OnlyS X w w') (hx : ∀ k, v.ownBlock = some k → ¬ X k) : w'.ownsRow base e size v n xs := by
  obtain ⟨h1, h2⟩ := h
  refine ⟨h1, ?_⟩
  rcases h2 with h2 | ⟨g, cap, cur, rfl, h3, h4, h5⟩
  · exact .inl h2
  · exact .inr ⟨g, cap, cur, rfl, h3, by rw [ho.block g (Array.getElem?_eq_some_iff.1 h4).1 (hx g rfl)]; exact h4, h5⟩
theorem own_shapeG {base : Nat} {e : TypeId} {size : Nat} {w : World} {v : Value} {n : Nat} {xs : List Value} (h : w.ownsRow base e size v n xs) : ∃ a cap, v = .slice a n cap ∧ n ≤ cap ∧ cap ≤ maxLen := by
  rcases h.2 with ⟨rfl, rfl⟩ | ⟨g, cap, cur, rfl, h2, h3, h4, h5, _⟩
  · exact ⟨none, 0, rfl, Nat.le_refl _, by simp [maxLen]⟩
  · exact ⟨_, cap, rfl, h4, h5⟩
/-- What a call leaves that takes a row that ends at endp. -/
def GotRow (O X : Nat → Prop) (w : World) (c p : Nat) (s : St) (ids : List Nat) (B : List UInt8) (r : List V) (endp J left : Nat) (E : Int) (e : Ending) (w' : World) : Prop :=
  ∃ O' vi vr, PSto O' w' p s ∧ Duo O X w O' (ownC c vi vr) w' ∧
    ((endp ≤ 56 * J ∧ ∃ u, e = .returned (.tuple #[u, .int .i64 0]) ∧ CuM w' c p (ids.drop ((endp + 55) / 56)) (((padB B ids.length).take (56 * ((endp + 55) / 56))).drop endp) left vi vr ∧ w'.ownsRow w.heap.size 59 3 u r.length (r.flatMap V.cells) ∧ ∀ b, u.ownBlock = some b → ¬ O' b ∧ ¬ ownC c vi vr b) ∨
     (56 * J < endp ∧ e = .returned (.tuple #[.slice none 0 0, .int .i64 E]) ∧ ∃ is rest, CuM w' c p is rest left vi vr))

theorem row_at {B : List UInt8} {pos : Nat} {r : List V} {t : List UInt8} (h : B.drop pos = r.flatMap encV ++ t) (j : Nat) (hj : j < r.length) : B.drop (pos + ((r.take j).flatMap encV).length) = encV r[j] ++ ((r.drop (j + 1)).flatMap encV ++ t) := by
  have e : r.flatMap encV = (r.take j).flatMap encV ++ (encV r[j] ++ (r.drop (j + 1)).flatMap encV) := by
    conv => lhs; rw [← List.take_append_drop j r, List.drop_eq_getElem_cons hj]
    rw [List.flatMap_append, List.flatMap_cons]
  rw [← List.drop_drop, h, e, List.append_assoc, List.drop_left, List.append_assoc]
theorem vals_take_le (r : List V) (j : Nat) : ((r.take j).flatMap encV).length ≤ (r.flatMap encV).length := by
  conv => rhs; rw [← List.take_append_drop j r]
  rw [List.flatMap_append, List.length_append]
  omega
theorem vals_take_succ (r : List V) (j : Nat) (hj : j < r.length) : ((r.take (j + 1)).flatMap encV).length = ((r.take j).flatMap encV).length + (encV r[j]).length := by
  rw [List.take_succ_eq_append_getElem hj, List.flatMap_append, List.length_append]
  simp

set_option maxRecDepth 100000 in
set_option maxHeartbeats 4000000 in
theorem pRow17_any (O : Nat → Prop) (c p pos J left M : Nat) (r : List V) (E : Int) (s : St) (ids : List Nat) (B t : List UInt8) (vi vr : Value) (w : World) (h : PSto O w p s) (hok : okS s) (hp : PgT s ids B J M E)
    (hC : CuM w c p (ids.drop ((pos + 55) / 56)) (((padB B ids.length).take (56 * ((pos + 55) / 56))).drop pos) left vi vr) (hox : ∀ b, O b → ¬ ownC c vi vr b)
    (hfew : ∀ i ∈ ids, i ≤ 4096) (hpos : pos ≤ 56 * J) (hat : (padB B ids.length).drop pos = rowB r ++ t) (hv : ∀ v ∈ r, v.fits ∧ rightV v = true) (hrl : r.length ≤ 1000) (hen : pos + (rowB r).length ≤ 56 * ids.length) (hM : pos + (rowB r).length ≤ M) :
    Calls Try.prog 53 #[.pointer (some ⟨c, 0, none⟩)] w (GotRow O (ownC c vi vr) w c p s ids B r (pos + (rowB r).length) J left E) := by
  have hrb : (rowB r).length = (enc r.length).length + (r.flatMap encV).length := by unfold rowB; rw [List.length_append]
  have hat1 : (padB B ids.length).drop pos = enc r.length ++ (r.flatMap encV ++ t) := by rw [hat]; unfold rowB; rw [List.append_assoc]
  have HAT := Lib.hid (show (padB B ids.length).drop (pos + (enc r.length).length) = r.flatMap encV ++ t by rw [← List.drop_drop, hat1, List.drop_left])
  have HNUM := Lib.hid (pNumber17_any O c p pos J left M r.length E s ids B _ vi vr w h hok hp hC hox hfew hpos hat1 (by omega) (by omega) (by omega))
  have HPG := Lib.hid hp
  have HOK := Lib.hid hok
  have HFEW := Lib.hid hfew
  have HV := Lib.hid hv
  have HRB := Lib.hid hrb
  have HEN := Lib.hid hen
  obtain ⟨i3, hi3, hy0, hy1, hy2⟩ := info_parts Try.info_val
  obtain ⟨N, hN⟩ : ∃ N, r.length = N := ⟨_, rfl⟩
  have HN := Lib.hid hN
  rw [hN] at HNUM HAT hrl
  obtain ⟨EL, hEL⟩ : ∃ EL, (enc N).length = EL := ⟨_, rfl⟩
  have HEL := Lib.hid (show (rowB r).length = EL + (r.flatMap encV).length by rw [hrb, hN, hEL])
  rw [hEL] at HNUM HAT
  clear h hok hp hC hox hfew hat hat1 hv hrb hen hN hEL
  go_enter Try.func53, Try.ntmps53
  go_wp2_with fail
  refine HNUM.out.mono ?_
  rintro e w1 ⟨O1, vi1, vr1, hp1, hd1, ⟨hle, rfl, hC1⟩ | ⟨hlt, rfl, is, rest, hC1⟩⟩
  · have HP1 := Lib.hid hp1
    have HD1 := Lib.hid hd1
    have HC1 := Lib.hid hC1
    clear hp1 hd1 hC1
    go_wp2_with fail
    go_loopw [6, 19] (fun rv i wr => ∃ (j : Nat) (O' : Nat → Prop) (vi' vr' : Value), j ≤ N ∧ i = .int .u64 j ∧ pos + EL + ((r.take j).flatMap encV).length ≤ 56 * J ∧ PSto O' wr p s ∧
      CuM wr c p (ids.drop ((pos + EL + ((r.take j).flatMap encV).length + 55) / 56)) (((padB B ids.length).take (56 * ((pos + EL + ((r.take j).flatMap encV).length + 55) / 56))).drop (pos + EL + ((r.take j).flatMap encV).length)) left vi' vr' ∧
      Duo O (ownC c vi vr) w O' (ownC c vi' vr') wr ∧ wr.ownsRow w.heap.size 59 3 rv j ((r.take j).flatMap V.cells) ∧ ∀ b, rv.ownBlock = some b → ¬ O' b ∧ ¬ ownC c vi' vr' b) (fun _ i _ => N - (intOf i).toNat)
    case atStart =>
      have hx : Ext w1 (w1.alloc (.cells #[] 59)) := ext_new _ _
      refine ⟨0, O1, vi1, vr1, Nat.zero_le _, rfl, by simpa using hle, HP1.out.onlyS (OnlyS.of_ext (X := fun _ => False) hx) (fun _ _ h => h), ?_, HD1.out.trans (Duo.ext hx HD1.out.apart), ?_, fun b hb => ?_⟩
      · have h1 := HC1.out.keep (OnlyS.of_ext (X := fun _ => False) hx) (fun _ h => h.elim)
        simpa using h1
      · exact World.ownsRow_made w1 #[] 0 HD1.out.only.size (by simp [maxLen]) rfl
      · cases hb
        exact ⟨fun hO => Nat.lt_irrefl _ (HP1.out.lt _ hO), fun hw => Nat.lt_irrefl _ (HC1.out.lt hw)⟩
    case round =>
      obtain ⟨j, O2, vi2, vr2, hj, rfl, hpj, hp2, hC2, hd2, ho2, ha2⟩ := hrel
      have HP2 := Lib.hid hp2
      have HC2 := Lib.hid hC2
      have HD2 := Lib.hid hd2
      have HO2 := Lib.hid ho2
      have HA2 := Lib.hid ha2
      obtain ⟨qa, qc, rfl, -, -⟩ := own_shapeG ho2
      clear hp2 hC2 hd2 ho2 ha2
      by_cases hlt : j < N
      · have hjl : j < r.length := by have := HN.out; omega
        have hle2 := vals_take_le r (j + 1)
        have hsu := vals_take_succ r j hjl
        have hen2 := HEN.out
        have hel2 := HEL.out
        have HVAL := Lib.hid (pValue17_any O2 c p _ J left M r[j] E s ids B _ vi2 vr2 wr HP2.out HOK.out HPG.out HC2.out HD2.out.apart HFEW.out hpj (row_at HAT.out j hjl) (HV.out _ (List.getElem_mem hjl)).1 (HV.out _ (List.getElem_mem hjl)).2 (by omega) (by omega))
        have HTS := Lib.hid (List.take_succ_eq_append_getElem hjl)
        have HSU := Lib.hid hsu
        have HLE := Lib.hid (show pos + EL + ((r.take (j + 1)).flatMap encV).length ≤ pos + (rowB r).length by omega)
        generalize hvv : r[j] = v at HVAL HTS HSU
        have d1 : decide ((j : Int) < (N : Int)) = true := decide_eq_true (by omega)
        obtain ⟨vk, vn, vs⟩ := v
        unfold V.val at HVAL
        simp only at HVAL
        clear hle2 hsu hen2 hel2 hvv
        go_wp2_with fail
        refine HVAL.out.mono ?_
        rintro e w3 ⟨O3, vi3, vr3, hp3, hd3, ⟨hle3, rfl, hC3⟩ | ⟨hlt3, rfl, is, rest, hC3⟩⟩
        · have HP3 := Lib.hid hp3
          have HD3 := Lib.hid (HD2.out.trans hd3)
          have HC3 := Lib.hid hC3
          have HO3 := Lib.hid (owns_onlyG HO2.out hd3.only (fun k hk hX => hX.elim (HA2.out k hk).1 (HA2.out k hk).2))
          have HA3 := Lib.hid (show ∀ b, (Value.slice qa j qc).ownBlock = some b → ¬ O3 b ∧ ¬ ownC c vi3 vr3 b from fun b hb => by
            have hlt := (HO2.out.lt b hb).2
            refine ⟨fun h => ?_, fun h => ?_⟩
            · rcases hd3.os b h with h1 | h1
              · exact (HA2.out b hb).1 h1
              · omega
            · rcases hd3.xs b h with h1 | h1
              · exact (HA2.out b hb).2 h1
              · omega)
          have HO4 := Lib.hid (owns_onlyG HO3.out (OnlyS.of_ext (X := fun _ => False) (ext_new w3 (.cells #[.int .u8 vk, .int .i64 vn, .string ⟨vs.toArray⟩] 59))) (fun _ _ h => h))
          have HN4 := Lib.hid (Blk.new w3 [.int .u8 vk, .int .i64 vn, .string ⟨vs.toArray⟩] 59)
          have HSZ := Lib.hid (show w.heap.size ≤ (w3.alloc (.cells #[.int .u8 vk, .int .i64 vn, .string ⟨vs.toArray⟩] 59)).heap.size from Nat.le_trans HD3.out.only.size (ext_new w3 _).size)
          have n0 := HN4.out.cell 0 _ rfl
          have n1 := HN4.out.cell 1 _ rfl
          have n2 := HN4.out.cell 2 _ rfl
          clear hp3 hd3 hC3 HVAL
          go_wp2_with (at_builtin; go_must (refine wpList_append_one rfl (.tmp 29) (.tmp 31) 54 rfl w.heap.size 59 i3 _ 3 32 Try.underlying54 hi3 hy0 hy1 hy2 rfl (by decide) (by decide) _ _ _ [.int .u8 vk, .int .i64 vn, .string ⟨vs.toArray⟩] rfl HO4.out (by simp; rfl) rfl (by simp [Value.oneCell']) (by omega) HSZ.out ?_); intro v5 w5 h5a h5b h5c h5d; have HO5 := Lib.hid h5a; have HB5 := Lib.hid h5b; have HS5 := Lib.hid h5c; have HG5 := Lib.hid h5d; clear h5a h5b h5c h5d)
          go_roundw
          case rel =>
            have ho35 : OnlyS (fun b => (Value.slice qa j qc).ownBlock = some b) w3 w5 := (OnlyS.of_ext (ext_new w3 _)).step HS5.out
            have hsz : w3.heap.size ≤ (w3.alloc (.cells #[.int .u8 vk, .int .i64 vn, .string ⟨vs.toArray⟩] 59)).heap.size := (ext_new w3 _).size
            have hsu := HSU.out
            have hpe : pos + EL + ((r.take (j + 1)).flatMap encV).length = pos + EL + ((r.take j).flatMap encV).length + (encV ⟨vk, vn, vs⟩).length := by omega
            refine ⟨j + 1, O3, vi3, vr3, by omega, by go_num, by omega, HP3.out.onlyS ho35 (fun b hb e => (HA3.out b e).1 hb), ?_, ⟨OnlyS.trans HD3.out.only ho35 fun i hi e => absurd (HO2.out.lt i e).1 (by omega), HD3.out.os, HD3.out.xs, HD3.out.apart⟩, ?_, fun b hb => ?_⟩
            · rw [hpe]
              exact HC3.out.keep ho35 (fun b e hw => (HA3.out b e).2 hw)
            · rw [HTS.out, List.flatMap_append]
              exact HO5.out
            · rcases HG5.out with h1 | ⟨k, h1, h2⟩
              · exact HA3.out b (h1 ▸ hb)
              · rw [h1] at hb
                cases hb
                refine ⟨fun h => ?_, fun h => ?_⟩
                · have := HP3.out.lt b h
                  omega
                · have := HC3.out.lt h
                  omega
          case measure => simp [intOf]; omega
        · have HP3 := Lib.hid hp3
          have HD3 := Lib.hid (HD2.out.trans hd3)
          have HC3 := Lib.hid hC3
          have hE : E ≠ 0 := by
            have h1 := HPG.out.jn
            have h2 := HEN.out
            have h3 := HLE.out
            have h4 := HSU.out
            exact (HPG.out.bad (by omega) (by omega)).2
          have q1 : (E != 0) = true := by rw [bne_iff_ne]; exact hE
          have q2 : (E == 0) = false := beq_eq_false_iff_ne.2 hE
          clear hp3 hd3 hC3 hE HVAL
          go_wp2_with fail
          go_ret2
          have h3 := HLE.out
          have h4 := HSU.out
          have hx : Ext w3 (w3.alloc (.cells #[.int .u8 0, .int .i64 0, .string ⟨#[]⟩] 59)) := ext_new _ _
          exact ⟨O3, vi3, vr3, HP3.out.onlyS (OnlyS.of_ext (X := fun _ => False) hx) (fun _ _ h => h), HD3.out.trans (Duo.ext hx HD3.out.apart), .inr ⟨by omega, rfl, is, rest, HC3.out.keep (OnlyS.of_ext (X := fun _ => False) hx) (fun _ h => h.elim)⟩⟩
      · have d1 : decide ((j : Int) < (N : Int)) = false := decide_eq_false (by omega)
        have hjN : j = N := by omega
        have hALL : r.take j = r := List.take_of_length_le (by have := HN.out; omega)
        go_wp2_with fail
        go_ret2
        have hel2 := HEL.out
        rw [hALL] at hpj
        refine ⟨O2, vi2, vr2, HP2.out, HD2.out, .inl ⟨by omega, _, rfl, ?_, ?_, HA2.out⟩⟩
        · have h1 := HC2.out
          rw [hALL, show pos + EL + (r.flatMap encV).length = pos + (rowB r).length by omega] at h1
          exact h1
        · have h1 := HO2.out
          rw [hALL, hjN, ← HN.out] at h1
          rw [hjN, ← HN.out]
          exact h1
  · have HP1 := Lib.hid hp1
    have HD1 := Lib.hid hd1
    have HC1 := Lib.hid hC1
    have hE : E ≠ 0 := by
      have h1 := HPG.out.jn
      have h2 := HEN.out
      have h3 := HEL.out
      exact (HPG.out.bad (by omega) (by omega)).2
    have q1 : (E != 0) = true := by rw [bne_iff_ne]; exact hE
    have q2 : (E == 0) = false := beq_eq_false_iff_ne.2 hE
    clear hp1 hd1 hC1 hE
    go_wp2_with fail
    go_ret2
    refine ⟨O1, vi1, vr1, HP1.out, HD1.out, .inr ⟨?_, rfl, is, rest, HC1.out⟩⟩
    have h3 := HEL.out
    omega

end Go.Proofs.Ytoagpaphghgkmaa
