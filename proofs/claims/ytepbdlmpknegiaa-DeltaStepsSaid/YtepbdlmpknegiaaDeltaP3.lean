/-
  The program's own steps: Take.
-/
import Derived.Test.YtepbdlmpknegiaaReadTk
import Derived.Test.YtepbdlmpknegiaaDeltaTake
import Derived.Test.YtepbdlmpknegiaaDeltaP2
namespace Go.Proofs.Ytepbdlmpknegiaa
open Go.RowKit Go.BigFrame

/-- Where the reading stands: what was read is what the bytes begin with. -/
def ReadInvD (b : List UInt8) (n : Nat) (rest : List UInt8) (bad : Bool) (x : List Int) : Prop := bad = false → b = enc (x.length + n) ++ (encI (stepsD 0 x) ++ rest) ∧ okD 0 x
theorem readD_start (b : List UInt8) : ReadInvD b (tk b).1 (tk b).2.1 (tk b).2.2 [] := fun h => by
  obtain ⟨h1, h2⟩ := tk_sound h
  exact ⟨by rw [List.length_nil, Nat.zero_add]; exact h1, trivial⟩
theorem tk_still {rest : List UInt8} {bad : Bool} (hbl : bad = true → rest = []) (h : (tk rest).2.2 = false) : bad = false := by
  cases bad with
  | false => rfl
  | true =>
    rw [hbl rfl] at h
    exact absurd h (by rw [tk_no (show (front []).2 = 0 from rfl)]; decide)
theorem readD_step {b : List UInt8} {n : Nat} {rest : List UInt8} {bad : Bool} {x : List Int} (hbl : bad = true → rest = []) (h : ReadInvD b (n + 1) rest bad x) (hok : okStep (lastD 0 x) (lastD 0 x + zag (tk rest).1)) :
    ReadInvD b n (tk rest).2.1 (tk rest).2.2 (x ++ [lastD 0 x + zag (tk rest).1]) := fun h2 => by
  obtain ⟨e1, e2⟩ := h (tk_still hbl h2)
  obtain ⟨e3, e4⟩ := tk_sound h2
  refine ⟨?_, (okD_append 0 x [_]).2 ⟨e2, hok, trivial⟩⟩
  have e5 : encI (stepsD 0 (x ++ [lastD 0 x + zag (tk rest).1])) = encI (stepsD 0 x) ++ enc (tk rest).1 := by
    rw [stepsD_append, encI_append]
    show _ ++ encI [lastD 0 x + zag (tk rest).1 - lastD 0 x] = _
    rw [encI_one, show lastD 0 x + zag (tk rest).1 - lastD 0 x = zag (tk rest).1 by omega, zig_zag e4]
  rw [List.length_append, List.length_singleton, Nat.add_assoc, Nat.add_comm 1 n, e5, List.append_assoc, ← e3]
  exact e1
theorem readD_put {b : List UInt8} {rest : List UInt8} {x : List Int} (h : ReadInvD b 0 rest false x) (hr : rest.length = 0) (hf : fitsI x) (hx : x.length ≤ 4096) : IsPutD b x := by
  obtain ⟨e, e2⟩ := h rfl
  rw [List.length_eq_zero_iff.1 hr, List.append_nil, Nat.add_zero] at e
  refine ⟨hf, ?_⟩
  rw [putS11_ok (by omega) e2]
  unfold putD
  rw [e]
/-- A step that leaves the ints: no numbers have these bytes. -/
theorem takeD_far {b : List UInt8} {n : Nat} {rest : List UInt8} {bad : Bool} {x : List Int} (h : TakeInvD b (n + 1) rest bad x) (hn : ¬ (-9223372036854775808 ≤ lastD 0 x + zag (tk rest).1 ∧ lastD 0 x + zag (tk rest).1 ≤ 9223372036854775807)) : ¬ ∃ l, IsPutD b l := by
  rintro ⟨l, hl⟩
  obtain ⟨y, q, h1, h2, h3, h4, h5⟩ := takeD_next h hl
  apply hn
  rw [h3]
  simp only
  rw [h4]
  omega
theorem okStep_sum {a f : Int} (hf : -9223372036854775808 ≤ f ∧ f ≤ 9223372036854775807) : okStep a (a + f) := by unfold okStep; omega
theorem okStep_far {a f : Int} (ha : -9223372036854775808 ≤ a ∧ a ≤ 9223372036854775807) (hf : -9223372036854775808 ≤ f ∧ f ≤ 9223372036854775807) (hn : ¬ (-9223372036854775808 ≤ a + f ∧ a + f ≤ 9223372036854775807)) : ¬ okStep a (wrap64 (a + f)) := by unfold okStep wrap64; omega

set_option maxRecDepth 100000 in
set_option maxHeartbeats 4000000 in
theorem pTake11_any (u : Value) (b : List UInt8) (w : World) (hu : Rd w u b) (hb : b.length ≤ 8000000) :
    Calls Try.prog 17 #[u] w fun e w' => AnsI w (takeS11 b) e w' := by
  obtain ⟨i2, hi2, hx0, hx1, hx2⟩ := info_parts Try.info_int8
  have HU := Lib.hid hu
  have HB := Lib.hid hb
  clear hu
  go_enter Try.func17, Try.ntmps17
  go_wp2_with fail
  refine (New_anyP u b w HU.out (by have := HB.out; omega)).mono ?_
  rintro e w1 ⟨g, rfl, hg0, hg1, hr1, hx1⟩
  have HR1 := Lib.hid hr1
  have HX1 := Lib.hid (show Ext w w1 from hx1)
  have HG := Lib.hid (show w.heap.size ≤ g ∧ g < w1.heap.size from ⟨hg0, hg1⟩)
  clear hr1 hx1 hg0 hg1
  have HBE := Lib.hid (fun (W W' : World) (h : Ext w W) (ho : Only g W W') => (show Ext w W' from Below.trans h (only_belowR ho h.size HG.out.1)))
  have HP := Lib.hid (show ∀ k, (fun k => w.heap.size ≤ k ∧ k < g) k → k < w1.heap.size from fun k hk => by have h2 : k < g := hk.2; have := HG.out.2; omega)
  generalize (fun k => w.heap.size ≤ k ∧ k < g) = P at HR1 HP
  go_wp2_with fail
  refine (RNum_tk P g b false w1 (fun h => by cases h) HR1.out).mono ?_
  rintro e w2 ⟨rfl, hr2, ho2⟩
  have HR2 := Lib.hid hr2
  have HX2 := Lib.hid (HBE.out _ _ HX1.out ho2)
  have HS2 := Lib.hid (show w1.heap.size ≤ w2.heap.size from ho2.size)
  have HI2 := Lib.hid (takeD_start b)
  have HJ2 := Lib.hid (readD_start b)
  have HMANY := Lib.hid (fun h => takeD_no (takeD_many (b := b) h))
  have HB2 := Lib.hid (show (tk b).2.2 = true → (tk b).2.1 = [] from fun h => by rw [tk_bad h])
  have hn64 := tk_lt b
  obtain ⟨n0, r0, bad0, ht⟩ : ∃ n r bad, tk b = (n, r, bad) := ⟨_, _, _, rfl⟩
  rw [ht] at HR2 HI2 HB2 HMANY hn64 HJ2 ⊢
  simp only at HR2 HI2 HB2 HMANY hn64 HJ2 ⊢
  clear hr2 ho2 ht
  by_cases hmany : 4096 < n0
  · have HNO := Lib.hid (HMANY.out hmany)
    go_wp2_with fail
    go_ret2
    exact ⟨_, by rw [HNO.out]; rfl, by rw [HNO.out]; exact owns_nil _ _ _ _, HX2.out⟩
  · go_wp2_with fail
    go_loopw [6, 7, 8, 9, 10, 18] (fun v la _ _ _ iv wr => ∃ (i n : Nat) (rest : List UInt8) (bad : Bool) (x : List Int), iv = .int .u64 i ∧ i + n = n0 ∧ x.length = i ∧ la = .int .i64 (lastD 0 x) ∧ RdO P wr g rest bad ∧ (bad = true → rest = []) ∧ wr.ownsRow w1.heap.size 3 1 v x.length (x.map (Value.int .i64)) ∧ TakeInvD b n rest bad x ∧ ReadInvD b n rest bad x ∧ fitsI x ∧ w1.heap.size ≤ wr.heap.size ∧ Ext w wr) (fun _ _ _ _ _ iv _ => n0 - (intOf iv).toNat)
    case atStart => exact ⟨0, n0, r0, bad0, [], rfl, by omega, rfl, rfl, HR2.out, HB2.out, owns_nil _ _ _ _, HI2.out, HJ2.out, fun s hs => (by cases hs), HS2.out, HX2.out⟩
    case round =>
      obtain ⟨i, n, rest, bad, x, rfl, hn, hxl, rfl, hrr, hbl, hown, hinv, hrin, hxf, hsz, hext⟩ := hrel
      have HRR := Lib.hid hrr
      have HBL := Lib.hid hbl
      have HO := Lib.hid hown
      have HINV := Lib.hid hinv
      have HRIN := Lib.hid hrin
      have HXF := Lib.hid hxf
      have HSZ := Lib.hid hsz
      have HX := Lib.hid hext
      have HXL := Lib.hid hxl
      have HN := Lib.hid hn
      have HOL := Lib.hid hown.lt
      have HLF := Lib.hid (lastD_fits hxf (a := 0) (by decide))
      obtain ⟨sa, sc, rfl, hs1, hs2⟩ := own_shapeP hown
      clear hrr hbl hown hinv hrin hxf hext hxl
      by_cases hgo : i < n0
      · obtain ⟨m, rfl⟩ : ∃ m, n = m + 1 := ⟨n - 1, by omega⟩
        clear hn
        go_wp2_with fail
        refine (RInt_tk P g rest bad wr HBL.out HRR.out).mono ?_
        rintro e w3 ⟨rfl, hr3, ho3⟩
        have HR3 := Lib.hid hr3
        have HX3 := Lib.hid (HBE.out _ _ HX.out ho3)
        have HO3 := Lib.hid (HO.out.kept ho3 (by
          cases hk : (Value.slice sa x.length sc).ownBlock with
          | none => exact .inl rfl
          | some k => exact .inr (fun e => by have h1 := (HOL.out k hk).1; cases e; have h2 := HG.out.2; omega)))
        have HS3 := Lib.hid (show w1.heap.size ≤ w3.heap.size by have := ho3.size; have := HSZ.out; omega)
        have HB3 := Lib.hid (show (tk rest).2.2 = true → (tk rest).2.1 = [] from fun h => by rw [tk_bad h])
        have HZ := Lib.hid (tk_zag_fits (tk_lt rest))
        have HSTEP := Lib.hid (fun z hz => takeD_step HINV.out z hz)
        have HRST := Lib.hid (readD_step HBL.out HRIN.out)
        have HFAR := Lib.hid (fun h => takeD_no (takeD_far HINV.out h))
        have HLS := Lib.hid (fun z => lastD_snoc 0 z x)
        generalize lastD 0 x = la at HSTEP HLF HRST HFAR ⊢
        generalize zag (tk rest).1 = F at HSTEP HZ HRST HFAR ⊢
        generalize (tk rest).2.1 = r2 at HR3 HB3 HSTEP HRST
        generalize (tk rest).2.2 = bad2 at HR3 HB3 HSTEP HRST
        clear hr3 ho3
        by_cases hfit : -9223372036854775808 ≤ la + F ∧ la + F ≤ 9223372036854775807
        · have HST := Lib.hid (HSTEP.out (la + F) (fun _ => rfl))
          have HRT := Lib.hid (HRST.out (okStep_sum HZ.out))
          have HCALL := Lib.hid (pStep11_any la (la + F) w3 HLF.out hfit)
          rw [stepS_ok (okStep_sum HZ.out)] at HCALL
          have HFIT := Lib.hid hfit
          obtain ⟨hf1, hf2⟩ := hfit
          go_wp2_with fail
          refine HCALL.out.mono ?_
          rintro e w4 ⟨rfl, hx4⟩
          have HR4 := Lib.hid (show RdO P w4 g r2 bad2 from RdrP.below HR3.out hx4 (by have := HG.out; have := HS3.out; omega) (fun k hk => by have := HP.out k hk; have := HS3.out; omega))
          have HX4 := Lib.hid (Ext.trans HX3.out hx4)
          have HO4 := Lib.hid (owns_ext HO3.out hx4)
          have HS4 := Lib.hid (show w1.heap.size ≤ w4.heap.size by have := hx4.size; have := HS3.out; omega)
          clear hx4
          go_wp2_with (at_builtin; go_must (refine wpList_append_own _ rfl (.tmp 32) (.tmp 34) 22 rfl w1.heap.size 3 i2 (.int .i64 0) 1 8 Try.underlying22 hi2 hx0 hx1 hx2 rfl (by decide) _ _ _ rfl (HO4.out.alloc _) ⟨w4.heap.size, 0, none⟩ 1 1 [_] rfl rfl (row_new _ _ _) (by simp [Value.oneCell']) (by have := HXL.out; have := HN.out; unfold maxLen; omega) (by have := HXL.out; have := HN.out; omega) (by have := HS4.out; simp; omega) ?_); intro v6 w6 hown6 hgrow6 _; have HO6 := Lib.hid hown6; have HB6 := Lib.hid (((Below.refl w1.heap.size w4).alloc HS4.out _).grown hgrow6 (by simp; have := HS4.out; omega) (fun b hb => (HO4.out.lt b hb).1)); clear hown6 hgrow6)
          go_roundw
          case rel =>
            refine ⟨i + 1, m, r2, bad2, x ++ [la + F], by go_num, by have := HN.out; omega, by have := HXL.out; simp; omega, by rw [HLS.out], RdrP.below HR4.out HB6.out (by have := HG.out; omega) HP.out, HB3.out, ?_, HST.out, HRT.out, fun s hs => ?_, by have := HB6.out.size; have := HS4.out; omega, ?_⟩
            · rw [List.length_append, List.map_append]
              exact HO6.out
            · rcases List.mem_append.1 hs with hs | hs
              · exact HXF.out s hs
              · rw [List.mem_singleton.1 hs]
                exact HFIT.out
            · exact Below.trans HX4.out (HB6.out.mono (show w.heap.size ≤ w1.heap.size by have := HG.out; omega))
          case measure => simp [intOf]; try omega
        · have HNO := Lib.hid (HFAR.out hfit)
          have HCALL := Lib.hid (pStep11_any la (wrap64 (la + F)) w3 HLF.out (wrapD_fits (la + F)))
          rw [stepS_no (okStep_far HLF.out HZ.out hfit)] at HCALL
          clear hfit
          go_wp2_with fail
          refine HCALL.out.mono ?_
          rintro e w4 ⟨rfl, hx4⟩
          have HX4 := Lib.hid (Ext.trans HX3.out hx4)
          clear hx4
          go_wp2_with fail
          go_ret2
          exact ⟨_, by rw [HNO.out]; rfl, by rw [HNO.out]; exact owns_nil _ _ _ _, HX4.out⟩
      · obtain rfl : n = 0 := by omega
        have HEND := Lib.hid (fun l (hl : IsPutD b l) => takeD_end HINV.out (.inl rfl) hl)
        have HQ := Lib.hid (End_tk P g rest bad wr HRR.out)
        clear hn
        by_cases hfin : bad = false ∧ rest.length = 0
        · obtain ⟨rfl, hr0⟩ := hfin
          rw [if_pos ⟨rfl, hr0⟩] at HQ
          have HYES := Lib.hid (takeD_yes (readD_put HRIN.out hr0 HXF.out (by have := HXL.out; have := HN.out; omega)))
          clear hr0
          go_wp2_with fail
          refine HQ.out.mono ?_
          rintro e w5 ⟨rfl, rfl⟩
          go_wp2_with fail
          go_ret2
          exact ⟨_, by rw [HYES.out]; rfl, by rw [HYES.out]; exact owns_base HO.out (by have := HG.out; omega), HX.out⟩
        · have HNO := Lib.hid (show takeS11 b = ([], 6) from takeD_no (fun ⟨l, hl⟩ => hfin ⟨(HEND.out l hl).1, (HEND.out l hl).2.1⟩))
          rw [if_neg hfin] at HQ
          clear hfin
          go_wp2_with fail
          refine HQ.out.mono ?_
          rintro e w5 ⟨rfl, rfl⟩
          go_wp2_with fail
          go_ret2
          exact ⟨_, by rw [HNO.out]; rfl, by rw [HNO.out]; exact owns_nil _ _ _ _, HX.out⟩

end Go.Proofs.Ytepbdlmpknegiaa
