/-
  Texts of this proof, merged: SpillSpoilt, SpiWrites, Fam, SpiHolds.
-/
import Derived.Test.YtoagpaphghgkmaaZ20
import Derived.Test.YtoagpaphghgkmaaZ18
import Derived.Test.YtoagpaphghgkmaaZ2
/-
  The walk of the law SpillSpoilt.
-/
namespace Go.Proofs.Ytoagpaphghgkmaa
open Go.RowKit Go.BigFrame

set_option maxRecDepth 100000 in
set_option maxHeartbeats 8000000 in
theorem spillSpoilt_walk (u : Value) (ls : List (List V)) (wh at' bs : Int) (w : World) (hu : RdRows w u ls) (hf : ∀ r ∈ ls, ∀ v ∈ r, v.fits ∧ v.s.length ≤ maxLen) (hwh : 0 ≤ wh ∧ wh ≤ 255) (hat : 0 ≤ at' ∧ at' ≤ 65535) (hbs : 0 ≤ bs ∧ bs ≤ 4294967295) :
    Calls Try.prog 5 #[u, .int .u8 wh, .int .u16 at', .int .u32 bs] w fun e w' => e = .returned (.bool true) ∧ Below w.heap.size w w' := by
  obtain ⟨R, rfl⟩ := Int.eq_ofNat_of_zero_le hwh.1
  obtain ⟨AT, rfl⟩ := Int.eq_ofNat_of_zero_le hat.1
  obtain ⟨WB, rfl⟩ := Int.eq_ofNat_of_zero_le hbs.1
  have hR : R ≤ 255 := by omega
  have hAT : AT ≤ 65535 := by omega
  have hWB : WB ≤ 4294967295 := by omega
  clear hwh hat hbs
  have HU := Lib.hid hu
  have HF := Lib.hid hf
  clear hu hf
  go_enter Try.func5, Try.ntmps5
  go_wp2_with fail
  refine (shown17_any _).mono ?_
  rintro e w1 ⟨rfl, hx1⟩
  have HX1 := Lib.hid hx1
  clear hx1
  go_wp2_with fail
  refine (pNew_any 600 (by decide)).mono ?_
  rintro e w2 hN
  unfold PNewed at hN
  rcases hN with ⟨_, _, p, O2, rfl, hp2, ho2, hx2⟩ | ⟨hbad, rfl, hx2⟩
  · have HP2 := Lib.hid (show PSto O2 w2 p (List.replicate 600 none) from hp2)
    have HO2 := Lib.hid (show ∀ b, O2 b → w.heap.size ≤ b from fun b hb => Nat.le_trans HX1.out.size (ho2 b hb))
    have HX2 := Lib.hid (Ext.trans HX1.out hx2)
    clear hp2 ho2 hx2
    go_wp2_with fail
    refine (few17_any u ls w w2 HU.out HX2.out HF.out).mono ?_
    rintro e w3 ⟨⟨v3, M, rfl, h3, hfew⟩, x3⟩
    have HX3 := Lib.hid (Ext.trans HX2.out x3)
    have HS3 := Lib.hid x3.size
    have HP3 := Lib.hid (HP2.out.mono x3)
    generalize ls.take M = x0 at h3 hfew
    have H3 := Lib.hid h3
    have HFEW0 := Lib.hid hfew
    clear h3 hfew x3
    go_wp2_with fail
    refine (laid17_any v3 x0 w w3 H3.out HX3.out HFEW0.out).mono ?_
    rintro e w4 ⟨⟨v4, hs, rfl, hown, hh⟩, x4⟩
    have HX4 := Lib.hid (Ext.trans HX3.out x4)
    have HP4 := Lib.hid (HP3.out.mono x4)
    have HMAY := Lib.hid (laidL_may x0)
    have HFEW := Lib.hid HFEW0.out.laid
    generalize laidL x0 = y at hh HMAY HFEW
    have HOWN := Lib.hid hown
    have HNO := Lib.hid (show ∀ W, OnlyS (fun b => O2 b ∨ w4.heap.size ≤ b) w4 W → RdRows W v4 y from fun W hW => by
      have hE : Ext w W := Below.trans (show Below w.heap.size w w4 from HX4.out) (hW.below HX4.out.size (fun b hb => by
        rcases hb with hb | hb
        · exact HO2.out b hb
        · exact Nat.le_trans HX4.out.size hb))
      refine RdRows.of_heads ((RdV.of_owns HOWN.out).onlyS hW (fun _ k hk hx => ?_)) (hh.mono hE)
      have h1 := HOWN.out.lt k hk
      rcases hx with hx | hx
      · have h2 := HP2.out.lt k hx
        have h3 := HS3.out
        omega
      · omega)
    have HNH := Lib.hid (show ∀ W, OnlyS (fun b => O2 b ∨ w4.heap.size ≤ b) w4 W → RdV W v4 hs ∧ HdRows W hs y from fun W hW => by
      have hE : Ext w W := Below.trans (show Below w.heap.size w w4 from HX4.out) (hW.below HX4.out.size (fun b hb => by
        rcases hb with hb | hb
        · exact HO2.out b hb
        · exact Nat.le_trans HX4.out.size hb))
      refine ⟨(RdV.of_owns HOWN.out).onlyS hW (fun _ k hk hx => ?_), hh.mono hE⟩
      have h1 := HOWN.out.lt k hk
      rcases hx with hx | hx
      · have h2 := HP2.out.lt k hx
        have h3 := HS3.out
        omega
      · omega)
    obtain ⟨ids, s, h600⟩ := on600 HFEW.out HMAY.out
    have H600 := Lib.hid h600
    clear hown hh x4 HP3 HOWN h600
    go_wp2_with fail
    refine (pPut17_any O2 p (List.replicate 600 none) v4 y w4 HP4.out ⟨by rw [List.length_replicate]; decide, fun q hq => by have := List.eq_of_mem_replicate hq; cases this⟩ (fun W hW => HNO.out W (hW.mono (fun b _ hb => .inl hb))) HFEW.out.fit).mono ?_
    rintro e w5 ⟨v5, O5, rfl, hp5, ho5, hn5, hv5⟩
    rw [H600.out.put] at hp5 hv5 ⊢
    rcases hv5 with ⟨hv5, -⟩ | ⟨-, f, F, rfl, hf5, hF5⟩
    · exact absurd rfl hv5
    have HP5 := Lib.hid (show PSto O5 w5 p s from hp5)
    have HF5 := Lib.hid (show Fil F w5 f p ids y.length from hf5)
    have HFO := Lib.hid hF5
    have HC5 := Lib.hid (show OnlyS (fun b => O2 b ∨ w4.heap.size ≤ b) w4 w5 from ho5.mono (fun b _ hb => .inl hb))
    have HN5 := Lib.hid (show ∀ b, O5 b → O2 b ∨ w4.heap.size ≤ b from hn5)
    have HR5 := Lib.hid (HNO.out w5 HC5.out)
    have HFD := Lib.hid (show ∀ i, O5 i → ¬ F i from fun i hi hf => (hF5 i hf).2 hi)
    have HX5 := Lib.hid (show Ext w w5 from Below.trans (show Below w.heap.size w w4 from HX4.out) (HC5.out.below HX4.out.size (fun b hb => by
      rcases hb with hb | hb
      · exact HO2.out b hb
      · exact Nat.le_trans HX4.out.size hb)))
    obtain ⟨N, hN⟩ : ∃ N, y.length = N := ⟨_, rfl⟩
    have HN := Lib.hid hN
    obtain ⟨ya, yc, rfl, hyl, hyc⟩ := HR5.out.shape
    rw [hN] at hyl HNO HR5 ⊢
    have HGET := Lib.hid (show ∀ i, (hi : i < y.length) → ∃ g off b1 b2 b3, ya = some ⟨g, off, none⟩ ∧ ∀ W, OnlyS (fun b => O2 b ∨ w4.heap.size ≤ b) w4 W → W.cell? ⟨g, off + i, none⟩ = some (.slice b1 b2 b3) ∧ RdVals W (.slice b1 b2 b3) y[i] from fun i hi => by
      obtain ⟨b1, b2, b3, hb, -⟩ := (HNH.out w4 (OnlyS.refl _ _)).2.get i hi
      obtain ⟨fh, hfh, -, -, -, hat⟩ := (HNO.out w4 (OnlyS.refl _ _)).heads
      obtain ⟨c1, c2, c3, hc, -⟩ := hfh.get i hi
      obtain ⟨g, off, rfl, -⟩ := hat i _ hc
      refine ⟨g, off, b1, b2, b3, rfl, fun W hW => ?_⟩
      obtain ⟨hrv, hhd⟩ := HNH.out W hW
      obtain ⟨ao, cap, e2, -, -, hcell⟩ := RdV.cellsAt hrv
      simp only [Value.slice.injEq] at e2
      obtain ⟨rfl, -, -⟩ := e2
      obtain ⟨x', ex, hx'⟩ := hcell i _ hb
      cases ex
      rw [add_at] at hx'
      obtain ⟨d1, d2, d3, hd, hr2⟩ := hhd.get i hi
      have e3 := hb.symm.trans hd
      simp only [Option.some.injEq] at e3
      rw [← e3] at hr2
      exact ⟨hx', hr2⟩)
    have HS45 := Lib.hid (show w4.heap.size ≤ w5.heap.size from HC5.out.size)
    have hp5lt : ∀ b, O5 b → b < w5.heap.size := fun b hb => HP5.out.lt b hb
    clear hp5 ho5 hn5 hf5 hF5 hN
    go_wp2_with fail
    refine (pPages17_any F f p ids y.length w5 HF5.out).mono ?_
    rintro e w6 ⟨⟨v6, rfl, hr6, hb6⟩, x6⟩
    have HX6 := Lib.hid x6
    have HR6 := Lib.hid hr6
    have HB6 := Lib.hid hb6
    clear hr6 hb6 x6
    have HF6 := Lib.hid (HF5.out.keep (OnlyS.of_ext (X := fun _ => False) HX6.out) (fun _ h => h.elim))
    have HP6 := Lib.hid (HP5.out.mono HX6.out)
    have HC6 := Lib.hid (HC5.out.trans (OnlyS.of_ext (X := fun _ => False) HX6.out) (fun _ _ h => h.elim))
    obtain ⟨n, hn⟩ : ∃ n, ids.length = n := ⟨_, rfl⟩
    have HNI := Lib.hid hn
    have hvl : (ivs ids).length = n := by unfold ivs; rw [List.length_map, hn]
    obtain ⟨va, vc, hve, hvc1, hvc2, hvat⟩ := RdV.cellsAt HR6.out
    rw [hvl] at hve hvc1
    subst hve
    unfold maxLen at hvc2 hyc
    have hn600 : n ≤ 600 := by
      have h1 := room17 HFEW.out HMAY.out
      have h2 := H600.out.count
      have h3 := needS_nat (rowsB y).length
      have h4 := needS_ge (rowsB y).length
      omega
    have HB5w := Lib.hid (show ∀ b, O5 b → w.heap.size ≤ b from fun b hb => by
      rcases HN5.out b hb with h | h
      · exact HO2.out b h
      · exact Nat.le_trans HX4.out.size h)
    clear hn hvl HP5 HF5 HC5 HR5 HP4 HP2 HX1 HX2 HX3 H3 HS3 HFEW0 HNO
    by_cases hn0 : n = 0
    · have q0 : ((n : Int) == 0) = true := by simp [hn0]
      have q0' : (n == 0) = true := by simp [hn0]
      have HFIN := Lib.hid (Below.trans (show Below w.heap.size w w4 from HX4.out) (HC6.out.below HX4.out.size (fun b hb => by
          rcases hb with hb | hb
          · exact HO2.out b hb
          · exact Nat.le_trans HX4.out.size hb)))
      clear hn0 hvat
      go_wp2_with fail
      go_ret
      exact ⟨rfl, HFIN.out⟩
    · have q0 : ((n : Int) == 0) = false := by simp; omega
      have q0' : (n == 0) = false := by simp; omega
      obtain ⟨r, hr, hrn⟩ : ∃ r : Nat, (R : Int) % (n : Int) = r ∧ r < n := ⟨R % n, by rw [Int.natCast_emod], Nat.mod_lt _ (by omega)⟩
      have hr2 : (R : Int).tmod (n : Int) = r := by rw [Int.tmod_eq_emod_of_nonneg (by omega)]; exact hr
      have hri : r < ids.length := by rw [HNI.out]; exact hrn
      obtain ⟨id, hid⟩ : ∃ id, ids[r] = id := ⟨_, rfl⟩
      have HID := Lib.hid hid
      have hiv : (ivs ids)[r]? = some (.int .i64 (id : Nat)) := by
        unfold ivs
        rw [List.getElem?_map, List.getElem?_eq_getElem hri, hid]
        rfl
      obtain ⟨g6, off6, hxe, hxc⟩ := (RdV.plainV HR6.out).2.2.2 r _ hiv
      cases hxe
      have hgo : ¬ O5 g6 := fun h => by
        rcases HB6.out g6 rfl with h1 | h1
        · exact HFD.out g6 h h1
        · have := hp5lt g6 h
          omega
      obtain ⟨A, hA⟩ : ∃ A : Nat, (AT : Int) % 512 = A := ⟨AT % 512, by omega⟩
      have hA2 : (AT : Int).tmod 512 = A := by rw [Int.tmod_eq_emod_of_nonneg (by omega)]; exact hA
      have hA512 : A < 512 := by omega
      have HHO := Lib.hid H600.out.holds
      obtain ⟨c, hc56, hsc⟩ := HHO.out.page id (by rw [← hid]; exact List.getElem_mem hri)
      have HSC := Lib.hid hsc
      have HC56 := Lib.hid hc56
      have hids : id < s.length := (List.getElem?_eq_some_iff.1 hsc).1
      have hs600 := H600.out.len
      have hid600 : id < 600 := by omega
      have HIDL := Lib.hid hids
      have HOK := Lib.hid H600.out.ok
      have hB6b : Below w.heap.size w w6 := Below.trans (show Below w.heap.size w w4 from HX4.out) (HC6.out.below HX4.out.size (fun b hb => by
          rcases hb with hb | hb
          · exact HO2.out b hb
          · exact Nat.le_trans HX4.out.size hb))
      have HI0 := Lib.hid (show BInv w w6 w6 p O5 s id A WB 0 c false from ⟨⟨O5, layP id c, by rw [set_same hsc]; exact HP6.out, by rw [set_same hsc]; exact HOK.out, layP_length id c hc56, fun _ => rfl, fun j _ => by rw [decide_eq_false (by omega)]; simp, fun b hb => .inl hb⟩, by simp, OnlyS.refl _ _, hB6b⟩)
      have HGO := Lib.hid hgo
      have hg6lt := lt_of_cell hxc
      have HCV := Lib.hid hxc
      clear hn0 hvat hiv hid hxc hsc hc56 hids hs600 hB6b hgo
      go_wp2_with fail
      clear hr hr2
      go_loopw [17, 18, 19, 61] (fun t _ _ i wr => ∃ (k : Nat) (tb : Bool), k ≤ 32 ∧ i = .int .i64 k ∧ t = .bool tb ∧ BInv w w6 wr p O5 s id A WB k c tb) (fun _ _ _ i _ => 32 - (intOf i).toNat)
      case atStart => exact ⟨0, false, by omega, rfl, rfl, HI0.out⟩
      case round =>
        obtain ⟨k, tb, hk, rfl, rfl, hinv⟩ := hrel
        by_cases hlt : k < 32
        · have HAO := Lib.hid (and_one' WB k hWB)
          have HTE := Lib.hid (Nat.testBit_eq_decide_div_mod_eq (x := WB) (i := k))
          by_cases hbt : WB / 2 ^ k % 2 = 1
          · have hb1 : (bits BinOp.and IntKind.u32 ((WB : Int) / 2 ^ k) 1 == 1) = true := by rw [HAO.out, hbt]; rfl
            have HBT := Lib.hid (show WB.testBit k = true by rw [HTE.out, hbt]; rfl)
            clear hbt
            by_cases hin : A + k < 512
            · have hin2 : decide ((A : Int) + k < 512) = true := decide_eq_true (by omega)
              have HI := Lib.hid hinv.drew
              have hcv := (hinv.only.trans (OnlyS.of_ext (X := fun _ => False) (Ext.drew wr)) (fun _ _ h => h.elim)).cell HCV.out HGO.out
              have z0 : ∀ z : Later (OnlyS fun b => O5 b ∨ w6.heap.size ≤ b) wr.drew, z.val.cell? ⟨g6, off6 + r, none⟩ = some (.int .i64 (id : Nat)) := fun z => z.ext.cell hcv (fun h => h.elim HGO.out (fun h => absurd h (Nat.not_le.2 hg6lt)))
              obtain ⟨O', pg, e1, e2, e3, e4, e5, e6⟩ := HI.out.ex
              obtain ⟨M, hM⟩ : ∃ M, M = A + k := ⟨_, rfl⟩
              have hM512 : M < 512 := by omega
              have hm8 : M % 8 < 8 := Nat.mod_lt _ (by decide)
              have hidl := HIDL.out
              have HFL := Lib.hid (pFlip_any (w := wr.drew) (id : Int) ((M / 8 : Nat) : Int) (UInt8.ofNat (2 ^ (7 - M % 8))) e1 e2 (by omega) (by omega))
              have hok2 := flipS_ok e2 (id : Int) ((M / 8 : Nat) : Int) (UInt8.ofNat (2 ^ (7 - M % 8)))
              rw [flip_set hidl (by omega)] at hok2
              rw [flip_set hidl (by omega)] at HFL
              obtain ⟨c0, hc0⟩ : ∃ c0, pg[M / 8]? = some c0 := ⟨_, List.getElem?_eq_getElem (by omega)⟩
              have hT : turnB pg (M / 8) (UInt8.ofNat (2 ^ (7 - M % 8))) = pg.set (M / 8) (c0 ^^^ UInt8.ofNat (2 ^ (7 - M % 8))) := by
                unfold turnB
                rw [List.getD_eq_getElem?_getD, hc0]
                rfl
              rw [hT] at hok2 HFL
              have HNB := Lib.hid (fun j => turn_bit pg M c0 hc0 j)
              have HPL := Lib.hid (show (pg.set (M / 8) (c0 ^^^ UInt8.ofNat (2 ^ (7 - M % 8)))).length = 64 from by rw [List.length_set]; exact e3)
              generalize pg.set (M / 8) (c0 ^^^ UInt8.ofNat (2 ^ (7 - M % 8))) = pg2 at hok2 HFL HNB HPL
              have HOK2 := Lib.hid hok2
              have HE5 := Lib.hid e5
              have HE6 := Lib.hid e6
              have hmask : ((128 : Int) / 2 ^ ((A + k) % 8)) = (((UInt8.ofNat (2 ^ (7 - M % 8))).toNat : Nat) : Int) := by
                rw [← hM]
                have e : ∀ i : Nat, i < 8 → ((128 : Int) / 2 ^ i) = ((2 ^ (7 - i) : Nat) : Int) := fun i h => by
                  match i, h with
                  | 0, _ | 1, _ | 2, _ | 3, _ | 4, _ | 5, _ | 6, _ | 7, _ => rfl
                have h2 : 2 ^ (7 - M % 8) < 256 := Nat.pow_lt_pow_right (n := 8) (by decide) (by omega)
                rw [e _ hm8, UInt8.toNat_ofNat_of_lt' h2]
              have HMK := Lib.hid hmask
              have HM := Lib.hid hM
              have hdiv : (((A : Int) + k) / 8) = ((M / 8 : Nat) : Int) := by omega
              have HDV := Lib.hid hdiv
              clear e1 e2 e3 e4 e5 e6 hok2 hT hc0 hmask hdiv hM hinv hcv
              go_wp2_with fail
              refine wp_region_segs (OnlyS fun b => O5 b ∨ w6.heap.size ≤ b) (OnlyS.keeps _) [([0, 1, 2, 3, 4, 5, 6, 7, 8, 9], some 10)] (by kernel_rfl) (by kernel_rfl) (fun c a a' w e h => (by exact ⟨e ▸ h.1, h.2⟩)) ?_
              simp only [pickSegs, pickOps, List.map_cons, List.map_nil, Option.map_some, Option.getD_some, List.getElem?_toArray, List.getElem?_cons_zero, List.getElem?_cons_succ]
              refine wpSegs_some fun K' hK' => ?_
              repeat go_big_quiet_step (fail)
              refine wpQuiet_nil ?_
              clear z0
              go_wp2_with fail
              rw [HMK.out, HDV.out]
              refine HFL.out.mono ?_
              rintro e w7 ⟨rfl, hst⟩
              obtain ⟨O'', q1, q2, q3, -, q5, -⟩ := pchain HI.out.only HE6.out hst
              obtain ⟨-, -, hon7, -⟩ := hst
              have HON7 := Lib.hid (hon7.mono (Y := fun b => O5 b ∨ w6.heap.size ≤ b) (fun b _ hb => HE6.out b hb))
              have HQ1 := Lib.hid q1
              have HQ2 := Lib.hid q2
              have HQ3 := Lib.hid q3
              have HQB := Lib.hid (show Below w.heap.size w w7 from HI.out.below.trans (q5.below HI.out.below.size (fun b hb => by
                rcases HE6.out b hb with h | h
                · exact HB5w.out b h
                · exact Nat.le_trans HI0.out.below.size h)))
              clear q1 q2 q3 q5 hon7
              go_wp2_with fail
              refine ⟨HON7.out, hK' _ _ ?_⟩
              clear hK' K'
              refine wpSegs_nil ?_
              go_wp2_with fail
              go_roundw
              case rel =>
                have hm := HM.out
                refine ⟨k + 1, true, by omega, by go_num, rfl, ⟨O'', pg2, HQ1.out, HOK2.out, HPL.out, (by simp), fun j hj => ?_, HQ3.out⟩, ⟨fun _ => ⟨k, by omega, by omega, HBT.out⟩, fun _ => rfl⟩, HQ2.out, HQB.out⟩
                rw [HNB.out j, HE5.out j hj, turn_next' A k j WB HBT.out, hm, Option.map_map]
                congr 1
                funext b
                simp
              case measure => simp [intOf]; omega
            · have hin2 : decide ((A : Int) + k < 512) = false := decide_eq_false (by omega)
              have HI := Lib.hid hinv
              clear hinv
              go_wp2_with fail
              go_roundw
              case rel =>
                obtain ⟨O', pg, e1, e2, e3, e4, e5, e6⟩ := HI.out.ex
                refine ⟨k + 1, tb, by omega, by go_num, rfl, ⟨O', pg, e1, e2, e3, e4, fun j hj => by rw [e5 j hj, turn_stay' A k j WB (.inl (by omega))], e6⟩, ?_, HI.out.only, HI.out.below⟩
                rw [HI.out.told]
                exact ⟨fun ⟨i, h1, h2, h3⟩ => ⟨i, by omega, h2, h3⟩, fun ⟨i, h1, h2, h3⟩ => ⟨i, by omega, h2, h3⟩⟩
              case measure => simp [intOf]; omega
          · have hb1 : (bits BinOp.and IntKind.u32 ((WB : Int) / 2 ^ k) 1 == 1) = false := by rw [HAO.out, beq_eq_false_iff_ne]; omega
            have HBT := Lib.hid (show WB.testBit k = false by rw [HTE.out]; exact decide_eq_false hbt)
            have HI := Lib.hid hinv
            clear hbt hinv
            go_wp2_with fail
            go_roundw
            case rel =>
              obtain ⟨O', pg, e1, e2, e3, e4, e5, e6⟩ := HI.out.ex
              refine ⟨k + 1, tb, by omega, by go_num, rfl, ⟨O', pg, e1, e2, e3, e4, fun j hj => by rw [e5 j hj, turn_stay' A k j WB (.inr HBT.out)], e6⟩, ?_, HI.out.only, HI.out.below⟩
              rw [HI.out.told]
              refine ⟨fun ⟨i, h1, h2, h3⟩ => ⟨i, by omega, h2, h3⟩, fun ⟨i, h1, h2, h3⟩ => ⟨i, ?_, h2, h3⟩⟩
              have : i ≠ k := fun e => by rw [e, HBT.out] at h3; cases h3
              omega
            case measure => simp [intOf]; omega
        · have hk32 : k = 32 := by omega
          subst hk32
          have HI := Lib.hid hinv
          have HW6 := Lib.hid HI0.out.below.size
          clear hinv HI0
          go_wp2_with fail
          have HF7 := Lib.hid (HF6.out.keep HI.out.only HFD.out)
          refine (pOpen17_any F f p ids y wr HF7.out).mono ?_
          rintro e w8 ⟨⟨a, A8, rfl, hca, hA8⟩, x8⟩
          obtain ⟨O', pg, e1, e2, e3, e4, e5, e6⟩ := HI.out.ex
          have HS8 := Lib.hid (show w4.heap.size ≤ w6.heap.size from HC6.out.size)
          have HS9 := Lib.hid (show w6.heap.size ≤ wr.heap.size from HI.out.only.size)
          have HOI := Lib.hid (show OneI w4.heap.size w4 w8 O2 O' F A8 p f a (s.set id (some pg)) ids y 0 from by
            have lf := fun i (hi : F i) => HF6.out.lt hi
            have lo := fun i (hi : O' i) => e1.lt i hi
            have s1 := HS8.out
            have s2 := HS9.out
            refine ⟨e1.mono x8, HF7.out.keep (OnlyS.of_ext (X := fun _ => False) x8) (fun _ h => h.elim), hca, fun i hi hf => ?_, fun i hi ha => ?_, fun i hi ha => ?_, (HC6.out.trans HI.out.only (fun b _ hb => HN5.out b hb)).trans (OnlyS.of_ext (X := fun _ => False) x8) (fun _ _ h => h.elim), fun i hi => ?_, fun i hi => ?_, ?_⟩
            · rcases e6 i hi with h | h
              · exact HFD.out i h hf
              · have := lf i hf; omega
            · have := lo i hi; have := hA8 i ha; omega
            · have := lf i hi; have := hA8 i ha; omega
            · rcases e6 i hi with h | h
              · exact HN5.out i h
              · exact .inr (by omega)
            · exact .inr (by have := hA8 i hi; omega)
            · have := x8.size; omega)
          have hRT := H600.out.readTo
          obtain ⟨J, hJ, hJb⟩ : ∃ J, ReadTo (s.set id (some pg)) ids (rowsB y) J ∧ (tb = false → J = ids.length) ∧ (tb = true → J = r ∧ readS (s.set id (some pg)) (id : Int) = ([], 6)) := by
            cases tb with
            | false => exact ⟨ids.length, by rw [e4 rfl, set_same HSC.out]; exact hRT, fun _ => rfl, fun h => by cases h⟩
            | true => exact ⟨r, hRT.spoilt H600.out.nodup hri HID.out, fun h => (by cases h), fun _ => ⟨rfl, read_turned (List.getElem?_set_self HIDL.out) HC56.out e3 (by omega) e5 (HI.out.told.1 rfl)⟩⟩
          have HJ := Lib.hid hJ
          have HJB := Lib.hid hJb
          have HOKN := Lib.hid e2
          have HCNT := Lib.hid H600.out.count
          have HENDS := Lib.hid H600.out.ends
          have HREACH := Lib.hid (H600.out.reach hri)
          generalize s.set id (some pg) = s9 at HOI HJ HJB HOKN
          clear hca hA8 x8 e1 e2 e3 e4 e5 e6 hJ hJb hRT HI HF7 HF6 HP6 HC6 H600
          have hN60 : N ≤ 60 := HN.out ▸ HFEW.out.1
          have hyc2 := hyl
          go_wp2_with fail
          go_loopw [21, 22, 23, 24, 25, 26, 27, 28, 29, 94] (fun ev _ _ _ _ _ _ _ _ i wr => ∃ (j : Nat) (O A : Nat → Prop), j ≤ N ∧ i = .int .i64 j ∧ ev = .int .i64 ((rowsB (y.take j)).length : Nat) ∧ OneI w4.heap.size w4 wr O2 O F A p f a s9 ids y j ∧ (tb = true → (rowsB (y.take j)).length ≤ 56 * r)) (fun _ _ _ _ _ _ _ _ _ i _ => N - (intOf i).toNat)
          case atStart => exact ⟨0, O', A8, Nat.zero_le _, rfl, rfl, HOI.out, fun _ => Nat.zero_le _⟩
          case round =>
            clear HOI
            obtain ⟨j, O, A1, hj, rfl, rfl, hI, htb⟩ := hrel
            have HI := Lib.hid hI
            have HTB := Lib.hid htb
            clear hI htb
            by_cases hlt : j < N
            · have hjl : j < y.length := by rw [HN.out]; exact hlt
              obtain ⟨g, off, a1, a2, a3, rfl, hcr⟩ := HGET.out j hjl
              have HCR := Lib.hid hcr
              have c0 := (hcr wr HI.out.only).1
              clear hcr
              have hstep := rowsB_take y j hjl
              by_cases hgood : (rowsB (y.take (j + 1))).length ≤ 56 * J
              · go_wp2_with fail
                refine (pNextRow17_any O F A1 s9 a f p J j ids y wr HI.out.sto HOKN.out HI.out.fil HI.out.cur HI.out.oa HFEW.out.fit HMAY.out HCNT.out HJ.out hjl hgood).mono ?_
                rintro e w9 ⟨v, O3, A3, rfl, hown, hp9, hc9, ho9, hno9, hna9, hoa9, hv9⟩
                have HI9 := Lib.hid (HI.out.step hp9 hc9 ho9 hno9 hna9 hoa9)
                have HRR := Lib.hid (HCR.out w9 HI9.out.only).2
                have c1 := (HCR.out w9 HI9.out.only).1
                have HRV := Lib.hid (show RdVals w9 _ y[j] from RdVals.of_owns hown)
                obtain ⟨va9, vc9, rfl⟩ := owns3_shape hown
                have HMEM := Lib.hid (HFEW.out.fit.2 _ (List.getElem_mem hjl))
                have HTB2 := Lib.hid (show tb = true → (rowsB (y.take (j + 1))).length ≤ 56 * r from fun h => by rw [← ((HJB.out).2 h).1]; exact hgood)
                have hle := rowsB_take_le y (j + 1)
                have hrm := room17 HFEW.out HMAY.out
                obtain ⟨E2, hE2⟩ : ∃ E2, (rowsB (y.take (j + 1))).length = E2 := ⟨_, rfl⟩
                have HE2 := Lib.hid hE2
                rw [hE2] at hstep hle HTB2
                clear hown hp9 hc9 ho9 hno9 hna9 hoa9 hv9 c0 hgood hE2
                generalize y[j] = rr at HRR HRV HMEM hstep ⊢
                generalize (rowsB (y.take j)).length = E1 at hstep ⊢
                have hE30 : E2 ≤ 29740 := by omega
                clear hrm hle
                go_wp2_with fail
                refine (refSameRow_any _ _ rr rr w9 HRV.out HRR.out).mono ?_
                rintro e w10 ⟨rfl, x10⟩
                rw [decide_eq_true rfl]
                have HX10 := Lib.hid x10
                clear x10
                go_wp2_with fail
                refine (refRow17_any _ rr w10 (HRR.out.mono HX10.out) HMEM.out.2 HMEM.out.1).mono ?_
                rintro e w11 ⟨v11, rfl, hown11, hx11⟩
                have HI11 := Lib.hid ((HI9.out.ext HX10.out).ext hx11)
                obtain ⟨b1, b2, rfl, -, -⟩ := own_shapeP hown11
                have hlen11 : ((rowB rr).map bv).length = (rowB rr).length := List.length_map ..
                rw [hlen11]
                have HST := Lib.hid hstep
                generalize (rowB rr).length = L at HST hstep ⊢
                clear hown11 hx11 hlen11
                go_wp2_with fail
                go_roundw
                case rel => exact ⟨j + 1, O3, A3, by omega, by go_num, by rw [HE2.out, HST.out]; go_num, HI11.out, by rw [HE2.out]; exact HTB2.out⟩
                case measure => simp [intOf]; omega
              · have htbt : tb = true := by
                  cases tb with
                  | true => rfl
                  | false =>
                    have h1 := HJB.out.1 rfl
                    have h2 := HENDS.out (j + 1)
                    rw [h1] at hgood
                    exact absurd h2 hgood
                subst htbt
                obtain ⟨rfl, hrd⟩ := HJB.out.2 rfl
                have HRD := Lib.hid (show readS s9 (ids[J] : Int) = ([], 6) from by rw [HID.out]; exact hrd)
                clear hrd
                go_wp2_with fail
                refine (pNextBad17_any O F A1 s9 a f p J j 6 ids y wr HI.out.sto HOKN.out HI.out.fil HI.out.cur HI.out.oa HFEW.out.fit HMAY.out HCNT.out HJ.out hri HRD.out (by decide) hjl (HTB.out (by trivial)) (by omega)).mono ?_
                rintro e w9 ⟨v, O3, A3, rfl, hv9, hp9, hc9, ho9, hno9, hna9⟩
                obtain ⟨va9, vc9, rfl, -, -⟩ := hv9.shape
                have HC9 := Lib.hid hc9
                have HO9 := Lib.hid (HI.out.only.trans ho9 (fun b _ hb => hb.elim (HI.out.inO b) (HI.out.inA b)))
                have HA9 := Lib.hid (show ∀ b, A3 b → O2 b ∨ w4.heap.size ≤ b from fun b hb => by
                  rcases hna9 b hb with h | h
                  · exact HI.out.inA b h
                  · exact .inr (Nat.le_trans HI.out.size h))
                clear hv9 hp9 hc9 ho9 hno9 hna9 c0
                go_wp2_with fail
                refine (pNextAgain17_any A3 a 6 w9 HC9.out).mono ?_
                rintro e w10 ⟨⟨v10, rfl, hv10⟩, ho10⟩
                have HO10 := Lib.hid (HO9.out.trans ho10 (fun b _ hb => HA9.out b hb))
                have HRR := Lib.hid (HCR.out w10 HO10.out).2
                have HMEM := Lib.hid (HFEW.out.fit.2 _ (List.getElem_mem hjl))
                have hrm := room17 HFEW.out HMAY.out
                have hle := rowsB_take_le y (j + 1)
                have hgt : decide (((rowsB (y.take j)).length : Int) + ((rowB y[j]).length : Int) > (J : Int) * 56) = true := decide_eq_true (by omega)
                have hgt2 : decide ((rowsB (y.take j)).length + (rowB y[j]).length > J * 56) = true := decide_eq_true (by omega)
                have hsum : (rowsB (y.take j)).length + (rowB y[j]).length ≤ 29740 := by omega
                clear hv10 ho10 hrm hle hgood hstep
                generalize (rowsB (y.take j)).length = E1 at hgt hgt2 hsum ⊢
                generalize hrr : y[j] = rr at HRR HMEM hgt hgt2 hsum ⊢
                clear hrr
                have hJ600 : J ≤ 600 := by omega
                go_wp2_with fail
                refine (refRow17_any _ rr w10 HRR.out HMEM.out.2 HMEM.out.1).mono ?_
                rintro e w11 ⟨v11, rfl, hown11, hx11⟩
                obtain ⟨b1, b2, rfl, -, -⟩ := own_shapeP hown11
                have hlen11 : ((rowB rr).map bv).length = (rowB rr).length := List.length_map ..
                rw [hlen11]
                have HFIN := Lib.hid (show Below w.heap.size w w11 from (Below.trans (show Below w.heap.size w w4 from HX4.out) (HO10.out.below HX4.out.size (fun b hb => by
                  rcases hb with hb | hb
                  · exact HO2.out b hb
                  · exact Nat.le_trans HX4.out.size hb))).trans (Below.mono hx11 (Nat.le_trans HX4.out.size HO10.out.size)))
                generalize (rowB rr).length = L at hgt hgt2 hsum ⊢
                clear hown11 hx11 hlen11
                go_wp2_with fail
                go_ret
                exact ⟨rfl, HFIN.out⟩
            · obtain rfl : j = N := by omega
              have htbf : tb = false := by
                cases tb with
                | false => rfl
                | true =>
                  have h1 := HTB.out rfl
                  have h2 := HREACH.out
                  rw [List.take_of_length_le (by rw [HN.out]; exact Nat.le_refl _)] at h1
                  omega
              subst htbf
              have HFIN := Lib.hid (Below.trans (show Below w.heap.size w w4 from HX4.out) (HI.out.only.below HX4.out.size (fun b hb => by
                rcases hb with hb | hb
                · exact HO2.out b hb
                · exact Nat.le_trans HX4.out.size hb)))
              go_wp2_with fail
              go_ret
              exact ⟨rfl, HFIN.out⟩
  · exact absurd (by decide) hbad

end Go.Proofs.Ytoagpaphghgkmaa

/-
  The program's contracts of layer 17: writers.
-/

/-
  Objects side by side, each in blocks of its own. Over any program.
-/
namespace Go.Proofs.Ytoagpaphghgkmaa
open Go.RowKit

/-- The blocks of each object, apart from each other, all since B. -/
structure Fam (B : Nat) (Z : Nat → Nat → Prop) (w : World) : Prop where
  lt : ∀ i b, Z i b → B ≤ b ∧ b < w.heap.size
  dis : ∀ i j, i ≠ j → ∀ b, Z i b → ¬ Z j b
  size : B ≤ w.heap.size

theorem Fam.none (w : World) : Fam w.heap.size (fun _ _ => False) w := ⟨fun _ _ h => h.elim, fun _ _ _ _ h => h.elim, Nat.le_refl _⟩
theorem Fam.later {B : Nat} {Z : Nat → Nat → Prop} {w w' : World} (h : Fam B Z w) (hs : w.heap.size ≤ w'.heap.size) : Fam B Z w' := ⟨fun i b hb => ⟨(h.lt i b hb).1, Nat.lt_of_lt_of_le (h.lt i b hb).2 hs⟩, h.dis, Nat.le_trans h.size hs⟩
/-- Some objects have changed: their blocks are theirs, or new. -/
theorem Fam.step {B : Nat} {Z Z' : Nat → Nat → Prop} {w w' : World} (h : Fam B Z w) (S : Nat → Prop) (hs : w.heap.size ≤ w'.heap.size) (hS : ∀ i, ¬ S i → ∀ b, Z' i b → Z i b)
    (hin : ∀ i, S i → ∀ b, Z' i b → ((∃ j, S j ∧ Z j b) ∨ w.heap.size ≤ b) ∧ b < w'.heap.size) (hdis : ∀ i j, S i → S j → i ≠ j → ∀ b, Z' i b → ¬ Z' j b) : Fam B Z' w' := by
  refine ⟨fun i b hb => ?_, fun i j hij b hi hj => ?_, Nat.le_trans h.size hs⟩
  · by_cases hi : S i
    · obtain ⟨h1, h2⟩ := hin i hi b hb
      rcases h1 with ⟨j, -, h3⟩ | h3
      · exact ⟨(h.lt j b h3).1, h2⟩
      · exact ⟨Nat.le_trans h.size h3, h2⟩
    · have := h.lt i b (hS i hi b hb)
      exact ⟨this.1, Nat.lt_of_lt_of_le this.2 hs⟩
  · by_cases si : S i
    · by_cases sj : S j
      · exact hdis i j si sj hij b hi hj
      · have hj' := hS j sj b hj
        rcases (hin i si b hi).1 with ⟨k, sk, hk⟩ | hk
        · exact h.dis k j (fun e => sj (e ▸ sk)) b hk hj'
        · have := (h.lt j b hj').2
          omega
    · have hi' := hS i si b hi
      by_cases sj : S j
      · rcases (hin j sj b hj).1 with ⟨k, sk, hk⟩ | hk
        · exact h.dis k i (fun e => si (e ▸ sk)) b hk hi'
        · have := (h.lt i b hi').2
          omega
      · exact h.dis i j hij b hi' (hS j sj b hj)
/-- What is changed of some objects leaves another one as it was. -/
theorem Fam.other {B : Nat} {Z : Nat → Nat → Prop} {w : World} (h : Fam B Z w) {S : Nat → Prop} {j : Nat} (hj : ¬ S j) : ∀ b, (∃ i, S i ∧ Z i b) → ¬ Z j b := fun b ⟨i, hi, hb⟩ => h.dis i j (fun e => hj (e ▸ hi)) b hb

/-- One object more, or another one in its place. -/
def setZ (Z : Nat → Nat → Prop) (i : Nat) (X : Nat → Prop) : Nat → Nat → Prop := fun j => if j = i then X else Z j
theorem setZ_same (Z : Nat → Nat → Prop) (i : Nat) (X : Nat → Prop) : setZ Z i X i = X := if_pos rfl
theorem setZ_other (Z : Nat → Nat → Prop) {i j : Nat} (X : Nat → Prop) (h : j ≠ i) : setZ Z i X j = Z j := if_neg h

end Go.Proofs.Ytoagpaphghgkmaa

/-
  A store, three writers onto it, files of it: what holds between the law's acts.
-/
namespace Go.Proofs.Ytoagpaphghgkmaa
open Go.RowKit Go.BigFrame

/-! ### Objects -/

theorem setZ_at (Z : Nat → Nat → Prop) (i j : Nat) (X : Nat → Prop) (b : Nat) : setZ Z i X j b ↔ (j = i ∧ X b) ∨ (j ≠ i ∧ Z j b) := by
  unfold setZ
  by_cases e : j = i
  · rw [if_pos e]; exact ⟨fun h => .inl ⟨e, h⟩, fun h => h.elim (fun h => h.2) (fun h => absurd e h.1)⟩
  · rw [if_neg e]; exact ⟨fun h => .inr ⟨e, h⟩, fun h => h.elim (fun h => absurd h.1 e) (fun h => h.2)⟩

/-- The store and another object have changed, and a third one may be new. -/
theorem Fam.three {B : Nat} {Z : Nat → Nat → Prop} {w w' : World} (h : Fam B Z w) {m n : Nat} (hm : m ≠ 0) (hn : n ≠ 0) (hmn : n ≠ m) {O X F : Nat → Prop} (hs : w.heap.size ≤ w'.heap.size)
    (hO : ∀ b, O b → (Z 0 b ∨ w.heap.size ≤ b) ∧ b < w'.heap.size) (hX : ∀ b, X b → (Z m b ∨ w.heap.size ≤ b) ∧ b < w'.heap.size) (hF : ∀ b, F b → (Z m b ∨ w.heap.size ≤ b) ∧ b < w'.heap.size)
    (hox : ∀ b, O b → ¬ X b) (hof : ∀ b, F b → ¬ X b ∧ ¬ O b) : Fam B (setZ (setZ (setZ Z 0 O) m X) n F) w' := by
  refine h.step (fun i => i = 0 ∨ i = m ∨ i = n) hs (fun i hi b hb => ?_) (fun i hi b hb => ?_) (fun i j hi hj hij b h1 h2 => ?_)
  · simp only [setZ_at] at hb
    have e1 : i ≠ 0 := fun e => hi (.inl e)
    have e2 : i ≠ m := fun e => hi (.inr (.inl e))
    have e3 : i ≠ n := fun e => hi (.inr (.inr e))
    simpa [e1, e2, e3] using hb
  · simp only [setZ_at] at hb
    rcases hi with rfl | rfl | rfl
    · have h1 : O b := by simpa [hn.symm, hm.symm] using hb
      obtain ⟨h2, h3⟩ := hO b h1
      exact ⟨h2.imp (fun h => ⟨0, .inl rfl, h⟩) id, h3⟩
    · have h1 : X b := by simpa [hmn.symm] using hb
      obtain ⟨h2, h3⟩ := hX b h1
      exact ⟨h2.imp (fun h => ⟨i, .inr (.inl rfl), h⟩) id, h3⟩
    · have h1 : F b := by simpa using hb
      obtain ⟨h2, h3⟩ := hF b h1
      exact ⟨h2.imp (fun h => ⟨m, .inr (.inl rfl), h⟩) id, h3⟩
  · simp only [setZ_at] at h1 h2
    rcases hi with rfl | rfl | rfl <;> rcases hj with rfl | rfl | rfl
    · exact hij rfl
    · have k1 : O b := by simpa [hn.symm, hm.symm] using h1
      have k2 : X b := by simpa [hmn.symm] using h2
      exact hox b k1 k2
    · have k1 : O b := by simpa [hn.symm, hm.symm] using h1
      have k2 : F b := by simpa using h2
      exact (hof b k2).2 k1
    · have k1 : X b := by simpa [hmn.symm] using h1
      have k2 : O b := by simpa [hn.symm, hm.symm] using h2
      exact hox b k2 k1
    · exact hij rfl
    · have k1 : X b := by simpa [hmn.symm] using h1
      have k2 : F b := by simpa using h2
      exact (hof b k2).1 k1
    · have k1 : F b := by simpa using h1
      have k2 : O b := by simpa [hn.symm, hm.symm] using h2
      exact (hof b k1).2 k2
    · have k1 : F b := by simpa using h1
      have k2 : X b := by simpa [hmn.symm] using h2
      exact (hof b k1).1 k2
    · exact hij rfl
theorem Fam.two {B : Nat} {Z : Nat → Nat → Prop} {w w' : World} (h : Fam B Z w) {m : Nat} (hm : m ≠ 0) {O X : Nat → Prop} (hs : w.heap.size ≤ w'.heap.size)
    (hO : ∀ b, O b → (Z 0 b ∨ w.heap.size ≤ b) ∧ b < w'.heap.size) (hX : ∀ b, X b → (Z m b ∨ w.heap.size ≤ b) ∧ b < w'.heap.size) (hox : ∀ b, O b → ¬ X b) : Fam B (setZ (setZ Z 0 O) m X) w' := by
  refine h.step (fun i => i = 0 ∨ i = m) hs (fun i hi b hb => ?_) (fun i hi b hb => ?_) (fun i j hi hj hij b h1 h2 => ?_)
  · simp only [setZ_at] at hb
    have e1 : i ≠ 0 := fun e => hi (.inl e)
    have e2 : i ≠ m := fun e => hi (.inr e)
    simpa [e1, e2] using hb
  · simp only [setZ_at] at hb
    rcases hi with rfl | rfl
    · have h1 : O b := by simpa [hm.symm] using hb
      obtain ⟨h2, h3⟩ := hO b h1
      exact ⟨h2.imp (fun h => ⟨0, .inl rfl, h⟩) id, h3⟩
    · have h1 : X b := by simpa using hb
      obtain ⟨h2, h3⟩ := hX b h1
      exact ⟨h2.imp (fun h => ⟨i, .inr rfl, h⟩) id, h3⟩
  · simp only [setZ_at] at h1 h2
    rcases hi with rfl | rfl <;> rcases hj with rfl | rfl
    · exact hij rfl
    · have k1 : O b := by simpa [hm.symm] using h1
      have k2 : X b := by simpa using h2
      exact hox b k1 k2
    · have k1 : X b := by simpa using h1
      have k2 : O b := by simpa [hm.symm] using h2
      exact hox b k2 k1
    · exact hij rfl
theorem Fam.one {B : Nat} {Z : Nat → Nat → Prop} {w w' : World} (h : Fam B Z w) {m : Nat} {X : Nat → Prop} (hs : w.heap.size ≤ w'.heap.size) (hX : ∀ b, X b → w.heap.size ≤ b ∧ b < w'.heap.size) : Fam B (setZ Z m X) w' := by
  refine h.step (fun i => i = m) hs (fun i hi b hb => ?_) (fun i hi b hb => ?_) (fun i j hi hj hij b _ _ => hij (hi.trans hj.symm))
  · rw [setZ_other Z X hi] at hb
    exact hb
  · rw [hi, setZ_same] at hb
    exact ⟨.inr (hX b hb).1, (hX b hb).2⟩

/-! ### Whose pages -/

def setW (Ws : Nat → Wr17) (k : Nat) (W : Wr17) : Nat → Wr17 := fun j => if j = k then W else Ws j
def filesW (fl : List (Nat × List Nat × Nat)) : List Nat := fl.flatMap fun e => e.2.1
def heldW (Ws : Nat → Wr17) (fl : List (Nat × List Nat × Nat)) : List Nat := (Ws 0).ids ++ ((Ws 1).ids ++ ((Ws 2).ids ++ filesW fl))
/-- The others'. -/
def restW (Ws : Nat → Wr17) (fl : List (Nat × List Nat × Nat)) (k : Nat) : List Nat :=
  if k = 0 then (Ws 1).ids ++ ((Ws 2).ids ++ filesW fl) else if k = 1 then (Ws 0).ids ++ ((Ws 2).ids ++ filesW fl) else (Ws 0).ids ++ ((Ws 1).ids ++ filesW fl)
theorem perm_front (a b c : List Nat) : (a ++ (b ++ c)).Perm (b ++ (a ++ c)) := by
  rw [← List.append_assoc, ← List.append_assoc]
  exact List.Perm.append_right _ List.perm_append_comm
theorem held_perm (Ws : Nat → Wr17) (fl : List (Nat × List Nat × Nat)) {k : Nat} (hk : k < 3) : (heldW Ws fl).Perm ((Ws k).ids ++ restW Ws fl k) := by
  unfold heldW restW
  obtain rfl | rfl | rfl : k = 0 ∨ k = 1 ∨ k = 2 := by omega
  · exact List.Perm.refl _
  · exact perm_front _ _ _
  · exact ((perm_front _ _ _).append_left _).trans (perm_front _ _ _)
theorem held_set (Ws : Nat → Wr17) (fl : List (Nat × List Nat × Nat)) {k : Nat} (hk : k < 3) (W : Wr17) : (heldW (setW Ws k W) fl).Perm (W.ids ++ restW Ws fl k) := by
  have h := held_perm (setW Ws k W) fl hk
  have e1 : setW Ws k W k = W := if_pos rfl
  have e2 : restW (setW Ws k W) fl k = restW Ws fl k := by
    unfold restW
    obtain rfl | rfl | rfl : k = 0 ∨ k = 1 ∨ k = 2 := by omega
    · rfl
    · rfl
    · rfl
  rw [e1, e2] at h
  exact h
theorem rest_files (Ws : Nat → Wr17) (fl : List (Nat × List Nat × Nat)) (k : Nat) (x : List Nat) (e : Nat × List Nat × Nat) (he : e.2.1 = x) : (restW Ws (fl ++ [e]) k).Perm (x ++ restW Ws fl k) := by
  have hf : filesW (fl ++ [e]) = filesW fl ++ x := by
    unfold filesW
    rw [List.flatMap_append, ← he]
    simp
  have key : ∀ a b : List Nat, (a ++ (b ++ (filesW fl ++ x))).Perm (x ++ (a ++ (b ++ filesW fl))) := fun a b => by
    rw [← List.append_assoc b, ← List.append_assoc a]
    exact List.perm_append_comm
  unfold restW
  rw [hf]
  split
  · exact key _ _
  · split
    · exact key _ _
    · exact key _ _
theorem files_set {fl : List (Nat × List Nat × Nat)} {n : Nat} (hn : n < fl.length) (g m : Nat) : (filesW fl).Perm (fl[n].2.1 ++ filesW (fl.set n (g, [], m))) := by
  have h1 : fl = fl.take n ++ fl[n] :: fl.drop (n + 1) := by rw [← List.drop_eq_getElem_cons hn, List.take_append_drop]
  have h2 : fl.set n (g, [], m) = fl.take n ++ (g, [], m) :: fl.drop (n + 1) := List.set_eq_take_append_cons_drop.trans (if_pos hn)
  unfold filesW
  rw [h2]
  conv => lhs; rw [h1]
  rw [List.flatMap_append, List.flatMap_cons, List.flatMap_append, List.flatMap_cons, List.nil_append]
  exact perm_front _ _ _
theorem held_files (Ws : Nat → Wr17) {fl fl' : List (Nat × List Nat × Nat)} {x : List Nat} (h : (filesW fl).Perm (x ++ filesW fl')) : (heldW Ws fl).Perm (x ++ heldW Ws fl') := by
  unfold heldW
  exact (((((h.append_left _).trans (perm_front _ _ _)).append_left _).trans (perm_front _ _ _)).append_left _).trans (perm_front _ _ _)

/-! ### What holds -/

structure HoldI (B C : Nat) (w : World) (p : Nat) (Z : Nat → Nat → Prop) (s : St) (fs : Nat → Nat) (Ws : Nat → Wr17) (fl : List (Nat × List Nat × Nat)) : Prop where
  fam : Fam B Z w
  sto : PSto (Z 0) w p s
  wri : ∀ k, k < 3 → Wri (Z (k + 1)) w (fs k) p (Ws k)
  fil : ∀ i, (h : i < fl.length) → Fil (Z (5 + i)) w fl[i].1 p fl[i].2.1 fl[i].2.2
  ok : okS s
  part : Part s (heldW Ws fl)
  off : ∀ k, k < 3 → (Ws k).on = false → (Ws k).ids = []
  few : ∀ k, k < 3 → (Ws k).many ≤ C

variable {B C : Nat} {w w' : World} {p : Nat} {Z : Nat → Nat → Prop} {s s' : St} {fs : Nat → Nat} {Ws : Nat → Wr17} {fl : List (Nat × List Nat × Nat)} {k : Nat} {W' : Wr17} {O' X' F' : Nat → Prop}

/-- The law writes what is its own (the object 4), which may grow. -/
theorem HoldI.own (h : HoldI B C w p Z s fs Ws fl) {X : Nat → Prop} (ho : OnlyS (Z 4) w w') (hx : ∀ b, X b → (Z 4 b ∨ w.heap.size ≤ b) ∧ b < w'.heap.size) : HoldI B C w' p (setZ Z 4 X) s fs Ws fl where
  fam := h.fam.step (fun i => i = 4) ho.size (fun i hi b hb => by rwa [setZ_other Z X hi] at hb) (fun i hi b hb => by
    rw [hi, setZ_same] at hb
    exact ⟨(hx b hb).1.imp (fun h => ⟨4, rfl, h⟩) id, (hx b hb).2⟩) (fun i j hi hj hij b _ _ => hij (hi.trans hj.symm))
  sto := by
    rw [setZ_other Z X (by omega)]
    exact h.sto.onlyS ho fun b hb y => h.fam.dis 0 4 (by omega) b hb y
  wri := fun k hk => by
    rw [setZ_other Z X (by omega)]
    exact (h.wri k hk).keep ho fun b y hb => h.fam.dis 4 _ (by omega) b y hb
  fil := fun i hi => by
    rw [setZ_other Z X (by omega)]
    exact (h.fil i hi).keep ho fun b y hb => h.fam.dis 4 _ (by omega) b y hb
  ok := h.ok
  part := h.part
  off := h.off
  few := h.few
theorem HoldI.later (h : HoldI B C w p Z s fs Ws fl) {Y : Nat → Prop} (ho : OnlyS Y w w') (hy : ∀ b, Y b → ∀ i, ¬ Z i b) : HoldI B C w' p Z s fs Ws fl where
  fam := h.fam.later ho.size
  sto := h.sto.onlyS ho fun b hb y => hy b y 0 hb
  wri := fun k hk => (h.wri k hk).keep ho fun b y => hy b y _
  fil := fun i hi => (h.fil i hi).keep ho fun b y => hy b y _
  ok := h.ok
  part := h.part
  off := h.off
  few := h.few
theorem HoldI.ext (h : HoldI B C w p Z s fs Ws fl) (hx : Ext w w') : HoldI B C w' p Z s fs Ws fl := h.later (Y := fun _ => False) (OnlyS.of_ext hx) fun _ h => h.elim
theorem HoldI.more {C' : Nat} (h : HoldI B C w p Z s fs Ws fl) (hc : C ≤ C') : HoldI B C' w p Z s fs Ws fl := ⟨h.fam, h.sto, h.wri, h.fil, h.ok, h.part, h.off, fun k hk => Nat.le_trans (h.few k hk) hc⟩

theorem add_many (s : St) (W : Wr17) (r : List V) : (addW s W r).1.2.many ≤ W.many + 1 := by
  unfold addW
  split
  · exact Nat.le_succ _
  · split
    · exact Nat.le_succ _
    · split
      · exact Nat.le_refl _
      · exact Nat.zero_le _

/-- A writer's call, which leaves the files as they are. -/
theorem HoldI.wrote (h : HoldI B C w p Z s fs Ws fl) (hk : k < 3) (hp : PSto O' w' p s') (hx : Wri X' w' (fs k) p W') (ho : OnlyS (fun b => Z 0 b ∨ Z (k + 1) b) w w') (hno : ∀ b, O' b → Z 0 b ∨ w.heap.size ≤ b) (hnx : ∀ b, X' b → Z (k + 1) b ∨ w.heap.size ≤ b) (hd : ∀ b, O' b → ¬ X' b)
    (hok : okS s') (hpt : Part s' (W'.ids ++ restW Ws fl k)) (hoff : W'.on = false → W'.ids = []) (hmn : W'.many ≤ C) : HoldI B C w' p (setZ (setZ Z 0 O') (k + 1) X') s' fs (setW Ws k W') fl := by
  have key : ∀ j, j ≠ 0 → j ≠ k + 1 → ∀ b, (Z 0 b ∨ Z (k + 1) b) → ¬ Z j b := fun j h0 h1 b hb => by
    rcases hb with hb | hb
    · exact h.fam.dis 0 j (Ne.symm h0) b hb
    · exact h.fam.dis (k + 1) j (Ne.symm h1) b hb
  refine ⟨h.fam.two (by omega) ho.size (fun b hb => ⟨hno b hb, hp.lt b hb⟩) (fun b hb => ⟨hnx b hb, hx.lt hb⟩) hd, ?_, fun j hj => ?_, fun i hi => ?_, hok, hpt.perm (held_set Ws fl hk W').symm, fun j hj => ?_, fun j hj => ?_⟩
  · rw [setZ_other _ _ (by omega), setZ_same]
    exact hp
  · unfold setW
    by_cases e : j = k
    · subst e
      rw [setZ_same, if_pos rfl]
      exact hx
    · rw [setZ_other _ _ (by omega), setZ_other _ _ (by omega), if_neg e]
      exact (h.wri j hj).keep ho (key _ (by omega) (by omega))
  · rw [setZ_other _ _ (by omega), setZ_other _ _ (by omega)]
    exact (h.fil i hi).keep ho (key _ (by omega) (by omega))
  · unfold setW
    by_cases e : j = k
    · rw [if_pos e]; exact hoff
    · rw [if_neg e]; exact h.off j hj
  · unfold setW
    by_cases e : j = k
    · rw [if_pos e]; exact hmn
    · rw [if_neg e]; exact h.few j hj
/-- A new writer in the place of one that has ended. -/
theorem HoldI.anew (h : HoldI B C w p Z s fs Ws fl) (hk : k < 3) (hids : (Ws k).ids = []) {f : Nat} (hx : Wri X' w' f p newW) (hn : ∀ b, X' b → w.heap.size ≤ b) (hw : Ext w w') :
    HoldI B C w' p (setZ Z (k + 1) X') s (fun j => if j = k then f else fs j) (setW Ws k newW) fl := by
  have ho : OnlyS (fun _ => False) w w' := OnlyS.of_ext hw
  refine ⟨h.fam.one ho.size (fun b hb => ⟨hn b hb, hx.lt hb⟩), ?_, fun j hj => ?_, fun i hi => ?_, h.ok, ?_, fun j hj => ?_, fun j hj => ?_⟩
  · rw [setZ_other _ _ (by omega)]
    exact h.sto.onlyS ho fun _ _ h => h
  · unfold setW
    by_cases e : j = k
    · subst e
      rw [setZ_same, if_pos rfl, if_pos rfl]
      exact hx
    · rw [setZ_other _ _ (by omega), if_neg e, if_neg e]
      exact (h.wri j hj).keep ho fun _ h => h.elim
  · rw [setZ_other _ _ (by omega)]
    exact (h.fil i hi).keep ho fun _ h => h.elim
  · have h1 := h.part.perm (held_perm Ws fl hk)
    rw [hids] at h1
    exact h1.perm (held_set Ws fl hk newW).symm
  · unfold setW
    by_cases e : j = k
    · rw [if_pos e]; exact fun h => by cases h
    · rw [if_neg e]; exact h.off j hj
  · unfold setW
    by_cases e : j = k
    · rw [if_pos e]; exact Nat.zero_le _
    · rw [if_neg e]; exact h.few j hj
/-- A writer is done: a file more. -/
theorem HoldI.filed (h : HoldI B C w p Z s fs Ws fl) (hk : k < 3) {g many : Nat} {ids : List Nat} (hp : PSto O' w' p s') (hx : Wri X' w' (fs k) p offW) (hf : Fil F' w' g p ids many) (ho : OnlyS (fun b => Z 0 b ∨ Z (k + 1) b) w w') (hno : ∀ b, O' b → Z 0 b ∨ w.heap.size ≤ b) (hnx : ∀ b, X' b → Z (k + 1) b ∨ w.heap.size ≤ b) (hnf : ∀ b, F' b → Z (k + 1) b ∨ w.heap.size ≤ b)
    (hd : ∀ b, O' b → ¬ X' b) (hdf : ∀ b, F' b → ¬ X' b ∧ ¬ O' b) (hok : okS s') (hpt : Part s' (ids ++ restW Ws fl k)) : HoldI B C w' p (setZ (setZ (setZ Z 0 O') (k + 1) X') (5 + fl.length) F') s' fs (setW Ws k offW) (fl ++ [(g, ids, many)]) := by
  have key : ∀ j, j ≠ 0 → j ≠ k + 1 → ∀ b, (Z 0 b ∨ Z (k + 1) b) → ¬ Z j b := fun j h0 h1 b hb => by
    rcases hb with hb | hb
    · exact h.fam.dis 0 j (Ne.symm h0) b hb
    · exact h.fam.dis (k + 1) j (Ne.symm h1) b hb
  refine ⟨h.fam.three (by omega) (by omega) (by omega) ho.size (fun b hb => ⟨hno b hb, hp.lt b hb⟩) (fun b hb => ⟨hnx b hb, hx.lt hb⟩) (fun b hb => ⟨hnf b hb, hf.lt hb⟩) hd hdf, ?_, fun j hj => ?_, fun i hi => ?_, hok, ?_, fun j hj => ?_, fun j hj => ?_⟩
  · rw [setZ_other _ _ (by omega), setZ_other _ _ (by omega), setZ_same]
    exact hp
  · unfold setW
    by_cases e : j = k
    · subst e
      rw [setZ_other _ _ (by omega), setZ_same, if_pos rfl]
      exact hx
    · rw [setZ_other _ _ (by omega), setZ_other _ _ (by omega), setZ_other _ _ (by omega), if_neg e]
      exact (h.wri j hj).keep ho (key _ (by omega) (by omega))
  · rw [List.length_append, List.length_singleton] at hi
    by_cases e : i = fl.length
    · subst e
      rw [setZ_same, List.getElem_append_right (Nat.le_refl _)]
      simpa using hf
    · rw [setZ_other _ _ (by omega), setZ_other _ _ (by omega), setZ_other _ _ (by omega), List.getElem_append_left (by omega)]
      exact (h.fil i (by omega)).keep ho (key _ (by omega) (by omega))
  · refine hpt.perm ?_
    refine ((rest_files Ws fl k ids (g, ids, many) rfl).symm).trans ?_
    exact (held_set Ws (fl ++ [(g, ids, many)]) hk offW).symm
  · unfold setW
    by_cases e : j = k
    · rw [if_pos e]; exact fun _ => rfl
    · rw [if_neg e]; exact h.off j hj
  · unfold setW
    by_cases e : j = k
    · rw [if_pos e]; exact Nat.zero_le _
    · rw [if_neg e]; exact h.few j hj
/-- A file is dropped. -/
theorem HoldI.dropped (h : HoldI B C w p Z s fs Ws fl) {n : Nat} (hn : n < fl.length) (hp : PSto O' w' p (dropS s (intsN fl[n].2.1))) (hf : Fil F' w' fl[n].1 p [] 0) (ho : OnlyS (fun b => Z 0 b ∨ Z (5 + n) b) w w') (hno : ∀ b, O' b → Z 0 b ∨ w.heap.size ≤ b) (hnf : ∀ b, F' b → Z (5 + n) b ∨ w.heap.size ≤ b)
    (hd : ∀ b, O' b → ¬ F' b) : HoldI B C w' p (setZ (setZ Z 0 O') (5 + n) F') (dropS s (intsN fl[n].2.1)) fs Ws (fl.set n (fl[n].1, [], 0)) := by
  have key : ∀ j, j ≠ 0 → j ≠ 5 + n → ∀ b, (Z 0 b ∨ Z (5 + n) b) → ¬ Z j b := fun j h0 h1 b hb => by
    rcases hb with hb | hb
    · exact h.fam.dis 0 j (Ne.symm h0) b hb
    · exact h.fam.dis (5 + n) j (Ne.symm h1) b hb
  refine ⟨h.fam.two (by omega) ho.size (fun b hb => ⟨hno b hb, hp.lt b hb⟩) (fun b hb => ⟨hnf b hb, hf.lt hb⟩) hd, ?_, fun j hj => ?_, fun i hi => ?_, dropS_ok _ _ h.ok, ?_, h.off, h.few⟩
  · rw [setZ_other _ _ (by omega), setZ_same]
    exact hp
  · rw [setZ_other _ _ (by omega), setZ_other _ _ (by omega)]
    exact (h.wri j hj).keep ho (key _ (by omega) (by omega))
  · rw [List.length_set] at hi
    rw [List.getElem_set]
    by_cases e : n = i
    · subst e
      rw [setZ_same, if_pos rfl]
      exact hf
    · rw [setZ_other _ _ (by omega), setZ_other _ _ (by omega), if_neg e]
      exact (h.fil i hi).keep ho (key _ (by omega) (by omega))
  · exact (h.part.perm (held_files Ws (files_set hn fl[n].1 0))).drop

end Go.Proofs.Ytoagpaphghgkmaa
