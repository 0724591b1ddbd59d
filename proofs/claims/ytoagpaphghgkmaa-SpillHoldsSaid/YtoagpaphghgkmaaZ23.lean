/-
  Texts of this proof, merged: SpillHolds.
-/
import Derived.Carry
import Derived.Test.YtoagpaphghgkmaaZ22
import Derived.Test.YtoagpaphghgkmaaZ19
/-
  The walk of the law SpillHolds.
-/
namespace Go.Proofs.Ytoagpaphghgkmaa
open Go.RowKit Go.BigFrame

theorem Try.info_file : (Try.prog.info? 36).map (fun i => (i.zero, i.size, i.bytes)) = some (some (.pointer none), 1, 8) := by kernel_rfl
theorem zero_three (w : World) : (zeroValue 67).run Try.prog w = .ok (.agg #[.pointer none, .pointer none, .pointer none]) w := by kernel_rfl

def po (f : Option Nat) : Value := .pointer (f.map fun f => ⟨f, 0, none⟩)

/-- While the writers begin: so many of them. -/
structure NewI (w0 : World) (B j : Nat) (w : World) (p gw : Nat) (Z : Nat → Nat → Prop) (fo : Nat → Option Nat) (fs : Nat → Nat) : Prop where
  fam : Fam B Z w
  sto : PSto (Z 0) w p (List.replicate 40 none)
  wri : ∀ k, k < j → Wri (Z (k + 1)) w (fs k) p newW
  arr : Blk w gw [po (fo 0), po (fo 1), po (fo 2)] 67
  fo : ∀ k, k < j → fo k = some (fs k)
  gw4 : Z 4 gw
  below : Below w0.heap.size w0 w
  base : w0.heap.size ≤ B
theorem NewI.step {w0 : World} {B j : Nat} {w w' : World} {p gw : Nat} {Z : Nat → Nat → Prop} {fo : Nat → Option Nat} {fs : Nat → Nat} (h : NewI w0 B j w p gw Z fo fs) (hj : j < 3) {f : Nat} {X : Nat → Prop} (hx : Wri X w' f p newW) (hn : ∀ b, X b → w.heap.size ≤ b) (hw : Ext w w') :
    ∃ Z', NewI w0 B (j + 1) (w'.setCell ⟨gw, j, none⟩ (po (some f))) p gw Z' (fun k => if k = j then some f else fo k) (fun k => if k = j then f else fs k) := by
  have ho := only_at gw j w' (po (some f))
  have hne : ∀ i, i ≠ 4 → ∀ b, b = gw → ¬ Z i b := fun i hi b e hb => h.fam.dis i 4 hi b hb (e ▸ h.gw4)
  have hgw := (h.fam.lt 4 gw h.gw4).2
  have hsz : (w'.setCell ⟨gw, j, none⟩ (po (some f))).heap.size = w'.heap.size := by simp [World.setCell]
  have hXg : ∀ b, b = gw → ¬ X b := fun b e hb => by have := hn b hb; omega
  refine ⟨setZ Z (j + 1) X, h.fam.one (by rw [hsz]; exact hw.size) (fun b hb => ⟨hn b hb, by rw [hsz]; exact hx.lt hb⟩), ?_, fun k hk => ?_, ?_, fun k hk => ?_, ?_, (h.below.trans (Below.mono hw h.below.size)).trans (ho.below (Nat.le_trans h.below.size hw.size) fun b hb => ?_), h.base⟩
  · rw [setZ_other _ _ (by omega)]
    exact (h.sto.mono hw).onlyS ho fun b hb e => hne 0 (by omega) b e hb
  · by_cases e : k = j
    · subst e
      rw [setZ_same, if_pos rfl]
      exact hx.keep ho hXg
    · rw [setZ_other _ _ (by omega), if_neg e]
      exact ((h.wri k (by omega)).keep (OnlyS.of_ext (X := fun _ => False) hw) (fun _ h => h.elim)).keep ho (fun b e hb => hne (k + 1) (by omega) b e hb)
  · have h1 := (h.arr.ext hw).set j (po (some f))
    obtain rfl | rfl | rfl : j = 0 ∨ j = 1 ∨ j = 2 := by omega
    · exact h1
    · exact h1
    · exact h1
  · by_cases e : k = j
    · rw [if_pos e, if_pos e]
    · rw [if_neg e, if_neg e]
      exact h.fo k (by omega)
  · rw [setZ_other _ _ (by omega)]
    exact h.gw4
  · rw [hb]
    exact Nat.le_trans h.base (h.fam.lt 4 gw h.gw4).1
theorem NewI.law {w0 : World} {B : Nat} {w : World} {p gw : Nat} {Z : Nat → Nat → Prop} {fo : Nat → Option Nat} {fs : Nat → Nat} (h : NewI w0 B 3 w p gw Z fo fs) : LawI w0 B 0 w p gw (.slice none 0 0) [] Z (List.replicate 40 none) fs (fun _ => newW) [] := by
  have harr := h.arr
  rw [h.fo 0 (by omega), h.fo 1 (by omega), h.fo 2 (by omega)] at harr
  exact ⟨⟨h.fam, h.sto, h.wri, fun i hi => absurd hi (Nat.not_lt_zero _), ⟨by rw [List.length_replicate]; decide, fun q hq => by have := List.eq_of_mem_replicate hq; cases this⟩, Part.free 40, fun _ _ h => by (cases h), fun _ _ => Nat.le_refl _⟩,
    harr, ⟨rfl, .inl ⟨rfl, rfl⟩⟩, h.gw4, fun k hk => by (cases hk), h.below, h.base, List.length_replicate⟩

set_option maxRecDepth 100000 in
set_option maxHeartbeats 8000000 in
theorem spillHolds_walk (u : Value) (acts : List Act17) (w : World) (hu : RdSpills w u acts) (hf : ∀ a ∈ acts, a.fits) :
    Calls Try.prog 6 #[u] w fun e w' => e = .returned (.bool true) ∧ Below w.heap.size w w' := by
  obtain ⟨ua, uc, rfl, hu1, hu2, hat⟩ := hu
  obtain ⟨i1, hi1, hy0, hy1, hy2⟩ := info_parts Try.info_file
  have hmm := @run_makeMap Try.prog
  have HAT := Lib.hid hat
  have HF := Lib.hid hf
  unfold maxLen at hu2
  obtain ⟨M, hM⟩ : ∃ M, acts.length = M := ⟨_, rfl⟩
  have HM := Lib.hid hM
  rw [hM] at hu1 ⊢
  clear hat hf hM
  go_enter Try.func6, Try.ntmps6
  go_wp2_with fail
  refine (shown17_any _).mono ?_
  rintro e w1 ⟨rfl, hx1⟩
  have HX1 := Lib.hid hx1
  clear hx1
  go_wp2_with fail
  refine (pNew_any 40 (by decide)).mono ?_
  rintro e w2 hN
  unfold PNewed at hN
  rcases hN with ⟨_, _, p, O2, rfl, hp2, ho2, hx2⟩ | ⟨hbad, rfl, hx2⟩
  · have HP2 := Lib.hid (show PSto O2 w2 p (List.replicate 40 none) from hp2)
    have HO2 := Lib.hid (show ∀ b, O2 b → w1.heap.size ≤ b from ho2)
    have HX2 := Lib.hid (Ext.trans HX1.out hx2)
    have HS2 := Lib.hid hx2.size
    have hz3 := zero_three
    clear hp2 ho2 hx2
    go_wp2_with fail
    have HN0 := Lib.hid (show NewI w w1.heap.size 0 (w2.alloc (.cells #[.pointer none, .pointer none, .pointer none] 67)) p w2.heap.size (setZ (setZ (fun _ _ => False) 0 O2) 4 (fun b => b = w2.heap.size)) (fun _ => none) (fun _ => 0) from by
      have hsz : (w2.alloc (.cells #[.pointer none, .pointer none, .pointer none] 67)).heap.size = w2.heap.size + 1 := by simp only [World.alloc, Array.size_push]
      have hxn := ext_new w2 (.cells #[.pointer none, .pointer none, .pointer none] 67)
      have key : ∀ i b, setZ (setZ (fun _ _ => False) 0 O2) 4 (fun b => b = w2.heap.size) i b → (i = 0 ∧ O2 b) ∨ (i = 4 ∧ b = w2.heap.size) := fun i b hb => by
        simp only [setZ_at] at hb
        rcases hb with h | ⟨h1, h | h⟩
        · exact .inr h
        · exact .inl h
        · exact h.2.elim
      refine ⟨⟨fun i b hb => ?_, fun i j hij b h1 h2 => ?_, by rw [hsz]; have := HS2.out; omega⟩, ?_, fun k hk => absurd hk (Nat.not_lt_zero _), Blk.new w2 [.pointer none, .pointer none, .pointer none] _, fun k hk => absurd hk (Nat.not_lt_zero _), by rw [setZ_same], (Ext.trans HX2.out hxn), HX1.out.size⟩
      · rw [hsz]
        rcases key i b hb with ⟨-, h⟩ | ⟨-, h⟩
        · have h1 := HO2.out b h
          have h2 := HP2.out.lt b h
          omega
        · have := HS2.out; omega
      · rcases key i b h1 with ⟨e1, h3⟩ | ⟨e1, h3⟩ <;> rcases key j b h2 with ⟨e2, h4⟩ | ⟨e2, h4⟩
        · exact hij (e1.trans e2.symm)
        · have := HP2.out.lt b h3; omega
        · have := HP2.out.lt b h4; omega
        · exact hij (e1.trans e2.symm)
      · rw [setZ_other _ _ (by omega), setZ_same]
        exact HP2.out.mono hxn)
    clear hz3
    generalize hgw : w2.heap.size = gw at HN0 ⊢
    clear hgw
    go_loopw [7, 35] (fun _ i wr => ∃ (j : Nat) (Z : Nat → Nat → Prop) (fo : Nat → Option Nat) (fs : Nat → Nat), j ≤ 3 ∧ i = .int .i64 j ∧ NewI w w1.heap.size j wr p gw Z fo fs) (fun _ i _ => 3 - (intOf i).toNat)
    case atStart => exact ⟨0, _, _, _, by omega, rfl, HN0.out⟩
    case round =>
      obtain ⟨j, Z, fo, fs, hj, rfl, hni⟩ := hrel
      have HNI := Lib.hid hni
      clear hni HN0
      by_cases hlt : j < 3
      · go_wp2_with fail
        refine (pNew17_any p wr).mono ?_
        rintro e w3 ⟨⟨f, X, rfl, hx, hn⟩, x3⟩
        have hcell := (HNI.out.arr.ext x3).cell j (po (fo j)) (by
          obtain rfl | rfl | rfl : j = 0 ∨ j = 1 ∨ j = 2 := by omega
          · rfl
          · rfl
          · rfl)
        have hfree := (HNI.out.arr.ext x3).free j
        obtain ⟨Z', hn'⟩ := HNI.out.step hlt hx hn x3
        have HN' := Lib.hid (show NewI w w1.heap.size (j + 1) (w3.setCell ⟨gw, j, none⟩ (.pointer (some ⟨f, 0, none⟩))) p gw Z' (fun k => if k = j then some f else fo k) (fun k => if k = j then f else fs k) from hn')
        clear hx hn hn' x3
        go_wp2_with fail
        go_roundw
        case rel => exact ⟨j + 1, Z', _, _, by omega, by go_num, HN'.out⟩
        case measure => simp [intOf]; omega
      · obtain rfl : j = 3 := by omega
        have HLAW := Lib.hid HNI.out.law
        clear HNI
        go_upto_block 2 with fail
        go_cut [8, 9, 10, 12, 13, 14, 15, 16, 17, 18, 19, 21, 23] from 45 to 186 (fun fv _ _ _ _ _ _ _ _ _ _ _ _ W => ∃ (Z : Nat → Nat → Prop) (s : St) (fs : Nat → Nat) (Ws : Nat → Wr17) (fl : List (Nat × List Nat × Nat)), LawI w w1.heap.size 60 W p gw fv (fl.map fun e => e.1) Z s fs Ws fl ∧ fl.length ≤ 60)
        case first =>
          go_wp2_with fail
          go_loopw [8, 9, 10, 12, 13, 14, 15, 16, 17, 18, 19, 21, 23, 45] (fun fv _ _ _ _ _ _ _ _ _ _ _ _ i wr => ∃ (c : Nat) (Z : Nat → Nat → Prop) (s : St) (fs : Nat → Nat) (Ws : Nat → Wr17) (fl : List (Nat × List Nat × Nat)), c ≤ M ∧ i = .int .i64 c ∧ LawI w w1.heap.size c wr p gw fv (fl.map fun e => e.1) Z s fs Ws fl ∧ fl.length ≤ c ∧ c ≤ 60) (fun _ _ _ _ _ _ _ _ _ _ _ _ _ i _ => M - (intOf i).toNat)
          case atStart => exact ⟨0, Z, _, fs, _, [], Nat.zero_le _, rfl, HLAW.out, Nat.le_refl _, by omega⟩
          case round =>
            clear HLAW
            obtain ⟨c, Z, s, fs, Ws, fl, hc, rfl, hlaw, hfl, hc60⟩ := hrel
            have HL := Lib.hid hlaw
            clear hlaw
            by_cases hlt : c < M
            · have hca : c < acts.length := by rw [HM.out]; exact hlt
              obtain ⟨g, off, rv, rfl, hrv, c0, c1, c2⟩ := HAT.out c hca
              have hfit := HF.out acts[c] (List.getElem_mem hca)
              generalize acts[c] = a at hrv c0 c1 c2 hfit
              obtain ⟨ra, rc, rfl, hrl, hrc⟩ := hrv.shape
              unfold maxLen at hrc
              obtain ⟨ak, aw, ar⟩ := a
              obtain ⟨kk, rfl⟩ := Int.eq_ofNat_of_zero_le hfit.k.1
              obtain ⟨ww, rfl⟩ := Int.eq_ofNat_of_zero_le hfit.which.1
              have hkk : kk ≤ 255 := by have := hfit.k.2; simp only at this; omega
              have hww : ww ≤ 255 := by have := hfit.which.2; simp only at this; omega
              have HRV := Lib.hid (fun W (hW : Below w.heap.size w W) => hrv.mono hW)
              have HFR := Lib.hid hfit.row
              simp only at hrv hrl c0 c1 c2
              have y0 := (HL.out.below.cell (lt_of_cell c0)).trans c0
              have y1 := (HL.out.below.cell (lt_of_cell c1)).trans c1
              have y2 := (HL.out.below.cell (lt_of_cell c2)).trans c2
              have HPL := Lib.hid hrv.plain.2.2.2
              obtain ⟨L, hL⟩ : ∃ L, ar.length = L := ⟨_, rfl⟩
              have HLL := Lib.hid hL
              rw [hL] at y2 hrl HRV
              clear hrv c0 c1 c2 hfit hL
              by_cases h60 : 60 ≤ c
              · have d1 : decide ((c : Int) ≥ 60) = true := decide_eq_true (by omega)
                have d1' : decide (60 ≤ c) = true := decide_eq_true h60
                have HLX := Lib.hid ((HL.out.ext (ext_new wr (.cells #[.int .u8 kk, .int .u8 ww, .slice ra L rc] 71))).more hc60)
                go_wp2_with fail
                go_meet
                exact ⟨Z, s, fs, Ws, fl, HLX.out, by omega⟩
              · have d1 : decide ((c : Int) ≥ 60) = false := decide_eq_false (by omega)
                have d1' : decide (60 ≤ c) = false := decide_eq_false h60
                by_cases h40 : 40 < L
                · have d2 : decide ((L : Int) > 40) = true := decide_eq_true (by omega)
                  have d2' : decide (40 < L) = true := decide_eq_true h40
                  have HLX := Lib.hid ((HL.out.ext (ext_new wr (.cells #[.int .u8 kk, .int .u8 ww, .slice ra L rc] 71))).more hc60)
                  go_wp2_with fail
                  go_meet
                  exact ⟨Z, s, fs, Ws, fl, HLX.out, by omega⟩
                · have d2 : decide ((L : Int) > 40) = false := decide_eq_false (by omega)
                  have d2' : decide (40 < L) = false := decide_eq_false h40
                  have HLX := Lib.hid (HL.out.ext (ext_new wr (.cells #[.int .u8 kk, .int .u8 ww, .slice ra L rc] 71)))
                  have HGA := Lib.hid (show ∀ i, ¬ Z i wr.heap.size from fun i hz => by have := (HL.out.hold.fam.lt i _ hz).2; omega)
                  have HA := Lib.hid (Blk.new wr [.int .u8 kk, .int .u8 ww, .slice ra L rc] 71)
                  go_wp2_with fail
                  generalize wr.alloc (.cells #[.int .u8 kk, .int .u8 ww, .slice ra L rc] 71) = wa at HLX HA ⊢
                  generalize wr.heap.size = ga at HGA HA ⊢
                  clear HL y0 y1 y2
                  go_loopw [12, 61] (fun _ iv wz => ∃ q : Nat, q ≤ L ∧ iv = .int .i64 q ∧ (∀ t, (ht : t < ar.length) → t < q → ar[t].s.length ≤ 200) ∧ Ext wa wz) (fun _ iv _ => L - (intOf iv).toNat)
                  case atStart => exact ⟨0, Nat.zero_le _, rfl, fun t _ h => absurd h (Nat.not_lt_zero _), Ext.keeps.refl _⟩
                  case round =>
                    obtain ⟨q, hq, rfl, hsm, hx⟩ := hrel
                    have HSM := Lib.hid hsm
                    have HXZ := Lib.hid hx
                    have HB := Lib.hid (HLX.out.below.trans (Below.mono hx HLX.out.below.size))
                    clear hsm hx
                    by_cases hq2 : q < L
                    · have hql : q < ar.length := by rw [HLL.out]; exact hq2
                      obtain ⟨g2, off2, rfl, k0, k1, k2⟩ := HPL.out q hql
                      have x0 := (HB.out.cell (lt_of_cell k0)).trans k0
                      have x1 := (HB.out.cell (lt_of_cell k1)).trans k1
                      have x2 := (HB.out.cell (lt_of_cell k2)).trans k2
                      have HNQ := Lib.hid (show ar[q].s.length ≤ 200 → ∀ t, (ht : t < ar.length) → t < q + 1 → ar[t].s.length ≤ 200 from fun h t ht htc => by
                        by_cases e : t = q
                        · subst e; exact h
                        · exact HSM.out t ht (by omega))
                      have HFQ := Lib.hid (HFR.out ar[q] (List.getElem_mem hql)).2
                      generalize ar[q] = v at x0 x1 x2 HNQ HFQ
                      obtain ⟨vk, vn, vs⟩ := v
                      simp only at x0 x1 x2 HNQ HFQ
                      clear k0 k1 k2
                      have HXA := Lib.hid (Ext.trans HXZ.out (ext_new wr (.cells #[.int .u8 vk, .int .i64 vn, .string ⟨vs.toArray⟩] 59)))
                      have hvm := HFQ.out
                      unfold maxLen at hvm
                      by_cases hlong : 200 < vs.length
                      · have d3 : decide (200 < vs.length) = true := decide_eq_true hlong
                        have d3' : decide ((200 : Int) < (vs.length : Int)) = true := decide_eq_true (by omega)
                        have HFIN := Lib.hid (HLX.out.below.trans (Below.mono HXA.out HLX.out.below.size))
                        go_wp2_with fail
                        go_ret
                        exact ⟨rfl, HFIN.out⟩
                      · have d3 : decide (200 < vs.length) = false := decide_eq_false hlong
                        have d3' : decide ((200 : Int) < (vs.length : Int)) = false := decide_eq_false (by omega)
                        have HNQ2 := Lib.hid (HNQ.out (by omega))
                        go_wp2_with fail
                        go_roundw
                        case rel => exact ⟨q + 1, by omega, by go_num, HNQ2.out, HXA.out⟩
                        case measure => simp [intOf]; omega
                    · obtain rfl : q = L := by omega
                      have HFIT := Lib.hid (show FitB [ar] from ⟨by simp, fun r hr => by
                        rw [List.mem_singleton] at hr
                        subst hr
                        refine ⟨by rw [HLL.out]; omega, fun v hv => ⟨(HFR.out v hv).1, ?_⟩⟩
                        obtain ⟨t, ht, rfl⟩ := List.mem_iff_getElem.1 hv
                        exact Nat.le_trans (HSM.out t ht (by rw [← HLL.out]; exact ht)) (by decide)⟩)
                      have HLZ := Lib.hid (HLX.out.ext HXZ.out)
                      have HAZ := Lib.hid (HA.out.ext HXZ.out)
                      obtain ⟨k, hk, hk3⟩ : ∃ k : Nat, (ww : Int) % 3 = k ∧ k < 3 := ⟨ww % 3, by omega, Nat.mod_lt _ (by decide)⟩
                      obtain ⟨kq, hkq, hkq4⟩ : ∃ kq : Nat, (kk : Int) % 4 = kq ∧ kq < 4 := ⟨kk % 4, by omega, Nat.mod_lt _ (by decide)⟩
                      have c0 := HAZ.out.cell 0 _ rfl
                      have c1 := HAZ.out.cell 1 _ rfl
                      have HC1 := Lib.hid (HAZ.out)
                      clear HLX HA HXZ HPL HSM HB HFR d2 d2' d1 d1' h40 hq
                      go_upto_block 6 with fail
                      clear hk c0 c1
                      obtain ⟨fa, fc, rfl, hfc1, hfc2⟩ := own_shapeP HLZ.out.files
                      obtain ⟨NF, hNF⟩ : ∃ NF, (fl.map fun e => e.1).length = NF := ⟨_, rfl⟩
                      have HNF := Lib.hid hNF
                      have HNFL := Lib.hid (show NF = fl.length from by rw [← hNF, List.length_map])
                      have hNF60 : NF ≤ 60 := by have := HNFL.out; omega
                      rw [hNF] at HLZ hfc1 ⊢
                      unfold maxLen at hfc2
                      clear hNF
                      go_cut [8, 14, 15, 16, 17, 18] from 78 to 159 (fun fv _ _ _ _ _ W => ∃ (Z : Nat → Nat → Prop) (s : St) (fs : Nat → Nat) (Ws : Nat → Wr17) (fl : List (Nat × List Nat × Nat)), LawI w w1.heap.size (c + 1) W p gw fv (fl.map fun e => e.1) Z s fs Ws fl ∧ fl.length ≤ c + 1)
                      case first =>
                        obtain rfl | rfl | rfl | rfl : kq = 0 ∨ kq = 1 ∨ kq = 2 ∨ kq = 3 := by omega
                        · -- a row is added
                          have t0 : (((kk : Nat) : Int) % 4 == 0) = true := by rw [hkq]; rfl
                          clear hkq
                          have HLD := Lib.hid (HLZ.out.ext (Ext.drew wr))
                          have HAD := Lib.hid (HAZ.out.ext (Ext.drew wr))
                          have z0 : ∀ z : Later (OnlyS fun b => Z 0 b ∨ Z (k + 1) b) wr.drew, z.val.cell? ⟨gw, k, none⟩ = some (.pointer (some ⟨fs k, 0, none⟩)) := fun z => z.ext.cell (HLD.out.cell hk3) (HLD.out.off4 (by omega) gw HLD.out.gw4)
                          have z1 : ∀ z : Later (OnlyS fun b => Z 0 b ∨ Z (k + 1) b) wr.drew, z.val.cell? ⟨ga, 2, none⟩ = some (.slice ra q rc) := fun z => z.ext.cell (HAD.out.cell 2 _ rfl) (fun h => h.elim (HGA.out 0) (HGA.out (k + 1)))
                          have hgw3 : (k : Int) < 3 := by omega
                          go_wp2_with fail
                          refine wp_region_segs (OnlyS fun b => Z 0 b ∨ Z (k + 1) b) (OnlyS.keeps _) [([0, 1, 2, 3, 4], some 5)] (by kernel_rfl) (by kernel_rfl) (fun c a a' w e h => (by exact ⟨e ▸ h.1, h.2⟩)) ?_
                          simp only [pickSegs, pickOps, List.map_cons, List.map_nil, Option.map_some, Option.getD_some, List.getElem?_toArray, List.getElem?_cons_zero, List.getElem?_cons_succ]
                          refine wpSegs_some fun K' hK' => ?_
                          repeat go_big_quiet_step (fail)
                          refine wpQuiet_nil ?_
                          clear z0 z1
                          go_wp2_with fail
                          refine (pAdd17_any (Z 0) (Z (k + 1)) (fs k) p s (Ws k) _ ar wr.drew HLD.out.hold.sto HLD.out.hold.ok (HLD.out.hold.wri k hk3) (HLD.out.apart (by omega)) (fun W hW => HRV.out W (HLD.out.bel hW)) HFIT.out (Nat.le_trans (HLD.out.hold.few k hk3) (by omega))).mono ?_
                          rintro e w3 ⟨O', X', rfl, hp', hx', ho, hno, hnx, hd⟩
                          have hpt := addW_part (r := ar) (HLD.out.mine hk3) (HLD.out.hold.off k hk3)
                          have HON := Lib.hid ho
                          have HL3 := Lib.hid ((HLD.out.more (Nat.le_succ c)).wrote hk3 hp' hx' ho hno hnx hd (addW_ok HLD.out.hold.ok _ _) hpt.1 hpt.2 (Nat.le_trans (add_many _ _ _) (by have := HLD.out.hold.few k hk3; omega)) (addW_length _ _ _))
                          clear hp' hx' ho hno hnx hd hpt
                          go_wp2_with fail
                          refine ⟨HON.out, hK' _ _ ?_⟩
                          clear hK' K'
                          refine wpSegs_nil ?_
                          go_wp2_with fail
                          go_meet
                          exact ⟨_, _, _, _, fl, HL3.out, by omega⟩
                        · -- it is done
                          have t0 : (((kk : Nat) : Int) % 4 == 0) = false := by rw [hkq]; rfl
                          have t1 : (((kk : Nat) : Int) % 4 == 1) = true := by rw [hkq]; rfl
                          clear hkq
                          have cw := HLZ.out.cell hk3
                          unfold pt at cw
                          have hgw3 : (k : Int) < 3 := by omega
                          have HAQ := Lib.hid HAZ.out
                          go_wp2_with fail
                          refine (pDone17_any (Z 0) (Z (k + 1)) (fs k) p s (Ws k) wr HLZ.out.hold.sto HLZ.out.hold.ok (HLZ.out.hold.wri k hk3) (HLZ.out.apart (by omega))).mono ?_
                          rintro e w3 ⟨v, O', X', F', rfl, hp', hx', ho, hno, hnx, hnf, hd, hdf, hv⟩
                          have HA3 := Lib.hid (blk_only HAQ.out ho (fun h => h.elim (HGA.out 0) (HGA.out (k + 1))))
                          have hpt := doneW_part (HLZ.out.mine hk3) (HLZ.out.hold.off k hk3)
                          have hgal := HAQ.out.lt
                          have hO' : ¬ O' ga := fun h => (hno ga h).elim (HGA.out 0) (fun h => by omega)
                          have hX' : ¬ X' ga := fun h => (hnx ga h).elim (HGA.out (k + 1)) (fun h => by omega)
                          have hF' : ¬ F' ga := fun h => (hnf ga h).elim (HGA.out (k + 1)) (fun h => by omega)
                          have HV := Lib.hid (show ((doneW s (Ws k)).1.1 ≠ 0 ∧ ∃ Z1 s1 Ws1, LawI w w1.heap.size (c + 1) w3 p gw (.slice fa NF fc) (fl.map fun e => e.1) Z1 s1 fs Ws1 fl ∧ Ws1 k = offW ∧ ∀ i, ¬ Z1 i ga) ∨
                            ((doneW s (Ws k)).1.1 = 0 ∧ ∃ g9 Z1 s1 Ws1 ids many, v = .pointer (some ⟨g9, 0, none⟩) ∧ LawI w w1.heap.size (c + 1) w3 p gw (.slice fa NF fc) (fl.map fun e => e.1) Z1 s1 fs Ws1 (fl ++ [(g9, ids, many)]) ∧ Ws1 k = offW ∧ ∀ i, ¬ Z1 i ga) from by
                            rcases hv with ⟨hE, -⟩ | ⟨hE, g9, rfl, hfil⟩
                            · rw [done_bad _ _ hE] at hpt
                              exact .inl ⟨hE, _, _, _, (HLZ.out.more (Nat.le_succ c)).wrote hk3 hp' hx' ho hno hnx hd (doneW_ok HLZ.out.hold.ok _) hpt (fun _ => rfl) (Nat.zero_le _) (doneW_length _ _), setW_same _ _ _, setZ2_not HGA.out hO' hX'⟩
                            · exact .inr ⟨hE, g9, _, _, _, _, _, rfl, (HLZ.out.more (Nat.le_succ c)).filed hk3 hp' hx' hfil ho hno hnx hnf hd hdf (doneW_ok HLZ.out.hold.ok _) hpt (doneW_length _ _), setW_same _ _ _, setZ3_not HGA.out hO' hX' hF'⟩)
                          generalize (doneW s (Ws k)).1.1 = E at HV ⊢
                          clear hp' hx' ho hno hnx hnf hd hdf hv hpt hO' hX' hF' hgal cw
                          go_upto_if 125 with fail
                          go_cut [8] from 126 to 129 (fun fv W => ∃ (Z : Nat → Nat → Prop) (s : St) (Ws : Nat → Wr17) (fl : List (Nat × List Nat × Nat)), LawI w w1.heap.size (c + 1) W p gw fv (fl.map fun e => e.1) Z s fs Ws fl ∧ fl.length ≤ c + 1 ∧ Ws k = offW ∧ (∀ i, ¬ Z i ga) ∧ Blk W ga [.int .u8 kk, .int .u8 ww, .slice ra q rc] 71)
                          case first =>
                            rcases HV.out with ⟨hE, Z1, s1, Ws1, hl1, ho1, hg1⟩ | ⟨hE, g9, Z1, s1, Ws1, ids, many, rfl, hl1, ho1, hg1⟩
                            · have q0 : (E == 0) = false := by simpa using hE
                              have HL1 := Lib.hid hl1
                              have HO1 := Lib.hid ho1
                              have HG1 := Lib.hid hg1
                              clear hl1 ho1 hg1 hE HV
                              go_wp2_with fail
                              go_meet
                              exact ⟨Z1, s1, Ws1, fl, HL1.out, by omega, HO1.out, HG1.out, HA3.out⟩
                            · subst hE
                              have HL1 := Lib.hid hl1
                              have HO1 := Lib.hid ho1
                              have HG1 := Lib.hid hg1
                              have HFO := Lib.hid (show w3.ownsRow w1.heap.size 36 1 (.slice fa NF fc) NF ((fl.map fun e => e.1).map pt) from by have h := hl1.files; rw [HNF.out] at h; exact h)
                              have HSZ := Lib.hid (show w1.heap.size ≤ w3.heap.size from hl1.hold.fam.size)
                              have hNF7 : NF ≤ 10000000 := by omega
                              clear hl1 ho1 hg1 HV
                              go_wp2_with (at_builtin; go_loud (refine wpList_append_one rfl (.tmp 126) (.tmp 128) 69 rfl w1.heap.size 36 i1 (.pointer none) 1 8 Try.underlying69 hi1 hy0 hy1 hy2 rfl (by decide) (by decide) (.slice fa NF fc) NF ((fl.map fun e => e.1).map pt) [pt g9] rfl HFO.out rfl rfl (pt_oneCell g9) hNF7 HSZ.out ?_); intro v5 w5 h5a h5b h5c h5d; have HO5 := Lib.hid h5a; have HW5 := Lib.hid h5b; have HY5 := Lib.hid h5c; have HG5 := Lib.hid h5d; clear h5a h5b h5c h5d)
                              have HL5 := Lib.hid (HL1.out.append (g := g9) (by rw [HNF.out]; exact HO5.out) HY5.out HG5.out)
                              have HF4 := Lib.hid (show ∀ b, (Value.slice fa NF fc).ownBlock = some b → Z1 4 b from HL1.out.fv4)
                              go_meet
                              refine ⟨_, _, Ws1, fl ++ [(g9, ids, many)], by rw [List.map_append]; exact HL5.out, by rw [List.length_append]; simp; omega, HO1.out, fun i hi => ?_, blk_only HA3.out HY5.out (fun h => HG1.out 4 (HF4.out ga h))⟩
                              rw [setZ_at] at hi
                              rcases hi with ⟨-, h | h⟩ | ⟨-, h⟩
                              · exact HG1.out 4 h
                              · rcases HG5.out with e | ⟨k', e, hle⟩
                                · exact HG1.out 4 (HF4.out ga (e ▸ h))
                                · rw [e] at h
                                  cases h
                                  have := HA3.out.lt
                                  omega
                              · exact HG1.out i h
                          case rest =>
                          obtain ⟨Z2, s2, Ws2, fl2, hl2, hn2, ho2, hg2, ha2⟩ := hcut
                          clear HV HA3
                          have HLD := Lib.hid (hl2.ext (Ext.drew wc))
                          have HAD := Lib.hid (ha2.ext (Ext.drew wc))
                          have z0 : ∀ z : Later (OnlyS fun b => Z2 0 b ∨ Z2 (k + 1) b) wc.drew, z.val.cell? ⟨gw, k, none⟩ = some (.pointer (some ⟨fs k, 0, none⟩)) := fun z => z.ext.cell (HLD.out.cell hk3) (HLD.out.off4 (by omega) gw HLD.out.gw4)
                          have z1 : ∀ z : Later (OnlyS fun b => Z2 0 b ∨ Z2 (k + 1) b) wc.drew, z.val.cell? ⟨ga, 2, none⟩ = some (.slice ra q rc) := fun z => z.ext.cell (HAD.out.cell 2 _ rfl) (fun h => h.elim (hg2 0) (hg2 (k + 1)))
                          have HO2' := Lib.hid ho2
                          have HN2 := Lib.hid hn2
                          have HWK := Lib.hid (show Wri (Z2 (k + 1)) wc.drew (fs k) p offW from by have h := HLD.out.hold.wri k hk3; rw [ho2] at h; exact h)
                          have HMK := Lib.hid (show Part s2 (offW.ids ++ restW Ws2 fl2 k) from by have h := HLD.out.mine hk3; rw [ho2] at h; exact h)
                          clear hl2 ha2 hg2 ho2 hn2
                          go_wp2_with fail
                          refine wp_region_segs (OnlyS fun b => Z2 0 b ∨ Z2 (k + 1) b) (OnlyS.keeps _) [([0, 1, 2, 3, 4], some 5), ([6], none)] (by kernel_rfl) (by kernel_rfl) (fun c a a' w e h => (by exact ⟨e ▸ h.1, h.2⟩)) ?_
                          simp only [pickSegs, pickOps, List.map_cons, List.map_nil, Option.map_some, Option.map_none, Option.getD_some, List.getElem?_toArray, List.getElem?_cons_zero, List.getElem?_cons_succ]
                          refine wpSegs_some fun K' hK' => ?_
                          repeat go_big_quiet_step (fail)
                          refine wpQuiet_nil ?_
                          clear z0 z1
                          go_wp2_with fail
                          refine (pAdd17_any (Z2 0) (Z2 (k + 1)) (fs k) p s2 offW _ ar wc.drew HLD.out.hold.sto HLD.out.hold.ok HWK.out (HLD.out.apart (by omega)) (fun W hW => HRV.out W (HLD.out.bel hW)) HFIT.out (by decide)).mono ?_
                          rw [add_off]
                          rintro e w3 ⟨O', X', rfl, hp', hx', ho, hno, hnx, hd⟩
                          have HON := Lib.hid ho
                          have HL3 := Lib.hid (HLD.out.wrote hk3 hp' hx' ho hno hnx hd HLD.out.hold.ok HMK.out (fun _ => rfl) (Nat.zero_le _) rfl)
                          clear hp' hx' ho hno hnx hd
                          go_wp2_with fail
                          refine ⟨HON.out, hK' _ _ ?_⟩
                          clear hK' K'
                          refine wpSegs_none ?_
                          repeat go_big_quiet_step (fail)
                          refine wpQuiet_nil (wpSegs_nil ?_)
                          go_wp2_with fail
                          refine (pNew17_any p w3).mono ?_
                          rintro e w4 ⟨⟨f4, X4, rfl, hx4, hn4⟩, x4⟩
                          obtain ⟨Z5, hl5⟩ := HL3.out.anew hk3 (by rw [setW_same]; rfl) hx4 hn4 x4
                          have hcell := (HL3.out.ext x4).cell hk3
                          have hfree := (HL3.out.ext x4).arr.free k
                          have HL5 := Lib.hid hl5
                          clear hx4 hn4 x4 hl5
                          go_wp2_with fail
                          go_meet
                          exact ⟨Z5, s2, _, _, fl2, HL5.out, HN2.out⟩
                        · -- it is canceled
                          have t0 : (((kk : Nat) : Int) % 4 == 0) = false := by rw [hkq]; rfl
                          have t1 : (((kk : Nat) : Int) % 4 == 1) = false := by rw [hkq]; rfl
                          have t2 : (((kk : Nat) : Int) % 4 == 2) = true := by rw [hkq]; rfl
                          clear hkq
                          have cw := HLZ.out.cell hk3
                          unfold pt at cw
                          have hgw3 : (k : Int) < 3 := by omega
                          go_wp2_with fail
                          refine (pCancel17_any (Z 0) (Z (k + 1)) (fs k) p s (Ws k) wr HLZ.out.hold.sto HLZ.out.hold.ok (HLZ.out.hold.wri k hk3) (HLZ.out.apart (by omega))).mono ?_
                          rintro e w3 ⟨O', X', rfl, hp', hx', ho, hno, hnx, hd⟩
                          have hpt := cancelW_part (HLZ.out.mine hk3) (HLZ.out.hold.off k hk3)
                          have HL3 := Lib.hid ((HLZ.out.more (Nat.le_succ c)).wrote hk3 hp' hx' ho hno hnx hd (cancelW_ok HLZ.out.hold.ok _) hpt (fun _ => rfl) (Nat.zero_le _) (cancelW_length _ _))
                          clear hp' hx' ho hno hnx hd hpt cw
                          have cw := HL3.out.cell hk3
                          unfold pt at cw
                          have hwk := HL3.out.hold.wri k hk3
                          have hmk := HL3.out.mine hk3
                          rw [setW_same] at hwk hmk
                          have HWK := Lib.hid hwk
                          have HMK := Lib.hid hmk
                          clear hwk hmk
                          generalize setW (Ws) k offW = Ws3 at HL3 HMK
                          generalize setZ (setZ Z 0 O') (k + 1) X' = Z3 at HL3 HWK
                          generalize cancelW s (Ws k) = s3 at HL3 HMK
                          go_wp2_with fail
                          refine (pDone17_any (Z3 0) (Z3 (k + 1)) (fs k) p s3 offW w3 HL3.out.hold.sto HL3.out.hold.ok HWK.out (HL3.out.apart (by omega))).mono ?_
                          rw [done_off]
                          rintro e w4 ⟨v, O4, X4, F4, rfl, hp', hx', ho, hno, hnx, -, hd, -, -⟩
                          have HL4 := Lib.hid (HL3.out.wrote hk3 hp' hx' ho hno hnx hd HL3.out.hold.ok HMK.out (fun _ => rfl) (Nat.zero_le _) rfl)
                          clear hp' hx' ho hno hnx hd cw
                          go_wp2_with fail
                          refine (pNew17_any p w4).mono ?_
                          rintro e w5 ⟨⟨f5, X5, rfl, hx5, hn5⟩, x5⟩
                          obtain ⟨Z5, hl5⟩ := HL4.out.anew hk3 (by rw [setW_same]; rfl) hx5 hn5 x5
                          have hcell := (HL4.out.ext x5).cell hk3
                          have hfree := (HL4.out.ext x5).arr.free k
                          have HL5 := Lib.hid hl5
                          clear hx5 hn5 x5 hl5
                          go_wp2_with fail
                          go_meet
                          exact ⟨Z5, s3, _, _, fl, HL5.out, by omega⟩
                        · -- a file is dropped
                          have HL4 := Lib.hid (HLZ.out.more (Nat.le_succ c))
                          have t0 : (((kk : Nat) : Int) % 4 == 0) = false := by rw [hkq]; rfl
                          have t1 : (((kk : Nat) : Int) % 4 == 1) = false := by rw [hkq]; rfl
                          have t2 : (((kk : Nat) : Int) % 4 == 2) = false := by rw [hkq]; rfl
                          clear hkq
                          by_cases hz : 0 < NF
                          · have d0 : decide ((NF : Int) > 0) = true := decide_eq_true (by omega)
                            have d0' : decide (0 < NF) = true := decide_eq_true hz
                            have q0 : ((NF : Int) == 0) = false := by simp; omega
                            obtain ⟨n, hn, hnN⟩ : ∃ n : Nat, (ww : Int) % (NF : Int) = n ∧ n < NF := ⟨ww % NF, by rw [Int.natCast_emod], Nat.mod_lt _ hz⟩
                            have hn2 : (ww : Int).tmod (NF : Int) = n := by rw [Int.tmod_eq_emod_of_nonneg (by omega)]; exact hn
                            have hnf : n < fl.length := by rw [← HNFL.out]; exact hnN
                            have c1 := HC1.out.cell 1 _ rfl
                            rcases HLZ.out.files.2 with ⟨-, h0⟩ | ⟨gf, cap, cur, he, -⟩
                            · rw [HNF.out] at h0
                              omega
                            simp only [Value.slice.injEq] at he
                            obtain ⟨rfl, -, rfl⟩ := he
                            have hcf : ∀ W (Z : Nat → Nat → Prop) s fs Ws fl', LawI w w1.heap.size (c + 1) W p gw (.slice (some ⟨gf, 0, none⟩) NF fc) (fl.map fun e => e.1) Z s fs Ws fl' → W.cell? ⟨gf, n, none⟩ = some (.pointer (some ⟨fl[n].1, 0, none⟩)) := fun W Z s fs Ws fl' h => by
                              have h2 := h.files
                              rw [HNF.out] at h2
                              have h3 := h2.cellAt n (by omega)
                              rw [List.getElem?_map, List.getElem?_map, List.getElem?_eq_getElem hnf] at h3
                              exact h3
                            have HCF := Lib.hid hcf
                            have cf := hcf _ _ _ _ _ _ HL4.out
                            clear hcf
                            have HFS := Lib.hid (fun ids m => fst_set fl hnf ids m)
                            have HSTO := Lib.hid (HLZ.out.hold.fil n hnf)
                            have HDR := Lib.hid (fun (w' : World) (O' F' : Nat → Prop) (hp' : PSto O' w' p (dropS s (intsN fl[n].2.1))) (hf' : Fil F' w' fl[n].1 p [] 0) ho hno hnf' hd => HL4.out.dropped (w' := w') (O' := O') (F' := F') hnf hp' hf' ho hno hnf' hd)
                            generalize fl[n] = en at HCF cf HFS HSTO HDR
                            go_wp2_with fail
                            refine (pDrop17_any (Z 0) (Z (5 + n)) en.1 p s en.2.1 en.2.2 wr HLZ.out.hold.sto HLZ.out.hold.ok HSTO.out (HLZ.out.apart (by omega))).mono ?_
                            rintro e w3 ⟨O', F', rfl, hp', hf', ho, hno, hnf', hd⟩
                            have HL3 := Lib.hid (HDR.out w3 O' F' hp' hf' ho hno hnf' hd)
                            have HF3 := Lib.hid hf'
                            clear hp' hf' ho hno hnf' hd cf c1 HSTO HDR
                            have cf := HCF.out _ _ _ _ _ _ HL3.out
                            have q1 : (((0 : Nat) : Int) != 0) = false := rfl
                            go_wp2_with fail
                            refine (pMany17_any F' en.1 p [] 0 w3 HF3.out).mono ?_
                            rintro e w4 ⟨rfl, x4⟩
                            have HL5 := Lib.hid (HL3.out.ext x4)
                            have HF4 := Lib.hid (HF3.out.keep (OnlyS.of_ext (X := fun _ => False) x4) (fun _ h => h.elim))
                            clear x4 cf
                            have cf := HCF.out _ _ _ _ _ _ HL5.out
                            go_wp2_with fail
                            refine (pPages17_any F' en.1 p [] 0 w4 HF4.out).mono ?_
                            rintro e w5 ⟨⟨v5, rfl, hr5, -⟩, x5⟩
                            obtain ⟨a5, c5, rfl, -, -, -⟩ := RdV.cellsAt hr5
                            rw [show (ivs []).length = 0 from rfl]
                            have HL6 := Lib.hid (HL5.out.ext x5)
                            clear hr5 x5 cf
                            go_wp2_with fail
                            go_meet
                            exact ⟨_, _, _, _, fl.set n (en.1, [], 0), by rw [HFS.out]; exact HL6.out, by rw [List.length_set]; omega⟩
                          · have d0 : decide ((NF : Int) > 0) = false := decide_eq_false (by omega)
                            have d0' : decide (0 < NF) = false := decide_eq_false hz
                            go_wp2_with fail
                            go_meet
                            exact ⟨_, _, _, _, fl, HL4.out, by omega⟩
                      case rest =>
                      obtain ⟨Z2, s2, fs2, Ws2, fl2, hl2, hn2⟩ := hcut
                      clear HLZ HAZ HC1 HNF HNFL hNF60 hkq hfc1 hfc2 HGA HFIT HRV HLL hfl
                      obtain ⟨fa2, fc2, rfl, hgc1, hgc2⟩ := own_shapeP hl2.files
                      unfold maxLen at hgc2
                      obtain ⟨NG, hNG⟩ : ∃ NG, (fl2.map fun e => e.1).length = NG := ⟨_, rfl⟩
                      have HNG := Lib.hid hNG
                      have HNL := Lib.hid (show fl2.length = NG from by rw [← hNG, List.length_map])
                      rw [hNG] at hl2 hgc1 ⊢
                      have hNG60 : NG ≤ 60 := by have := HNL.out; omega
                      have HPT := Lib.hid hl2.hold.part
                      have HND := Lib.hid (held_nodup hl2.hold.part)
                      have HLEN := Lib.hid hl2.len
                      have HUS := Lib.hid (show (filesW fl2).length ≤ usedS s2 from by rw [hl2.used]; exact held_length Ws2 fl2)
                      have HUS40 := Lib.hid (show usedS s2 ≤ 40 from by have : usedS s2 ≤ s2.length := List.countP_le_length; rw [hl2.len] at this; exact this)
                      have HBM := Lib.hid (show w1.heap.size ≤ wc.heap.size ∧ ∀ i, ¬ Z2 i wc.heap.size from ⟨hl2.hold.fam.size, fun i hz => by have := (hl2.hold.fam.lt i _ hz).2; omega⟩)
                      have HLM := Lib.hid (hl2.ext (ext_new wc (.map #[] 0)))
                      have HM0 := Lib.hid (MSet.made wc)
                      have HML := Lib.hid (show wc.heap.size < (wc.alloc (.map #[] 0)).heap.size from by simp only [World.alloc, Array.size_push]; omega)
                      clear hl2 hNG
                      go_wp2_with fail
                      generalize wc.alloc (.map #[] 0) = w7 at HLM HM0 HML ⊢
                      generalize wc.heap.size = bm at HBM HM0 HML ⊢
                      go_loopw [21, 23, 163] (fun _ _ iv wz => ∃ f : Nat, f ≤ NG ∧ iv = .int .i64 f ∧ LawI w w1.heap.size (c + 1) wz p gw (.slice fa2 NG fc2) (fl2.map fun e => e.1) Z2 s2 fs2 Ws2 fl2 ∧ MSet wz bm (intsN (filesW (fl2.take f)))) (fun _ _ iv _ => NG - (intOf iv).toNat)
                      case atStart => exact ⟨0, Nat.zero_le _, rfl, HLM.out, HM0.out⟩
                      case round =>
                        clear HLM HM0
                        obtain ⟨f, hf, rfl, hlz, hms⟩ := hrel
                        have HLZ := Lib.hid hlz
                        have HMS := Lib.hid hms
                        clear hlz hms
                        by_cases hlf : f < NG
                        · have hff : f < fl2.length := by rw [HNL.out]; exact hlf
                          rcases HLZ.out.files.2 with ⟨-, h0⟩ | ⟨gf, cap, cur, he, -⟩
                          · rw [HNG.out] at h0
                            omega
                          simp only [Value.slice.injEq] at he
                          obtain ⟨rfl, -, rfl⟩ := he
                          have cf : wr.cell? ⟨gf, f, none⟩ = some (.pointer (some ⟨fl2[f].1, 0, none⟩)) := by
                            have h2 := HLZ.out.files
                            rw [HNG.out] at h2
                            have h3 := h2.cellAt f (by omega)
                            rw [List.getElem?_map, List.getElem?_map, List.getElem?_eq_getElem hff] at h3
                            exact h3
                          have HFI := Lib.hid (HLZ.out.hold.fil f hff)
                          have HFR := Lib.hid (fun j hj => files_fresh HND.out.1 hff (j := j) hj)
                          have HTK := Lib.hid (files_take fl2 hff)
                          have HSP := Lib.hid (files_split fl2 (f + 1))
                          have HFL2 := Lib.hid (show (filesW (fl2.take f)).length ≤ (filesW fl2).length from by
                            rw [files_split fl2 f, List.length_append]
                            omega)
                          generalize fl2[f] = en at cf HFI HFR HTK
                          obtain ⟨ef, eids, em⟩ := en
                          simp only at cf HFI HFR HTK
                          go_wp2_with fail
                          refine (pPages17_any (Z2 (5 + f)) ef p eids em wr HFI.out).mono ?_
                          rintro e w8 ⟨⟨v8, rfl, hr8, hb8⟩, x8⟩
                          obtain ⟨NI, hNI⟩ : ∃ NI, eids.length = NI := ⟨_, rfl⟩
                          have HNI := Lib.hid hNI
                          obtain ⟨va8, vc8, hve, hvc1, hvc2, -⟩ := RdV.cellsAt hr8
                          have hil : (ivs eids).length = NI := by unfold ivs; rw [List.length_map, hNI]
                          rw [hil] at hve hvc1
                          subst hve
                          unfold maxLen at hvc2
                          have HP8 := Lib.hid (RdV.plainV hr8).2.2.2
                          have HB8 := Lib.hid (show ∀ k, (Value.slice va8 NI vc8).ownBlock = some k → k ≠ bm from fun k hk e => by
                            rcases hb8 k hk with h | h
                            · exact HBM.out.2 (5 + f) (e ▸ h)
                            · have := HMS.out.lt
                              omega)
                          have HL8 := Lib.hid (HLZ.out.ext x8)
                          have HM8 := Lib.hid (HMS.out.onlyS (OnlyS.of_ext (X := fun _ => False) x8) (fun h => h))
                          have HIN := Lib.hid (show ∀ x ∈ eids, x < 40 from fun x hx => by
                            have h := HND.out.2 x (by rw [HSP.out, HTK.out]; simp only [List.mem_append]; exact .inl (.inr hx))
                            rw [HLEN.out] at h
                            exact h)
                          have HCNT := Lib.hid (show (filesW (fl2.take f)).length + NI ≤ 40 from by
                            have h1 := HUS.out
                            have h2 := HUS40.out
                            rw [HSP.out, HTK.out] at h1
                            simp only [List.length_append] at h1
                            have h3 := HNI.out
                            omega)
                          clear hr8 hb8 x8 hil hNI cf HFI HLZ HMS HSP
                          go_wp2_with fail
                          go_loopw [23, 170] (fun _ iv wy => ∃ j : Nat, j ≤ NI ∧ iv = .int .i64 j ∧ LawI w w1.heap.size (c + 1) wy p gw (.slice (some ⟨gf, 0, none⟩) NG fc2) (fl2.map fun e => e.1) Z2 s2 fs2 Ws2 fl2 ∧ MSet wy bm (intsN (filesW (fl2.take f) ++ eids.take j)) ∧ OnlyS (fun b => b = bm) w8 wy) (fun _ iv _ => NI - (intOf iv).toNat)
                          case atStart => exact ⟨0, Nat.zero_le _, rfl, HL8.out, by rw [List.take_zero, List.append_nil]; exact HM8.out, OnlyS.refl _ _⟩
                          case round =>
                            clear HL8 HM8
                            obtain ⟨j, hj, rfl, hly, hmy, hoy⟩ := hrel
                            have HLY := Lib.hid hly
                            have HMY := Lib.hid hmy
                            have HOY := Lib.hid hoy
                            clear hly hmy hoy
                            by_cases hlj : j < NI
                            · have hje : j < eids.length := by rw [HNI.out]; exact hlj
                              obtain ⟨gv, ov, rfl, hcv⟩ := HP8.out j _ (by unfold ivs; rw [List.getElem?_map, List.getElem?_eq_getElem hje]; rfl)
                              have cv := HOY.out.cell hcv (HB8.out gv rfl)
                              have h40 := HIN.out eids[j] (List.getElem_mem hje)
                              have hfr := HFR.out j hje
                              have htk : eids.take (j + 1) = eids.take j ++ [eids[j]] := List.take_succ_eq_append_getElem hje
                              have HTJ := Lib.hid htk
                              generalize eids[j] = x at cv h40 hfr HTJ
                              have hlk := HMY.out.look (x : Nat) (by omega)
                              rw [decide_eq_false (fun hm => by
                                obtain ⟨y, hy, he⟩ := List.mem_map.1 hm
                                obtain rfl : y = x := by omega
                                exact hfr hy)] at hlk
                              obtain ⟨w9, hup, hm9, ho9⟩ := HMY.out.add (x : Nat) (by omega) (by
                                have h1 := HCNT.out
                                unfold intsN
                                rw [List.length_map, List.length_append, List.length_take]
                                unfold maxLen
                                omega)
                              have HM9 := Lib.hid (show MSet w9 bm (intsN (filesW (fl2.take f) ++ eids.take (j + 1))) from by
                                rw [HTJ.out, ← List.append_assoc]
                                unfold intsN at hm9 ⊢
                                rw [List.map_append]
                                exact hm9)
                              have HL9 := Lib.hid (HLY.out.elsewhere ho9 (fun b hb => by rw [hb]; exact HBM.out))
                              have HO9 := Lib.hid (HOY.out.trans ho9 (fun _ _ h => h))
                              unfold iv at cv
                              clear hm9 ho9 hcv hfr htk
                              go_wp2_with fail
                              go_roundw
                              case rel => exact ⟨j + 1, by omega, by go_num, HL9.out, HM9.out, HO9.out⟩
                              case measure => simp [intOf]; omega
                            · obtain rfl : j = NI := by omega
                              have HMF := Lib.hid (show MSet wr bm (intsN (filesW (fl2.take (f + 1)))) from by
                                have h := HMY.out
                                have e : eids.take j = eids := List.take_of_length_le (by rw [HNI.out]; exact Nat.le_refl _)
                                rw [e] at h
                                rw [HTK.out]
                                exact h)
                              clear HMY
                              go_wp2_with fail
                              go_roundw
                              case rel => exact ⟨f + 1, by omega, by go_num, HLY.out, HMF.out⟩
                              case measure => simp [intOf]; omega
                        · obtain rfl : f = NG := by omega
                          have hall : fl2.take f = fl2 := List.take_of_length_le (by rw [HNL.out]; exact Nat.le_refl _)
                          rw [hall] at HMS
                          clear hall
                          obtain ⟨nm, hnm, hln⟩ := HMS.out.len 3
                          have hnm2 : nm ≤ usedS s2 := by
                            have h := HUS.out
                            unfold intsN at hnm
                            rw [List.length_map] at hnm
                            omega
                          clear hnm
                          go_wp2_with fail
                          refine (pUsed_any HLZ.out.hold.sto).mono ?_
                          rintro e w9 ⟨rfl, x9⟩
                          have HL9 := Lib.hid (HLZ.out.ext x9)
                          have hu40 := HUS40.out
                          generalize usedS s2 = U at hnm2 hu40 ⊢
                          have d9 : decide ((nm : Int) > (U : Int)) = false := decide_eq_false (by omega)
                          have d9' : decide (U < nm) = false := decide_eq_false (by omega)
                          clear x9
                          go_wp2_with fail
                          refine ⟨?_, ?measure⟩
                          (repeat apply Exists.intro)
                          refine ⟨?relX, ?eqX⟩
                          case eqX => rfl
                          case relX => exact ⟨c + 1, Z2, s2, fs2, Ws2, fl2, by omega, by go_num, HL9.out, hn2, by omega⟩
                          case measure => simp [intOf]; omega
            · have HLX := Lib.hid (HL.out.more hc60)
              go_wp2_with fail
              go_meet
              exact ⟨Z, s, fs, Ws, fl, HLX.out, by omega⟩
        case rest =>
        obtain ⟨Z, s, fs, Ws, fl, hlaw, hfl⟩ := hcut
        clear HLAW HAT HF HM hu1 hu2
        obtain ⟨fa, fc, rfl, hfc1, hfc2⟩ := own_shapeP hlaw.files
        unfold maxLen at hfc2
        obtain ⟨NF, hNF⟩ : ∃ NF, (fl.map fun e => e.1).length = NF := ⟨_, rfl⟩
        have HNF := Lib.hid hNF
        have HNL := Lib.hid (show fl.length = NF from by rw [← hNF, List.length_map])
        rw [hNF] at hlaw hfc1 ⊢
        have hNF60 : NF ≤ 60 := by have := HNL.out; omega
        have HL := Lib.hid hlaw
        clear hlaw hNF hfl
        go_wp2_with fail
        go_loopw [24, 187] (fun _ iv wr => ∃ (k : Nat) (Z : Nat → Nat → Prop) (s : St) (Ws : Nat → Wr17), k ≤ 3 ∧ iv = .int .i64 k ∧ LawI w w1.heap.size 60 wr p gw (.slice fa NF fc) (fl.map fun e => e.1) Z s fs Ws fl ∧ ∀ j, j < k → (Ws j).ids = []) (fun _ iv _ => 3 - (intOf iv).toNat)
        case atStart => exact ⟨0, Z, s, Ws, by omega, rfl, HL.out, fun j hj => absurd hj (Nat.not_lt_zero _)⟩
        case round =>
          clear HL
          obtain ⟨k, Z, s, Ws, hk, rfl, hl, hz⟩ := hrel
          have HL := Lib.hid hl
          have HZ := Lib.hid hz
          clear hl hz
          by_cases hk3 : k < 3
          · have cw := HL.out.cell hk3
            unfold pt at cw
            go_wp2_with fail
            refine (pCancel17_any (Z 0) (Z (k + 1)) (fs k) p s (Ws k) wr HL.out.hold.sto HL.out.hold.ok (HL.out.hold.wri k hk3) (HL.out.apart (by omega))).mono ?_
            rintro e w3 ⟨O', X', rfl, hp', hx', ho, hno, hnx, hd⟩
            have hpt := cancelW_part (HL.out.mine hk3) (HL.out.hold.off k hk3)
            have HL3 := Lib.hid (HL.out.wrote hk3 hp' hx' ho hno hnx hd (cancelW_ok HL.out.hold.ok _) hpt (fun _ => rfl) (Nat.zero_le _) (cancelW_length _ _))
            clear hp' hx' ho hno hnx hd hpt cw
            go_wp2_with fail
            refine ⟨?_, ?measure⟩
            (repeat apply Exists.intro)
            refine ⟨?relX, ?eqX⟩
            case eqX => rfl
            case relX =>
              exact ⟨k + 1, _, _, _, by omega, by go_num, HL3.out, fun j hj => by
                unfold setW
                by_cases e : j = k
                · rw [if_pos e]
                  rfl
                · rw [if_neg e]
                  exact HZ.out j (by omega)⟩
            case measure => simp [intOf]; omega
          · obtain rfl : k = 3 := by omega
            have HUE := Lib.hid (show usedS s = (filesW fl).length from by rw [HL.out.used, held_bare fl (fun k hk => HZ.out k hk)])
            have HUS40 := Lib.hid (show usedS s ≤ 40 from by have : usedS s ≤ s.length := List.countP_le_length; rw [HL.out.len] at this; exact this)
            go_wp2_with fail
            go_loopw [25, 27, 197] (fun nv _ iv wz => ∃ f : Nat, f ≤ NF ∧ iv = .int .i64 f ∧ nv = .int .i64 ((filesW (fl.take f)).length : Nat) ∧ LawI w w1.heap.size 60 wz p gw (.slice fa NF fc) (fl.map fun e => e.1) Z s fs Ws fl) (fun _ _ iv _ => NF - (intOf iv).toNat)
            case atStart => exact ⟨0, Nat.zero_le _, rfl, rfl, HL.out⟩
            case round =>
              clear HL
              obtain ⟨f, hf, rfl, rfl, hl⟩ := hrel
              have HL := Lib.hid hl
              clear hl
              by_cases hlf : f < NF
              · have hff : f < fl.length := by rw [HNL.out]; exact hlf
                rcases HL.out.files.2 with ⟨-, h0⟩ | ⟨gf, cap, cur, he, -⟩
                · rw [HNF.out] at h0
                  omega
                simp only [Value.slice.injEq] at he
                obtain ⟨rfl, -, rfl⟩ := he
                have cf : wr.cell? ⟨gf, f, none⟩ = some (.pointer (some ⟨fl[f].1, 0, none⟩)) := by
                  have h2 := HL.out.files
                  rw [HNF.out] at h2
                  have h3 := h2.cellAt f (by omega)
                  rw [List.getElem?_map, List.getElem?_map, List.getElem?_eq_getElem hff] at h3
                  exact h3
                have HFI := Lib.hid (HL.out.hold.fil f hff)
                have HTK := Lib.hid (show (filesW (fl.take (f + 1))).length = (filesW (fl.take f)).length + fl[f].2.1.length from by rw [files_take fl hff, List.length_append])
                have HSP := Lib.hid (show (filesW (fl.take (f + 1))).length ≤ usedS s from by
                  rw [HUE.out, files_split fl (f + 1), List.length_append]
                  omega)
                generalize fl[f] = en at cf HFI HTK
                obtain ⟨ef, eids, em⟩ := en
                simp only at cf HFI HTK
                go_wp2_with fail
                refine (pPages17_any (Z (5 + f)) ef p eids em wr HFI.out).mono ?_
                rintro e w8 ⟨⟨v8, rfl, hr8, -⟩, x8⟩
                obtain ⟨va8, vc8, rfl, hvc1, hvc2, -⟩ := RdV.cellsAt hr8
                have hil : (ivs eids).length = eids.length := by unfold ivs; rw [List.length_map]
                rw [hil] at hvc1 ⊢
                have HL8 := Lib.hid (HL.out.ext x8)
                have hsum : (filesW (fl.take f)).length + eids.length ≤ 40 := by
                  have h1 := HSP.out
                  have h2 := HUS40.out
                  have h3 := HTK.out
                  omega
                unfold maxLen at hvc2
                generalize (filesW (fl.take f)).length = T1 at hsum HTK ⊢
                generalize eids.length = T2 at hsum HTK hvc1 ⊢
                clear hr8 x8 hil cf
                go_wp2_with fail
                refine ⟨?_, ?measure⟩
                (repeat apply Exists.intro)
                refine ⟨?relX, ?eqX⟩
                case eqX => rfl
                case relX => exact ⟨f + 1, by omega, by go_num, by rw [HTK.out]; go_num, HL8.out⟩
                case measure => simp [intOf]; omega
              · obtain rfl : f = NF := by omega
                have hall : fl.take f = fl := List.take_of_length_le (by rw [HNL.out]; exact Nat.le_refl _)
                have HTT := Lib.hid (show (filesW (fl.take f)).length = usedS s from by rw [hall, HUE.out])
                rw [HTT.out]
                clear hall HTT
                go_wp2_with fail
                refine (pUsed_any HL.out.hold.sto).mono ?_
                rintro e w9 ⟨rfl, x9⟩
                have HL9 := Lib.hid (HL.out.ext x9)
                have hu40 := HUS40.out
                generalize usedS s = U at hu40 ⊢
                have q9 : ((U : Int) != (U : Int)) = false := bne_self_eq_false _
                have q9' : (U != U) = false := bne_self_eq_false _
                clear x9 HUE HUS40 HL
                go_wp2_with fail
                go_loopw [29, 213] (fun _ iv wz => ∃ (i : Nat) (Z : Nat → Nat → Prop) (s : St) (fl' : List (Nat × List Nat × Nat)), i ≤ f ∧ iv = .int .i64 i ∧ LawI w w1.heap.size 60 wz p gw (.slice fa f fc) (fl.map fun e => e.1) Z s fs Ws fl' ∧ fl'.length = f ∧ (fl'.map fun e => e.1) = (fl.map fun e => e.1) ∧ ∀ j, (hj : j < fl'.length) → j < i → fl'[j].2.1 = []) (fun _ iv _ => f - (intOf iv).toNat)
                case atStart => exact ⟨0, Z, s, fl, Nat.zero_le _, rfl, HL9.out, HNL.out, rfl, fun j _ h => absurd h (Nat.not_lt_zero _)⟩
                case round =>
                  clear HL9
                  obtain ⟨i, Z, s, fl', hi, rfl, hl, hln, hmp, hem⟩ := hrel
                  have HL := Lib.hid hl
                  have HLN := Lib.hid hln
                  have HMP := Lib.hid hmp
                  have HEM := Lib.hid hem
                  clear hl hln hmp hem
                  by_cases hli : i < f
                  · have hif : i < fl'.length := by rw [HLN.out]; exact hli
                    rcases HL.out.files.2 with ⟨-, h0⟩ | ⟨gf, cap, cur, he, -⟩
                    · rw [HNF.out] at h0
                      omega
                    simp only [Value.slice.injEq] at he
                    obtain ⟨rfl, -, rfl⟩ := he
                    have cf : wr.cell? ⟨gf, i, none⟩ = some (.pointer (some ⟨fl'[i].1, 0, none⟩)) := by
                      have h2 := HL.out.files
                      rw [HNF.out, ← HMP.out] at h2
                      have h3 := h2.cellAt i (by omega)
                      rw [List.getElem?_map, List.getElem?_map, List.getElem?_eq_getElem hif] at h3
                      exact h3
                    have HFI := Lib.hid (HL.out.hold.fil i hif)
                    have HFS := Lib.hid (fun ids m => fst_set fl' hif ids m)
                    have HDR := Lib.hid (fun (w' : World) (O' F' : Nat → Prop) (hp' : PSto O' w' p (dropS s (intsN fl'[i].2.1))) (hf' : Fil F' w' fl'[i].1 p [] 0) ho hno hnf' hd => HL.out.dropped (w' := w') (O' := O') (F' := F') hif hp' hf' ho hno hnf' hd)
                    generalize hen : fl'[i] = en at cf HFI HFS HDR
                    clear hen
                    go_wp2_with fail
                    refine (pDrop17_any (Z 0) (Z (5 + i)) en.1 p s en.2.1 en.2.2 wr HL.out.hold.sto HL.out.hold.ok HFI.out (HL.out.apart (by omega))).mono ?_
                    rintro e w3 ⟨O', F', rfl, hp', hf', ho, hno, hnf', hd⟩
                    have HL3 := Lib.hid (HDR.out w3 O' F' hp' hf' ho hno hnf' hd)
                    clear hp' hf' ho hno hnf' hd cf HDR
                    go_wp2_with fail
                    go_roundw
                    case rel =>
                      exact ⟨i + 1, _, _, fl'.set i (en.1, [], 0), by omega, by go_num, HL3.out, by rw [List.length_set]; exact HLN.out, (HFS.out [] 0).trans HMP.out, fun j hj hj2 => by
                        rw [List.getElem_set]
                        by_cases e : i = j
                        · rw [if_pos e]
                        · rw [if_neg e]
                          exact HEM.out j (by rw [List.length_set] at hj; exact hj) (by omega)⟩
                    case measure => simp [intOf]; omega
                  · have HU0 := Lib.hid (show usedS s = 0 from by
                      rw [HL.out.used, held_bare fl' (fun k hk => HZ.out k hk), files_none (fun j hj => HEM.out j hj (by have := HLN.out; omega))]
                      rfl)
                    go_wp2_with fail
                    refine (pUsed_any HL.out.hold.sto).mono ?_
                    rw [HU0.out]
                    rintro e w9 ⟨rfl, x9⟩
                    have HFIN := Lib.hid (HL.out.ext x9).below
                    have q0 : (((0 : Nat) : Int) == 0) = true := rfl
                    clear x9
                    go_wp2_with fail
                    go_ret
                    exact ⟨rfl, HFIN.out⟩
  · exact absurd (by decide) hbad

end Go.Proofs.Ytoagpaphghgkmaa
