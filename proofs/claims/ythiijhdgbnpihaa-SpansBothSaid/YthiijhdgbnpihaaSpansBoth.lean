/-
  The walk of the law SpansBoth.
-/
import Derived.Test.YthiijhdgbnpihaaSpansTell
namespace Go.Proofs.Ythiijhdgbnpihaa
open Go.RowKit Go.BigFrame

theorem sps_oneCell (l : List Sp) : ∀ u ∈ l.flatMap Sp.cells, u.oneCell' = true := by
  intro u hu
  obtain ⟨s, _, h⟩ := List.mem_flatMap.1 hu
  exact sp_oneCell s u h

/-- append(l, x...) of spans. -/
theorem wpList_append_sps {ops : Array Oper} {rest : List Oper} {o : Oper} {a : Act} {Q : Exit → Act → World → Prop} {w : World} (hgd : o.guard = none) (s x : Operand)
    (ho : o.op = .call { callee := .builtin .append, args := #[s, x], argTypes := #[24, 24] })
    (base : Nat) (v : Value) (ps : List Sp) (hs : a.eval s = v) (hown : w.ownsRow base 39 2 v ps.length (ps.flatMap Sp.cells))
    (u : Value) (l : List Sp) (hx : a.eval x = u) (hu : RdSp w u l) (hp : ps.length + l.length ≤ 1000000) (hbase : base ≤ w.heap.size)
    (h : ∀ v' w', w'.ownsRow base 39 2 v' (ps ++ l).length ((ps ++ l).flatMap Sp.cells) → Below base w w' → wpList Try.prog ops Q rest (a.put o.dst v') w') :
    wpList Try.prog ops Q (o :: rest) a w := by
  obtain ⟨i0, hi, hz0, hz1, hz2⟩ := info_parts Try.info_span
  obtain ⟨ao, cap, rfl, h2, h3, h4, h0⟩ := hu
  cases ao with
  | none =>
    obtain rfl := h0 rfl
    obtain rfl : l = [] := List.length_eq_zero_iff.1 (by omega)
    refine wpList_append_own_none hgd s x 24 ho base 39 i0 2 Try.underlying24 hi v _ _ hs hown hx (h v w ?_ (Below.refl _ _))
    simpa using hown
  | some ad =>
    have hcells : ∀ i u, (l.flatMap Sp.cells)[i]? = some u → w.cell? (ad.add i) = some u := fun i u hu => by
      have hi2 : i < l.length * 2 := by
        have := (List.getElem?_eq_some_iff.1 hu).1
        rwa [spCells_length] at this
      have hj : i / 2 < l.length := by omega
      obtain ⟨g, off, he, hc0, hc1⟩ := h4 (i / 2) hj
      simp only [Option.some.injEq] at he
      subst he
      have hsc := spCells l (i / 2) hj
      rw [add_at]
      rcases Nat.mod_two_eq_zero_or_one i with hm | hm
      · have e : i = i / 2 * 2 := by omega
        have hu' := hu
        rw [e] at hu'
        rw [hsc.1] at hu'
        cases hu'
        rw [show off + i = off + i / 2 * 2 by omega]
        exact hc0
      · have e : i = i / 2 * 2 + 1 := by omega
        have hu' := hu
        rw [e] at hu'
        rw [hsc.2] at hu'
        cases hu'
        have h5 := hc1
        rw [show off + i = off + i / 2 * 2 + 1 by omega]
        exact h5
    refine wpList_append_own _ hgd s x 24 ho base 39 i0 _ 2 16 Try.underlying24 hi hz0 hz1 hz2 rfl (by decide) v ps.length _ hs hown ad l.length cap (l.flatMap Sp.cells) hx (spCells_length l) hcells (sps_oneCell l) (by unfold maxLen; omega) (by omega) hbase fun v' w' k1 k2 _ => h v' w' ?_ ?_
    · rw [List.length_append, List.flatMap_append]
      exact k1
    · exact (Below.refl base w).grown k2 hbase (fun b hb => (hown.lt b hb).1)

theorem empty_sp (w : World) : (w.alloc (.cells #[] 39)).ownsRow w.heap.size 39 2 (.slice (some ⟨w.heap.size, 0, none⟩) 0 0) 0 [] := World.ownsRow_made w #[] 0 (Nat.le_refl _) (by simp [maxLen]) rfl

/-- The places where a span's To may be set. -/
def ToQ (w : World) (ao : Option Addr) (n : Nat) : Prop := ∀ j, j < n → ∃ g off t, ao = some ⟨g, off, none⟩ ∧ w.cell? ⟨g, off + j * 2 + 1, none⟩ = some (.int .i64 t) ∧ w.frozen? ⟨g, off + j * 2 + 1, none⟩ = false
theorem ToQ.put {w : World} {g off n : Nat} (h : ToQ w (some ⟨g, off, none⟩) n) (j : Nat) (z : Int) : ToQ (w.setCell ⟨g, off + j * 2 + 1, none⟩ (.int .i64 z)) (some ⟨g, off, none⟩) n := by
  intro i hi
  obtain ⟨g', off', t, he, hc, hf⟩ := h i hi
  simp only [Option.some.injEq, Addr.mk.injEq, and_true] at he
  obtain ⟨rfl, rfl⟩ := he
  by_cases e : i = j
  · subst e
    exact ⟨g, off, z, rfl, World.cell?_setCell_same _ _ _ hc, by simpa [go_sem] using hf⟩
  · exact ⟨g, off, t, rfl, by rw [cell_set_other (.inr (by omega))]; exact hc, by simpa [go_sem] using hf⟩
theorem OwnSp.toQ {base : Nat} {w : World} {v : Value} {l : List Sp} (h : OwnSp base w v l) : ∃ ao cap, v = .slice ao l.length cap ∧ l.length ≤ cap ∧ cap ≤ maxLen ∧ ToQ w ao l.length ∧ ∀ k, v.ownBlock = some k → base ≤ k := by
  have hb := h.block
  rcases h with ⟨rfl, rfl⟩ | ⟨g, off, cap, rfl, h1, h2, h3, h4, h5, h6⟩
  · exact ⟨none, 0, rfl, Nat.le_refl _, by simp [maxLen], fun j hj => by simp at hj, fun k hk => (hb k hk).1⟩
  · exact ⟨_, cap, rfl, h3, h4, fun j hj => ⟨g, off, _, rfl, (h5 j hj).2, by have := h6 (j * 2 + 1) (by omega); rwa [← Nat.add_assoc] at this⟩, fun k hk => (hb k hk).1⟩

set_option maxRecDepth 100000 in
set_option maxHeartbeats 4000000 in
theorem spansBoth_walk (u1 : Value) (l1 : List Sp) (u2 : Value) (l2 : List Sp) (w : World) (hu1 : RdSp w u1 l1) (hf1 : ∀ s ∈ l1, s.fits) (hu2 : RdSp w u2 l2) (hf2 : ∀ s ∈ l2, s.fits) :
    Calls Try.prog 5 #[u1, u2] w fun e w' => e = .returned (.bool true) ∧ Below w.heap.size w w' := by
  have HF1 := Lib.hid (fun W (h : Ext w W) => few_any u1 l1 W (hu1.mono h))
  have HF2 := Lib.hid (fun W (h : Ext w W) => few_any u2 l2 W (hu2.mono h))
  have HI1 := Lib.hid (show ∀ s ∈ l1.take 200, s.fits from fun s hs => hf1 s (List.mem_of_mem_take hs))
  have HI2 := Lib.hid (show ∀ s ∈ l2.take 200, s.fits from fun s hs => hf2 s (List.mem_of_mem_take hs))
  have HL1 := Lib.hid (show (l1.take 200).length ≤ 200 by rw [List.length_take]; omega)
  have HL2 := Lib.hid (show (l2.take 200).length ≤ 200 by rw [List.length_take]; omega)
  obtain ⟨ao, ca, rfl, h1, h2⟩ := hu1.shape
  obtain ⟨bo, cb, rfl, h3, h4⟩ := hu2.shape
  generalize l1.take 200 = x at HF1 HI1 HL1
  generalize l2.take 200 = y at HF2 HI2 HL2
  generalize l1.length = N1 at HF1 h1 ⊢
  generalize l2.length = N2 at HF2 h3 ⊢
  clear hu1 hf1 hu2 hf2
  unfold maxLen at h2 h4
  go_enter Try.func5, Try.ntmps5
  go_wp2_with fail
  refine (shown7_any _).mono ?_
  rintro e w1 ⟨rfl, hx1⟩
  have HX1 := Lib.hid hx1
  clear hx1
  go_wp2_with fail
  refine (HF1.out w1 HX1.out).mono ?_
  rintro e wz ⟨⟨vx, rfl, hvx⟩, rfl⟩
  have HVX := Lib.hid hvx
  clear hvx
  go_wp2_with fail
  refine (HF2.out w1 HX1.out).mono ?_
  rintro e wz ⟨⟨vy, rfl, hvy⟩, rfl⟩
  have HVY := Lib.hid hvy
  clear hvy
  obtain ⟨xo, xc, rfl, hxc, hxm⟩ := HVX.out.shape
  obtain ⟨yo, yc, rfl, hyc, hym⟩ := HVY.out.shape
  have HLX := Lib.hid (show x.length ≤ 200 from HL1.out)
  have HLY := Lib.hid (show y.length ≤ 200 from HL2.out)
  have HE1 := Lib.hid (empty_sp w1)
  have HX1' := Lib.hid (HVX.out.mono (ext_new w1 (.cells #[] 39)))
  generalize hNX : x.length = NX at HVX HX1' hxc
  generalize hNY : y.length = NY at HVY hyc
  have HNX := Lib.hid hNX
  have HNY := Lib.hid hNY
  clear hNX hNY
  unfold maxLen at hxm hym
  go_wp2_with (at_builtin; first | (refine wpList_append_sps rfl (.tmp 24) (.tmp 25) rfl w2.heap.size _ [] rfl HEE.out _ y rfl HY2.out (by have := HLY.out; simp; omega) (by simp) ?_; intro v3 w3 hown3 hb3; have HO3 := Lib.hid hown3; have HE3 := Lib.hid (show Ext w2 w3 from ((Below.refl _ w2).alloc (Nat.le_refl _) _).trans hb3); clear hown3 hb3) | (go_must (refine wpList_append_sps rfl (.tmp 21) (.tmp 22) rfl w1.heap.size _ [] rfl HE1.out _ x rfl HX1'.out (by have := HLX.out; simp; omega) (by simp) ?_); intro v2 w2 hown2 hb2; have HO2 := Lib.hid hown2; have HE2 := Lib.hid (show Ext w1 w2 from ((Below.refl _ w1).alloc (Nat.le_refl _) _).trans hb2); have HY2 := Lib.hid ((HVY.out.mono HE2.out).mono (ext_new w2 (.cells #[] 39))); have HEE := Lib.hid (empty_sp w2); clear hown2 hb2))
  have HX3 := Lib.hid (HVX.out.mono (Ext.trans HE2.out HE3.out))
  have HY3 := Lib.hid (HVY.out.mono (Ext.trans HE2.out HE3.out))
  have HP3 := Lib.hid ((OwnSp.of_owns HO2.out).rd.mono HE3.out)
  have HQ3 := Lib.hid ((OwnSp.of_owns HO3.out).rd)
  have HX30 := Lib.hid (Ext.trans HX1.out (Ext.trans HE2.out HE3.out))
  rw [List.nil_append] at HP3
  rw [List.nil_append] at HQ3
  go_wp2_with fail
  go_loopw [27] (fun i wr => ∃ k : Nat, k ≤ 3 ∧ i = .int .i64 k ∧ Below w3.heap.size w3 wr) (fun i _ => 3 - (intOf i).toNat)
  case atStart => exact ⟨0, by decide, rfl, Below.refl _ _⟩
  case round =>
    obtain ⟨k, hk, rfl, hx⟩ := hrel
    have HX := Lib.hid hx
    clear hx
    have HIX := Lib.hid (fun W (h : Below w3.heap.size w3 W) => (show InSp W _ x from ⟨HX3.out.mono h, by have := HLX.out; have := HNX.out; omega, HI1.out⟩))
    have HIY := Lib.hid (fun W (h : Below w3.heap.size w3 W) => (show InSp W _ y from ⟨HY3.out.mono h, by have := HLY.out; have := HNY.out; omega, HI2.out⟩))
    by_cases hk3 : k < 3
    · have hkk : k = 0 ∨ k = 1 ∨ k = 2 := by omega
      rcases hkk with hkk | hkk | hkk
      · have HDD : k = 0 := by omega
        subst HDD
        go_wp2_with fail
        refine (pAndSp_any _ _ x y _ (HIX.out _ HX.out) (HIY.out _ HX.out)).mono ?_
        rintro e w4 ⟨v4, rfl, ho4, hx4⟩
        have HX4 := Lib.hid (HX.out.trans (hx4.mono HX.out.size))
        have HS4 := Lib.hid HX.out.size
        have HO4 := Lib.hid ho4
        clear hx4 ho4
        go_wp2_with fail
        refine (refAnd_any _ _ x y w4 (HIX.out _ HX4.out).rd (HIY.out _ HX4.out).rd).mono ?_
        rintro e w6 ⟨v6, rfl, ho6, hx6⟩
        have HX6 := Lib.hid (HX4.out.trans (hx6.mono HX4.out.size))
        have HO6 := Lib.hid ho6
        have HC6 := Lib.hid (HO4.out.ext hx6)
        clear hx6 ho6
        generalize andS x y = R at HC6 HO6 ⊢
        obtain ⟨r1, r2⟩ := R
        simp only at HC6 HO6 ⊢
        have hrr : (r2 == r2) = true := beq_self_eq_true _
        go_wp2_with fail
        refine (refSame_any _ _ r1 r1 w6 HC6.out.rd HO6.out.rd).mono ?_
        rintro e w7 ⟨rfl, hx7⟩
        rw [decide_eq_true rfl]
        have HX7 := Lib.hid (HX6.out.trans (hx7.mono HX6.out.size))
        obtain ⟨co, cc, rfl, hcc, hcm, htq, hcb⟩ := (HC6.out.ext hx7).toQ
        have HTQ := Lib.hid htq
        have HCB := Lib.hid (fun k hk => Nat.le_trans HS4.out (hcb k hk))
        generalize r1.length = M at hcc HTQ HCB ⊢
        unfold maxLen at hcm
        clear hx7 htq hcb HC6 HO6 HO4
        go_wp2_with fail
        clear hrr
        go_loopw [71] (fun i wz => ∃ j : Nat, j ≤ M ∧ i = .int .i64 j ∧ ToQ wz co M ∧ Below w3.heap.size w3 wz) (fun i _ => M - (intOf i).toNat)
        case atStart => exact ⟨0, Nat.zero_le _, rfl, HTQ.out, HX7.out⟩
        case round =>
          obtain ⟨j, hj, rfl, htq, hx⟩ := hrel
          have HTZ := Lib.hid htq
          have HXZ := Lib.hid hx
          clear htq hx
          by_cases hlt : j < M
          · obtain ⟨g, off, t, rfl, hc, hf⟩ := HTZ.out j hlt
            have HBZ := Lib.hid (show Below w3.heap.size w3 (wr.setCell ⟨g, off + j * 2 + 1, none⟩ (.int .i64 (-7))) from HXZ.out.trans ((OnlyS.of_onlyP (X := fun b => b = g) (OnlyP.set g (off + j * 2 + 1) wr (.int .i64 (-7))) rfl).below HXZ.out.size (fun b hb => by rw [hb]; exact HCB.out g rfl)))
            have HPZ := Lib.hid (HTZ.out.put j (-7))
            go_wp2_with fail
            go_roundw
            case rel => exact ⟨j + 1, by omega, by go_num, HPZ.out, HBZ.out⟩
            case measure => simp [intOf]; omega
          · go_wp2_with fail
            refine (refSame_any _ _ x x _ (HIX.out _ HXZ.out).rd (HP3.out.mono HXZ.out)).mono ?_
            rintro e w8 ⟨rfl, hx8⟩
            rw [decide_eq_true rfl]
            have HX8 := Lib.hid (HXZ.out.trans (hx8.mono HXZ.out.size))
            clear hx8
            go_wp2_with fail
            refine (refSame_any _ _ y y _ (HIY.out _ HX8.out).rd (HQ3.out.mono HX8.out)).mono ?_
            rintro e w9 ⟨rfl, hx9⟩
            rw [decide_eq_true rfl]
            have HX9 := Lib.hid (HX8.out.trans (hx9.mono HX8.out.size))
            clear hx9
            go_wp2_with fail
            go_roundw
            case rel => exact ⟨1, by decide, by go_num, HX9.out⟩
            case measure => simp [intOf]
      · have HDD : k = 1 := by omega
        subst HDD
        go_wp2_with fail
        refine (pAndSp_any _ _ x y _ (HIX.out _ HX.out) (HIY.out _ HX.out)).mono ?_
        rintro e w4 ⟨v4, rfl, ho4, hx4⟩
        have HX4 := Lib.hid (HX.out.trans (hx4.mono HX.out.size))
        have HS4 := Lib.hid HX.out.size
        have HO4 := Lib.hid ho4
        clear hx4 ho4
        go_wp2_with fail
        clear HO4
        refine (pOrSp_any _ _ x y _ (HIX.out _ HX4.out) (HIY.out _ HX4.out)).mono ?_
        rintro e w5 ⟨v4, rfl, ho4, hx4⟩
        have HX5 := Lib.hid (HX4.out.trans (hx4.mono HX4.out.size))
        have HS5 := Lib.hid HX4.out.size
        have HO4 := Lib.hid ho4
        clear hx4 ho4
        go_wp2_with fail
        refine (refOr_any _ _ x y w5 (HIX.out _ HX5.out).rd (HIY.out _ HX5.out).rd).mono ?_
        rintro e w6 ⟨v6, rfl, ho6, hx6⟩
        have HX6 := Lib.hid (HX5.out.trans (hx6.mono HX5.out.size))
        have HO6 := Lib.hid ho6
        have HC6 := Lib.hid (HO4.out.ext hx6)
        clear hx6 ho6
        generalize orS x y = R at HC6 HO6 ⊢
        obtain ⟨r1, r2⟩ := R
        simp only at HC6 HO6 ⊢
        have hrr : (r2 == r2) = true := beq_self_eq_true _
        go_wp2_with fail
        refine (refSame_any _ _ r1 r1 w6 HC6.out.rd HO6.out.rd).mono ?_
        rintro e w7 ⟨rfl, hx7⟩
        rw [decide_eq_true rfl]
        have HX7 := Lib.hid (HX6.out.trans (hx7.mono HX6.out.size))
        obtain ⟨co, cc, rfl, hcc, hcm, htq, hcb⟩ := (HC6.out.ext hx7).toQ
        have HTQ := Lib.hid htq
        have HCB := Lib.hid (fun k hk => Nat.le_trans HS5.out (hcb k hk))
        generalize r1.length = M at hcc HTQ HCB ⊢
        unfold maxLen at hcm
        clear hx7 htq hcb HC6 HO6 HO4
        go_wp2_with fail
        clear hrr
        go_loopw [71] (fun i wz => ∃ j : Nat, j ≤ M ∧ i = .int .i64 j ∧ ToQ wz co M ∧ Below w3.heap.size w3 wz) (fun i _ => M - (intOf i).toNat)
        case atStart => exact ⟨0, Nat.zero_le _, rfl, HTQ.out, HX7.out⟩
        case round =>
          obtain ⟨j, hj, rfl, htq, hx⟩ := hrel
          have HTZ := Lib.hid htq
          have HXZ := Lib.hid hx
          clear htq hx
          by_cases hlt : j < M
          · obtain ⟨g, off, t, rfl, hc, hf⟩ := HTZ.out j hlt
            have HBZ := Lib.hid (show Below w3.heap.size w3 (wr.setCell ⟨g, off + j * 2 + 1, none⟩ (.int .i64 (-7))) from HXZ.out.trans ((OnlyS.of_onlyP (X := fun b => b = g) (OnlyP.set g (off + j * 2 + 1) wr (.int .i64 (-7))) rfl).below HXZ.out.size (fun b hb => by rw [hb]; exact HCB.out g rfl)))
            have HPZ := Lib.hid (HTZ.out.put j (-7))
            go_wp2_with fail
            go_roundw
            case rel => exact ⟨j + 1, by omega, by go_num, HPZ.out, HBZ.out⟩
            case measure => simp [intOf]; omega
          · go_wp2_with fail
            refine (refSame_any _ _ x x _ (HIX.out _ HXZ.out).rd (HP3.out.mono HXZ.out)).mono ?_
            rintro e w8 ⟨rfl, hx8⟩
            rw [decide_eq_true rfl]
            have HX8 := Lib.hid (HXZ.out.trans (hx8.mono HXZ.out.size))
            clear hx8
            go_wp2_with fail
            refine (refSame_any _ _ y y _ (HIY.out _ HX8.out).rd (HQ3.out.mono HX8.out)).mono ?_
            rintro e w9 ⟨rfl, hx9⟩
            rw [decide_eq_true rfl]
            have HX9 := Lib.hid (HX8.out.trans (hx9.mono HX8.out.size))
            clear hx9
            go_wp2_with fail
            go_roundw
            case rel => exact ⟨2, by decide, by go_num, HX9.out⟩
            case measure => simp [intOf]
      · have HDD : k = 2 := by omega
        subst HDD
        go_wp2_with fail
        refine (pAndSp_any _ _ x y _ (HIX.out _ HX.out) (HIY.out _ HX.out)).mono ?_
        rintro e w4 ⟨v4, rfl, ho4, hx4⟩
        have HX4 := Lib.hid (HX.out.trans (hx4.mono HX.out.size))
        have HS4 := Lib.hid HX.out.size
        have HO4 := Lib.hid ho4
        clear hx4 ho4
        go_wp2_with fail
        clear HO4
        refine (pMinusSp_any _ _ x y _ (HIX.out _ HX4.out) (HIY.out _ HX4.out)).mono ?_
        rintro e w5 ⟨v4, rfl, ho4, hx4⟩
        have HX5 := Lib.hid (HX4.out.trans (hx4.mono HX4.out.size))
        have HS5 := Lib.hid HX4.out.size
        have HO4 := Lib.hid ho4
        clear hx4 ho4
        go_wp2_with fail
        refine (refMinus_any _ _ x y w5 (HIX.out _ HX5.out).rd (HIY.out _ HX5.out).rd).mono ?_
        rintro e w6 ⟨v6, rfl, ho6, hx6⟩
        have HX6 := Lib.hid (HX5.out.trans (hx6.mono HX5.out.size))
        have HO6 := Lib.hid ho6
        have HC6 := Lib.hid (HO4.out.ext hx6)
        clear hx6 ho6
        generalize minusS x y = R at HC6 HO6 ⊢
        obtain ⟨r1, r2⟩ := R
        simp only at HC6 HO6 ⊢
        have hrr : (r2 == r2) = true := beq_self_eq_true _
        go_wp2_with fail
        refine (refSame_any _ _ r1 r1 w6 HC6.out.rd HO6.out.rd).mono ?_
        rintro e w7 ⟨rfl, hx7⟩
        rw [decide_eq_true rfl]
        have HX7 := Lib.hid (HX6.out.trans (hx7.mono HX6.out.size))
        obtain ⟨co, cc, rfl, hcc, hcm, htq, hcb⟩ := (HC6.out.ext hx7).toQ
        have HTQ := Lib.hid htq
        have HCB := Lib.hid (fun k hk => Nat.le_trans HS5.out (hcb k hk))
        generalize r1.length = M at hcc HTQ HCB ⊢
        unfold maxLen at hcm
        clear hx7 htq hcb HC6 HO6 HO4
        go_wp2_with fail
        clear hrr
        go_loopw [71] (fun i wz => ∃ j : Nat, j ≤ M ∧ i = .int .i64 j ∧ ToQ wz co M ∧ Below w3.heap.size w3 wz) (fun i _ => M - (intOf i).toNat)
        case atStart => exact ⟨0, Nat.zero_le _, rfl, HTQ.out, HX7.out⟩
        case round =>
          obtain ⟨j, hj, rfl, htq, hx⟩ := hrel
          have HTZ := Lib.hid htq
          have HXZ := Lib.hid hx
          clear htq hx
          by_cases hlt : j < M
          · obtain ⟨g, off, t, rfl, hc, hf⟩ := HTZ.out j hlt
            have HBZ := Lib.hid (show Below w3.heap.size w3 (wr.setCell ⟨g, off + j * 2 + 1, none⟩ (.int .i64 (-7))) from HXZ.out.trans ((OnlyS.of_onlyP (X := fun b => b = g) (OnlyP.set g (off + j * 2 + 1) wr (.int .i64 (-7))) rfl).below HXZ.out.size (fun b hb => by rw [hb]; exact HCB.out g rfl)))
            have HPZ := Lib.hid (HTZ.out.put j (-7))
            go_wp2_with fail
            go_roundw
            case rel => exact ⟨j + 1, by omega, by go_num, HPZ.out, HBZ.out⟩
            case measure => simp [intOf]; omega
          · go_wp2_with fail
            refine (refSame_any _ _ x x _ (HIX.out _ HXZ.out).rd (HP3.out.mono HXZ.out)).mono ?_
            rintro e w8 ⟨rfl, hx8⟩
            rw [decide_eq_true rfl]
            have HX8 := Lib.hid (HXZ.out.trans (hx8.mono HXZ.out.size))
            clear hx8
            go_wp2_with fail
            refine (refSame_any _ _ y y _ (HIY.out _ HX8.out).rd (HQ3.out.mono HX8.out)).mono ?_
            rintro e w9 ⟨rfl, hx9⟩
            rw [decide_eq_true rfl]
            have HX9 := Lib.hid (HX8.out.trans (hx9.mono HX8.out.size))
            clear hx9
            go_wp2_with fail
            go_roundw
            case rel => exact ⟨3, by decide, by go_num, HX9.out⟩
            case measure => simp [intOf]
    · go_wp2_with fail
      go_ret
      exact ⟨rfl, Ext.trans HX30.out HX.out⟩

end Go.Proofs.Ythiijhdgbnpihaa
