/-
  The walk of the law DeltaSmall.
-/
import Derived.Test.YtepbdlmpknegiaaDeltaBack
namespace Go.Proofs.Ytepbdlmpknegiaa
open Go.ChangeAt Go.RowKit Go.BigFrame

/-- The numbers of small steps. -/
def smallD : Int → List UInt8 → List Int
  | _, [] => []
  | a, c :: l => (a + (((c.toNat : Int) % 248) - 124)) :: smallD (a + (((c.toNat : Int) % 248) - 124)) l
theorem smallD_append (a : Int) (p q : List UInt8) : smallD a (p ++ q) = smallD a p ++ smallD (lastD a (smallD a p)) q := by
  induction p generalizing a with
  | nil => rfl
  | cons c p ih => rw [List.cons_append, smallD, smallD, ih, lastD_cons, List.cons_append]
theorem smallD_length (a : Int) (p : List UInt8) : (smallD a p).length = p.length := by
  induction p generalizing a with
  | nil => rfl
  | cons c p ih => rw [smallD, List.length_cons, ih, List.length_cons]
theorem smallD_snoc (a : Int) (p : List UInt8) (c : UInt8) : smallD a (p ++ [c]) = smallD a p ++ [lastD a (smallD a p) + (((c.toNat : Int) % 248) - 124)] := by
  rw [smallD_append]
  rfl
theorem smallD_fits (p : List UInt8) (a : Int) (k : Nat) (hk : -124 * (k : Int) ≤ a ∧ a ≤ 124 * (k : Int)) (hp : p.length + k ≤ 1000) :
    (∀ x ∈ smallD a p, -124000 ≤ x ∧ x ≤ 124000) ∧ okD a (smallD a p) ∧ (encI (stepsD a (smallD a p))).length = p.length := by
  induction p generalizing a k with
  | nil => exact ⟨fun x hx => (by cases hx), trivial, rfl⟩
  | cons c p ih =>
    rw [List.length_cons] at hp
    have hs : -124 ≤ ((c.toNat : Int) % 248) - 124 ∧ ((c.toNat : Int) % 248) - 124 ≤ 123 := by omega
    unfold smallD
    generalize ((c.toNat : Int) % 248) - 124 = s at hs ⊢
    obtain ⟨i1, i2, i3⟩ := ih (a + s) (k + 1) (by omega) (by omega)
    have e : a + s - a = s := by omega
    refine ⟨fun x hx => ?_, ⟨⟨by omega, by omega⟩, i2⟩, ?_⟩
    · rcases List.mem_cons.1 hx with rfl | hx
      · omega
      · exact i1 x hx
    · rw [stepsD, encI_cons, e, List.length_append, i3, List.length_cons]
      have hz : zig s < 248 := by
        by_cases h : s < 0
        · have := zig_neg s h; omega
        · have := zig_pos s h; omega
      have : (enc (zig s)).length = 1 := by unfold enc; rw [if_pos hz]; rfl
      omega
theorem lastD_all {P : Int → Prop} {a : Int} (ha : P a) {l : List Int} (h : ∀ x ∈ l, P x) : P (lastD a l) := by
  rcases List.eq_nil_or_concat l with rfl | ⟨k, x, rfl⟩
  · exact ha
  · rw [List.concat_eq_append] at h ⊢
    rw [lastD_snoc]
    exact h x (by simp)

set_option maxRecDepth 100000 in
set_option maxHeartbeats 1000000 in
theorem deltaSmall_walk (u : Value) (b : List UInt8) (w : World) (hu : Rd w u b) :
    Calls Try.prog 8 #[u] w fun e w' => e = .returned (.bool true) ∧ Below w.heap.size w w' := by
  obtain ⟨i2, hi2, hx0, hx1, hx2⟩ := info_parts Try.info_int8
  obtain ⟨ao, cap, rfl, h1, h2⟩ := hu.shape
  obtain ⟨-, -, -, hat⟩ := RdV.plainV hu
  have HAT := Lib.hid hat
  obtain ⟨N, hN⟩ : ∃ N, b.length = N := ⟨_, rfl⟩
  have HN := Lib.hid hN
  unfold maxLen at h2
  rw [hN] at h1 ⊢
  clear hat hN hu
  go_enter Try.func8, Try.ntmps8
  go_wp2_with fail
  refine (shown11_any w).mono ?_
  rintro e w1 ⟨rfl, hx1⟩
  have HX1 := Lib.hid hx1
  clear hx1
  go_wp2_with fail
  go_loopw [4, 5, 6, 7, 15] (fun v la _ _ i wr => ∃ k : Nat, k ≤ N ∧ k ≤ 200 ∧ i = .int .i64 k ∧ la = .int .i64 (lastD 0 (smallD 0 (b.take k))) ∧ wr.ownsRow w1.heap.size 3 1 v (smallD 0 (b.take k)).length ((smallD 0 (b.take k)).map (Value.int .i64)) ∧ Below w1.heap.size w1 wr) (fun _ _ _ _ i _ => N - (intOf i).toNat)
  case atStart => exact ⟨0, Nat.zero_le _, Nat.zero_le _, rfl, rfl, ⟨rfl, .inl ⟨rfl, rfl⟩⟩, Below.refl _ _⟩
  case round =>
    obtain ⟨k, hk, hk2, rfl, rfl, hown, hx⟩ := hrel
    have HX := Lib.hid hx
    have HO := Lib.hid hown
    have HFIT := Lib.hid (smallD_fits (b.take k) 0 0 (by omega) (by rw [List.length_take]; omega))
    have HLEN := Lib.hid (show (smallD 0 (b.take k)).length = k by rw [smallD_length, List.length_take]; have := HN.out; omega)
    have HEX := Lib.hid (Ext.trans HX1.out hx)
    clear hx hown
    by_cases hgo : k < N ∧ k < 200
    · obtain ⟨hlt, hlt2⟩ := hgo
      have hkl : k < b.length := by have := HN.out; omega
      obtain ⟨g, off, rfl, hcx⟩ := HAT.out k (.int .u8 (b[k].toNat)) (by rw [List.getElem?_map, List.getElem?_eq_getElem hkl]; rfl)
      have hc := (HEX.out.cell (lt_of_cell hcx)).trans hcx
      have HSN := Lib.hid (show smallD 0 (b.take (k + 1)) = smallD 0 (b.take k) ++ [lastD 0 (smallD 0 (b.take k)) + (((b[k].toNat : Int) % 248) - 124)] by rw [List.take_succ_eq_append_getElem hkl, smallD_snoc])
      have HLB := Lib.hid (lastD_all (P := fun x => -124000 ≤ x ∧ x ≤ 124000) (a := 0) (by omega) HFIT.out.1)
      have hcb : b[k].toNat < 256 := UInt8.toNat_lt _
      generalize b[k].toNat = c at hc HSN hcb
      generalize smallD 0 (b.take k) = p at HO HFIT HLEN HSN HLB ⊢
      have hlb := HLB.out
      generalize lastD 0 p = la at HSN HLB hlb ⊢
      have HZ := Lib.hid HX.out.size
      clear hcx hkl
      go_wp2_with (at_builtin; go_must (refine wpList_append_own _ rfl (.tmp 28) (.tmp 30) 22 rfl w1.heap.size 3 i2 (.int .i64 0) 1 8 Try.underlying22 hi2 hx0 hx1 hx2 rfl (by decide) _ _ _ rfl (HO.out.alloc _) ⟨wr.heap.size, 0, none⟩ 1 1 [_] rfl rfl (row_new _ _ _) (by simp [Value.oneCell']) (by have := HLEN.out; unfold maxLen; omega) (by have := HLEN.out; omega) (by have := HZ.out; simp; omega) ?_); intro v4 w4 hown4 hgrow4 _; have HO4 := Lib.hid hown4; have HB4 := Lib.hid (((Below.refl w1.heap.size wr).alloc HZ.out _).grown hgrow4 (by simp; have := HZ.out; omega) (fun b hb => (HO.out.lt b hb).1)); clear hown4 hgrow4)
      go_roundw
      case rel =>
        refine ⟨k + 1, by omega, by omega, by go_num, ?_, ?_, (show Below w1.heap.size w1 wr from HX.out).trans HB4.out⟩
        · rw [HSN.out, lastD_snoc]
        · rw [HSN.out, List.length_append, List.map_append]
          exact HO4.out
      case measure => simp [intOf]; omega
    · have HXF := Lib.hid (show fitsI (smallD 0 (b.take k)) from fun x hx => by have := HFIT.out.1 x hx; omega)
      have HPUT := Lib.hid (show putS11 (smallD 0 (b.take k)) = (putD (smallD 0 (b.take k)), 0) from putS11_ok (by have := HLEN.out; omega) HFIT.out.2.1)
      have HTK := Lib.hid (show takeS11 (putD (smallD 0 (b.take k))) = (smallD 0 (b.take k), 0) from takeD_yes ⟨HXF.out, HPUT.out⟩)
      have HPL := Lib.hid (show (putD (smallD 0 (b.take k))).length = k + 1 by
        unfold putD
        rw [List.length_append, HFIT.out.2.2, HLEN.out, List.length_take]
        have : (enc k).length = 1 := by unfold enc; rw [if_pos (by omega)]; rfl
        have := HN.out
        omega)
      have hcase : k = N ∨ (k < N ∧ k = 200) := by omega
      have HCELL := Lib.hid (fun (h : k < N) => (show ∃ g off c, ao = some ⟨g, off, none⟩ ∧ wr.cell? ⟨g, off + k, none⟩ = some (.int .u8 c) from by
        have hkl : k < b.length := by have := HN.out; omega
        obtain ⟨g, off, he, hcx⟩ := HAT.out k (.int .u8 (b[k].toNat)) (by rw [List.getElem?_map, List.getElem?_eq_getElem hkl]; rfl)
        exact ⟨g, off, _, he, (HEX.out.cell (lt_of_cell hcx)).trans hcx⟩))
      have HO2 := Lib.hid (RdV.of_owns HO.out)
      obtain ⟨pa, pc, rfl, -, -⟩ := own_shapeP HO.out
      generalize smallD 0 (b.take k) = p at HO2 HXF HPUT HTK HPL HLEN ⊢
      rw [HLEN.out] at HO2 ⊢
      clear hgo
      rcases hcase with rfl | ⟨hlt, rfl⟩
      · go_wp2_with fail
        refine (pPut11_any _ p wr HO2.out (by have := HLEN.out; omega) HXF.out).mono ?_
        rintro e w2 ⟨v2, rfl, ho2, hx2⟩
        rw [HPUT.out] at ho2 ⊢
        simp only at ho2 ⊢
        have HX2 := Lib.hid (Ext.trans HEX.out hx2)
        have HR2 := Lib.hid (show Rd w2 v2 (putD p) from RdV.of_owns ho2)
        have HO3 := Lib.hid (HO2.out.mono hx2)
        obtain ⟨a2, c2, rfl, -, -⟩ := own_shapeP ho2
        rw [HPL.out] at HR2 ⊢
        clear ho2 hx2
        go_wp2_with fail
        refine (pTake11_any _ (putD p) w2 HR2.out (by have := HPL.out; omega)).mono ?_
        rintro e w3 ⟨v3, rfl, ho3, hx3⟩
        rw [HTK.out] at ho3 ⊢
        simp only at ho3 ⊢
        have HX3 := Lib.hid (Ext.trans HX2.out hx3)
        have HIQ := refInts_any v3 _ p p w3 (RdV.of_owns ho3) (HO3.out.mono hx3) (by have := HLEN.out; omega) (by have := HLEN.out; omega)
        rw [decide_eq_true rfl] at HIQ
        have HI := Lib.hid HIQ
        clear ho3 hx3 HIQ
        have q1 : (((k : Int) + 1) == ((k : Int) + 1)) = true := beq_self_eq_true _
        go_wp2_with fail
        refine HI.out.mono ?_
        rintro e w4 ⟨rfl, hx4⟩
        have HX4 := Lib.hid (Ext.trans HX3.out hx4)
        clear hx4
        go_wp2_with fail
        go_ret
        exact ⟨by simp, HX4.out⟩
      · obtain ⟨g, off, c, rfl, hc⟩ := HCELL.out hlt
        go_wp2_with fail
        refine (pPut11_any _ p wr HO2.out (by have := HLEN.out; omega) HXF.out).mono ?_
        rintro e w2 ⟨v2, rfl, ho2, hx2⟩
        rw [HPUT.out] at ho2 ⊢
        simp only at ho2 ⊢
        have HX2 := Lib.hid (Ext.trans HEX.out hx2)
        have HR2 := Lib.hid (show Rd w2 v2 (putD p) from RdV.of_owns ho2)
        have HO3 := Lib.hid (HO2.out.mono hx2)
        obtain ⟨a2, c2, rfl, -, -⟩ := own_shapeP ho2
        rw [HPL.out] at HR2 ⊢
        clear ho2 hx2 hc
        go_wp2_with fail
        refine (pTake11_any _ (putD p) w2 HR2.out (by have := HPL.out; omega)).mono ?_
        rintro e w3 ⟨v3, rfl, ho3, hx3⟩
        rw [HTK.out] at ho3 ⊢
        simp only at ho3 ⊢
        have HX3 := Lib.hid (Ext.trans HX2.out hx3)
        have HIQ := refInts_any v3 _ p p w3 (RdV.of_owns ho3) (HO3.out.mono hx3) (by have := HLEN.out; omega) (by have := HLEN.out; omega)
        rw [decide_eq_true rfl] at HIQ
        have HI := Lib.hid HIQ
        clear ho3 hx3 HIQ
        go_wp2_with fail
        refine HI.out.mono ?_
        rintro e w4 ⟨rfl, hx4⟩
        have HX4 := Lib.hid (Ext.trans HX3.out hx4)
        clear hx4
        go_wp2_with fail
        go_ret
        exact ⟨by simp, HX4.out⟩

end Go.Proofs.Ytepbdlmpknegiaa
