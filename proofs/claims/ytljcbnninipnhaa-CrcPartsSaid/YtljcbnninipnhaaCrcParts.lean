/-
  The walk of the law CrcParts.
-/
import Derived.Test.YtljcbnninipnhaaCrcShown
namespace Go.Proofs.Ytljcbnninipnhaa
open Go.RowKit

set_option maxRecDepth 100000 in
set_option maxHeartbeats 1000000 in
theorem crcParts_walk (n : Int) (v : Value) (l : List UInt8) (u : Value) (m : List UInt8) (w : World) (hn : 0 ≤ n ∧ n ≤ 4294967295) (hr : Rd w v l) (hu : Rd w u m) :
    Calls Try.prog 5 #[.int .u32 n, v, u] w fun e w' => e = .returned (.bool true) ∧ Below w.heap.size w w' := by
  obtain ⟨i0, hi, hz0, hz1, hz2⟩ := info_parts Try.info5
  obtain ⟨s, hs⟩ : ∃ s : BitVec 32, n = s.toNat := ⟨BitVec.ofNat 32 n.toNat, by rw [BitVec.toNat_ofNat, Nat.mod_eq_of_lt (by omega)]; omega⟩
  subst hs
  have HR := Lib.hid hr
  have HU := Lib.hid hu
  clear hr hn hu
  have hx5 : (l.take 5000).length ≤ 5000 := by rw [List.length_take]; omega
  have hy5 : (m.take 5000).length ≤ 5000 := by rw [List.length_take]; omega
  have HF := Lib.hid (few_any v l)
  have HG := Lib.hid (few_any u m)
  generalize l.take 5000 = x at HF hx5
  generalize m.take 5000 = y at HG hy5
  have HBX := Lib.hid (bv_oneCell x)
  have HBY := Lib.hid (bv_oneCell y)
  have HLX := Lib.hid (show (x.map bv).length = x.length from List.length_map _)
  have HLY := Lib.hid (show (y.map bv).length = y.length from List.length_map _)
  have HMA := Lib.hid (more_append s x y)
  obtain ⟨S, hS⟩ : ∃ S, S = s.toNat := ⟨_, rfl⟩
  have HM := Lib.hid (fun v l w h => More_any s v l w h)
  have HM2 := Lib.hid (fun v l w h => More_any (more s x) v l w h)
  generalize hq : (more s x).toNat = q at HM2
  have HQ := Lib.hid hq
  rw [← hS] at HM ⊢
  clear hS hq
  go_enter Try.func5, Try.ntmps5
  go_wp2_with fail
  refine (HF.out _ HR.out).mono ?_
  rintro e w' ⟨⟨xv, rfl, hrx⟩, rfl⟩
  have HX := Lib.hid hrx
  clear hrx
  go_wp2_with fail
  refine (HG.out _ HU.out).mono ?_
  rintro e w' ⟨⟨yv, rfl, hry⟩, rfl⟩
  have HY := Lib.hid hry
  clear hry
  go_wp2_with fail
  refine (shown_any _).mono ?_
  rintro e w1 ⟨rfl, hb1⟩
  have H1 := Lib.hid (show Ext w w1 from hb1)
  have HA := Lib.hid (Ext.trans hb1 ((Below.refl _ w1).alloc (Nat.le_refl _) (.cells #[] 5)))
  have HO := Lib.hid (empty_owned w1)
  clear hb1
  go_wp2_with (first
    | (at_builtin; go_loud (refine wpList_struck (by rfl) ?_); go_loud (refine wpList_append_rd rfl (.tmp 16) (.tmp 17) 23 rfl w1.heap.size 5 i0 (.int .u8 0) 1 Try.underlying23 hi hz0 hz1 hz2 rfl _ _ _ rfl HO.out _ _ rfl (HX.out.mono HA.out) HBX.out (by rw [HLX.out]; unfold maxLen; omega) (by rw [HLX.out]; omega) (by simp) ?_); intro v2 w2 hown2 hgrow2; go_loud (have HB2 := Lib.hid (show Ext w w2 from Ext.trans H1.out (((Below.refl w1.heap.size w1).alloc (Nat.le_refl _) _).grown hgrow2 (by simp) (fun k hk => by cases hk; exact Nat.le_refl _)))); go_loud (have HS2 := Lib.hid (show w1.heap.size ≤ w2.heap.size by have := hgrow2.size; simp at this; omega)))
    | (at_builtin; go_loud (refine wpList_struck (by rfl) ?_); go_loud (refine wpList_append_rd rfl (.tmp 18) (.tmp 19) 23 rfl w1.heap.size 5 i0 (.int .u8 0) 1 Try.underlying23 hi hz0 hz1 hz2 rfl _ _ _ rfl hown2 _ _ rfl (HY.out.mono HB2.out) HBY.out (by rw [HLX.out, HLY.out]; unfold maxLen; omega) (by rw [HLX.out, HLY.out]; omega) HS2.out ?_); intro v3 w3 hown3 hgrow3))
  have HB3 := Lib.hid (show Ext w w3 from HB2.out.grown hgrow3 (Nat.le_trans H1.out.size HS2.out) (fun k hk => by have := (hown2.lt k hk).1; have := H1.out.size; omega))
  have HXY := Lib.hid (show Rd w3 v3 (x ++ y) by have := RdV.of_owns hown3; rwa [List.nil_append, ← List.map_append] at this)
  clear hown2 hgrow2 hown3 hgrow3
  refine (HM.out _ (x ++ y) _ HXY.out).mono ?_
  rintro e w4 ⟨rfl, hb4⟩
  have HB4 := Lib.hid (Ext.trans HB3.out hb4)
  rw [HMA.out]
  clear hb4
  generalize hz : (more (more s x) y).toNat = z
  go_wp2_with fail
  refine (HM.out _ x _ (HX.out.mono HB4.out)).mono ?_
  rintro e w5 ⟨rfl, hb5⟩
  have HB5 := Lib.hid (Ext.trans HB4.out hb5)
  clear hb5
  rw [HQ.out]
  go_wp2_with fail
  refine (HM2.out _ y _ (HY.out.mono HB5.out)).mono ?_
  rintro e w6 ⟨rfl, hb6⟩
  have HB6 := Lib.hid (Ext.trans HB5.out hb6)
  clear hb6
  rw [hz]
  clear hz
  go_wp2_with fail
  go_ret
  exact ⟨rfl, HB6.out⟩

end Go.Proofs.Ytljcbnninipnhaa
