/-
  The walk of the law CrcOfs.
-/
import Derived.Test.YtljcbnninipnhaaCrcShown
namespace Go.Proofs.Ytljcbnninipnhaa
open Go.RowKit

set_option maxRecDepth 100000 in
set_option maxHeartbeats 1000000 in
theorem crcOfs_walk (n : Int) (v : Value) (l : List UInt8) (w : World) (hn : 0 ≤ n ∧ n ≤ 4294967295) (hr : Rd w v l) :
    Calls Try.prog 3 #[.int .u32 n, v] w fun e w' => e = .returned (.bool true) ∧ Below w.heap.size w w' := by
  obtain ⟨s, hs⟩ : ∃ s : BitVec 32, n = s.toNat := ⟨BitVec.ofNat 32 n.toNat, by rw [BitVec.toNat_ofNat, Nat.mod_eq_of_lt (by omega)]; omega⟩
  subst hs
  have HR := Lib.hid hr
  clear hr hn
  have H5 := Lib.hid (few_any v l)
  generalize l.take 5000 = x at H5
  obtain ⟨S, hS⟩ : ∃ S, S = s.toNat := ⟨_, rfl⟩
  have HM := Lib.hid (fun v l w h => More_any s v l w h)
  have HM2 := Lib.hid (fun v l w h => refMore_any s v l w h)
  rw [← hS] at HM HM2 ⊢
  clear hS
  go_enter Try.func3, Try.ntmps3
  go_wp2_with fail
  refine (H5.out _ HR.out).mono ?_
  rintro e w' ⟨⟨xv, rfl, hrx⟩, rfl⟩
  have HX := Lib.hid hrx
  clear hrx
  go_wp2_with fail
  refine (shown_any _).mono ?_
  rintro e w1 ⟨rfl, hb1⟩
  have H1 := Lib.hid hb1
  clear hb1
  go_wp2_with fail
  refine (Of_any _ x _ (HX.out.mono H1.out)).mono ?_
  rintro e w2 ⟨rfl, hb2⟩
  have H2 := Lib.hid (Ext.trans H1.out hb2)
  clear hb2
  generalize hq : (sumOf x).toNat = q
  go_wp2_with fail
  refine (refOf_any _ x _ (HX.out.mono H2.out)).mono ?_
  rintro e w3 ⟨rfl, rfl⟩
  rw [hq]
  clear hq
  go_wp2_with fail
  refine (HM.out _ x _ (HX.out.mono H2.out)).mono ?_
  rintro e w3 ⟨rfl, hb3⟩
  have H3 := Lib.hid (Ext.trans H2.out hb3)
  clear hb3
  generalize hq : (more s x).toNat = q2
  go_wp2_with fail
  refine (HM2.out _ x _ (HX.out.mono H3.out)).mono ?_
  rintro e w4 ⟨rfl, rfl⟩
  rw [hq]
  clear hq
  go_wp2_with fail
  go_ret
  exact ⟨rfl, H3.out⟩

end Go.Proofs.Ytljcbnninipnhaa
