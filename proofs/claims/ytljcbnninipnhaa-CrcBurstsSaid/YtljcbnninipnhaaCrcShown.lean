/-
  'shown' (the document's examples of sums) returns true; 'few' cuts to 5,000 bytes.
-/
import Derived.Test.YtljcbnninipnhaaCrcSeal
namespace Go.Proofs.Ytljcbnninipnhaa
open Go.RowKit

set_option maxRecDepth 100000 in
set_option maxHeartbeats 1000000 in
theorem shown_any (w : World) : Calls Try.prog 10 #[] w fun e w' => e = .returned (.bool true) ∧ Below w.heap.size w w' := by
  have HS0 := Lib.hid (show (sumOf []).toNat = 4294967295 by decide)
  have HS1 := Lib.hid (show (more (0 : BitVec 32) [0]).toNat = 0 by decide)
  have HS2 := Lib.hid (show (more (0 : BitVec 32) [1]).toNat = 2168537515 by decide)
  have HS3 := Lib.hid (show sealed [] = [255, 255, 255, 255] by decide)
  go_enter Try.func10, Try.ntmps10
  go_wp2_with fail
  refine (Of_any _ [] _ (Rd.nil _)).mono ?_
  rintro e w1 ⟨rfl, hb1⟩
  rw [HS0.out]
  have H1 := Lib.hid hb1
  clear hb1
  go_wp2_with fail
  refine (More_any 0 _ [0] _ (RdV.of_owns (one_owned w1 w1.heap.size (.int .u8 0) (Nat.le_refl _)))).mono ?_
  rintro e w2 ⟨rfl, hb2⟩
  rw [HS1.out]
  have H2 := Lib.hid (Ext.trans (show Ext w w1 from H1.out) (Ext.trans ((Below.refl _ w1).alloc (Nat.le_refl _) _) hb2))
  clear hb2
  go_wp2_with fail
  refine (More_any 0 _ [1] _ (RdV.of_owns (one_owned w2 w2.heap.size (.int .u8 1) (Nat.le_refl _)))).mono ?_
  rintro e w3 ⟨rfl, hb3⟩
  rw [HS2.out]
  have H3 := Lib.hid (Ext.trans H2.out (Ext.trans ((Below.refl _ w2).alloc (Nat.le_refl _) _) hb3))
  clear hb3
  go_wp2_with fail
  refine (Seal_any _ [] _ (Rd.nil _) (by simp)).mono ?_
  rintro e w4 ⟨v4, rfl, ho4, hb4⟩
  have hr4 : Rd w4 v4 (sealed []) := RdV.of_owns ho4
  rw [HS3.out] at hr4
  have hcv := hr4.string (P := Try.prog) 23 9 5 Try.underlying23 Try.underlying5 Try.underlying9
  have H4 := Lib.hid (Ext.trans H3.out hb4)
  clear hb4 ho4 hr4
  go_wp2_with fail
  go_ret
  exact ⟨rfl, H4.out⟩

def Few (w : World) (l : List UInt8) (r : Ending) : Prop := ∃ v, r = .returned v ∧ Rd w v l

theorem few_any (v : Value) (l : List UInt8) (w : World) (hr : Rd w v l) : Calls Try.prog 9 #[v] w fun e w' => Few w (l.take 5000) e ∧ w = w' := by
  rcases hr with ⟨rfl, h2⟩ | ⟨x, cap, rfl, h2, h3, h4⟩
  · have : l = [] := by simpa using h2
    subst this
    go_enter Try.func9, Try.ntmps9
    go_wp2
    go_ret
    exact ⟨⟨_, rfl, Rd.nil w⟩, rfl⟩
  · have HC := Lib.hid (RdV.takes h2 h3 h4 5000 (min (((l.map bv).length : Nat) : Int) 5000).toNat (by omega))
    rw [← List.map_take] at HC
    obtain ⟨L, hL⟩ : ∃ L, L = (l.map bv).length := ⟨_, rfl⟩
    rw [← hL] at h2 HC ⊢
    clear h4 hL
    unfold maxLen at h3
    have HCa := Lib.hid (show L ≤ 5000 → Rd w (.slice (some x) L cap) (l.take 5000) from fun h => by have := HC.out; rwa [show (min (L : Int) 5000).toNat = L by omega] at this)
    have HCb := Lib.hid (show 5000 ≤ L → Rd w (.slice (some x) 5000 cap) (l.take 5000) from fun h => by have := HC.out; rwa [show (min (L : Int) 5000).toNat = 5000 by omega] at this)
    go_enter Try.func9, Try.ntmps9
    go_wp2
    · go_ret
      exact ⟨⟨_, rfl, HCb.out (by omega)⟩, rfl⟩
    · go_ret
      exact ⟨⟨_, rfl, HCa.out (by omega)⟩, rfl⟩

end Go.Proofs.Ytljcbnninipnhaa
