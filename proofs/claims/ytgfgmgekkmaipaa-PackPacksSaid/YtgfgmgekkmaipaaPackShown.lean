/-
  The law's own 'shown': the document's examples; 'few'.
-/
import Derived.Test.YtgfgmgekkmaipaaPackRef5
import Derived.Test.YtgfgmgekkmaipaaPackSays
import Derived.Test.YtgfgmgekkmaipaaInts
namespace Go.Proofs.Ytgfgmgekkmaipaa
open Go.ChangeAt Go.RowKit Go.BigFrame

/-- The first ones of a slice. -/
theorem rdV_head8 {w : World} {ao : Option Addr} {N cap : Nat} {xs : List Value} (h : RdV w (.slice ao N cap) xs) (K : Nat) (hK : K ≤ N) : RdV w (.slice ao K cap) (xs.take K) := by
  rcases h with ⟨h1, h2⟩ | ⟨x, cap', h1, h2, h3, h4⟩
  · simp only [Value.slice.injEq] at h1
    obtain ⟨rfl, rfl, rfl⟩ := h1
    have hk : K = 0 := by omega
    subst hk
    subst h2
    exact .inl ⟨rfl, rfl⟩
  · simp only [Value.slice.injEq] at h1
    obtain ⟨rfl, rfl, rfl⟩ := h1
    exact RdV.takes h2 h3 h4 K K (by omega)

theorem few8_any (u : Value) (l : List Nat) (w : World) (hu : RdV w u (l.map uv)) :
    Calls Try.prog 9 #[u] w fun e w' => (∃ v, e = .returned v ∧ RdV w v ((l.take 5000).map uv)) ∧ w = w' := by
  have HU := Lib.hid hu
  obtain ⟨ao, cap, rfl, h1, h2, -⟩ := RdV.cellsAt hu
  rw [List.length_map] at h1 HU ⊢
  unfold maxLen at h2
  by_cases hm : 5000 < l.length
  · have HR := Lib.hid (rdV_head8 HU.out 5000 (by omega))
    rw [← List.map_take] at HR
    generalize l.length = N at h1 hm ⊢
    have HMN := Lib.hid (show min (N : Int) 5000 = 5000 by omega)
    go_enter Try.func9, Try.ntmps9
    go_wp2_with fail
    rw [HMN.out]
    go_ret
    exact ⟨⟨_, rfl, HR.out⟩, rfl⟩
  · have HR := Lib.hid (show RdV w (.slice ao l.length cap) ((l.take 5000).map uv) by rw [List.take_of_length_le (by omega)]; exact HU.out)
    generalize l.length = N at h1 hm HR ⊢
    have HMN := Lib.hid (show min (N : Int) 5000 = (N : Int) by omega)
    go_enter Try.func9, Try.ntmps9
    go_wp2_with fail
    rw [HMN.out, Int.toNat_natCast]
    go_ret
    exact ⟨⟨_, rfl, HR.out⟩, rfl⟩

theorem ex_pack : packS [1, 2, 3] 2 = ([57], 0) := by decide
theorem ex_width : widthS [5] = 3 := by decide
theorem ex_frame1 : frameS [7, 7] = ([2, 14, 0], 0) := by decide
theorem ex_frame2 : frameS [3, 5] = ([2, 6, 2, 8], 0) := by decide

/-- string(b), as a fact of the walk. -/
theorem pack_str_of {w : World} {v : Value} {l : List UInt8} (h : Rd w v l) : (convert 24 9 v).run Try.prog w = .ok (.string ⟨l.toArray⟩) w :=
  h.string 24 9 5 Try.underlying24 Try.underlying5 Try.underlying9

set_option maxRecDepth 100000 in
set_option maxHeartbeats 1000000 in
theorem shown8_any (w : World) : Calls Try.prog 14 #[] w fun e w' => e = .returned (.bool true) ∧ Ext w w' := by
  have HU3 := Lib.hid (fun (W : World) => (show RdV (W.alloc (.cells #[.int .u64 1, .int .u64 2, .int .u64 3] 47)) (.slice (some ⟨W.heap.size, 0, none⟩) 3 3) (([1, 2, 3] : List Nat).map uv) from .inr ⟨⟨W.heap.size, 0, none⟩, 3, rfl, by decide, by decide, row_new W _ _⟩))
  have HU1 := Lib.hid (fun (W : World) => (show RdV (W.alloc (.cells #[.int .u64 5] 47)) (.slice (some ⟨W.heap.size, 0, none⟩) 1 1) (([5] : List Nat).map uv) from .inr ⟨⟨W.heap.size, 0, none⟩, 1, rfl, by decide, by decide, row_new W _ _⟩))
  have HI2 := Lib.hid (fun (W : World) (a b : Int) => (show RdV (W.alloc (.cells #[.int .i64 a, .int .i64 b] 3)) (.slice (some ⟨W.heap.size, 0, none⟩) 2 2) (([a, b] : List Int).map (Value.int .i64)) from .inr ⟨⟨W.heap.size, 0, none⟩, 2, rfl, by simp, by simp [maxLen], row_new W _ _⟩))
  go_enter Try.func14, Try.ntmps14
  go_wp2_with fail
  refine (pPack8_any _ [1, 2, 3] 2 _ (HU3.out w) (by decide) (by decide) (by decide)).mono ?_
  rintro e w1 ⟨v1, rfl, ho1, hx1⟩
  rw [ex_pack] at ho1 ⊢
  have HR1 := Lib.hid (show Rd w1 v1 [57] from RdV.of_owns ho1)
  have HX1 := Lib.hid (Ext.trans (ext_new w _) hx1)
  clear ho1 hx1
  go_wp2_with fail
  refine (pFrame8_any _ [7, 7] _ (HI2.out w1 7 7) (by decide) (by decide)).mono ?_
  rintro e w2 ⟨v2, rfl, ho2, hx2⟩
  rw [ex_frame1] at ho2 ⊢
  have HR2 := Lib.hid (show Rd w2 v2 [2, 14, 0] from RdV.of_owns ho2)
  have HX2 := Lib.hid (Ext.trans (ext_new w1 _) hx2)
  clear ho2 hx2
  go_wp2_with fail
  refine (pFrame8_any _ [3, 5] _ (HI2.out w2 3 5) (by decide) (by decide)).mono ?_
  rintro e w3 ⟨v3, rfl, ho3, hx3⟩
  rw [ex_frame2] at ho3 ⊢
  have HR3 := Lib.hid (show Rd w3 v3 [2, 6, 2, 8] from RdV.of_owns ho3)
  have HX3 := Lib.hid (Ext.trans (ext_new w2 _) hx3)
  clear ho3 hx3
  go_wp2_with fail
  refine (pWidth8_any _ [5] _ (HU1.out w3) (by decide) (by decide)).mono ?_
  rintro e w4 ⟨rfl, hx4⟩
  rw [ex_width]
  have HX4 := Lib.hid (Ext.trans (ext_new w3 _) hx4)
  have hs1 := pack_str_of (HR1.out.mono (Ext.trans HX2.out (Ext.trans HX3.out HX4.out)))
  have hs2 := pack_str_of (HR2.out.mono (Ext.trans HX3.out HX4.out))
  have hs3 := pack_str_of (HR3.out.mono HX4.out)
  clear hx4
  go_wp2_with fail
  go_ret
  exact ⟨by simp, Ext.trans HX1.out (Ext.trans HX2.out (Ext.trans HX3.out HX4.out))⟩

end Go.Proofs.Ytgfgmgekkmaipaa
