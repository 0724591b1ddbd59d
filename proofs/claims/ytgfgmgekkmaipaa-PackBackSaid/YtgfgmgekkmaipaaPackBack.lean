/-
  The walks of the laws PackBack, PackRound.
-/
import Derived.Test.YtgfgmgekkmaipaaPackPacks
namespace Go.Proofs.Ytgfgmgekkmaipaa
open Go.ChangeAt Go.RowKit Go.BigFrame

theorem bytes_fine {n W : Nat} (hn : n ≤ 4096) (hW : W ≤ 64) : (bytesS (n : Int) (W : Int)).2 = 0 ∧ (bytesS (n : Int) (W : Int)).1 = ((n * W + 7) / 8 : Nat) := by
  unfold bytesS
  rw [if_neg (by omega), if_neg (by omega)]
  refine ⟨rfl, ?_⟩
  simp only
  rw [← Int.natCast_mul]
  omega
theorem frameB_len (l : List Int) (h : l.length ≤ 4096) : (frameB l).length ≤ 40000 := by
  have e1 := enc_length l.length
  unfold frameB
  split
  · rw [List.append_nil]; omega
  · have e2 := enc_length (zig (leastS l))
    have e3 := enc_length (widthS (moreS l))
    have e4 : (moreS l).length * widthS (moreS l) ≤ 4096 * 64 := Nat.mul_le_mul (by rw [moreS_length]; exact h) (widthS_le _)
    rw [List.length_append, List.length_append, List.length_append, packB_length]
    omega
theorem unpack_longer {l : List Nat} {W : Nat} (hn : l.length ≤ 4096) (hW : W ≤ 64) : unpackS (packB l W ++ [0]) (l.length : Int) (W : Int) = ([], 6) := by
  obtain ⟨h1, h2⟩ := bytes_fine hn hW
  unfold unpackS
  rw [if_pos h1, h2, if_neg]
  rintro ⟨h, _⟩
  rw [List.length_append, packB_length, List.length_singleton] at h
  omega

set_option maxRecDepth 100000 in
set_option maxHeartbeats 2000000 in
theorem packBack_walk (u : Value) (zs : List Int) (width : Int) (w : World) (hu : RdV w u (zs.map (Value.int .u64))) (hf : ∀ n ∈ zs, (Lit.int .u64 n).wf = true) (hw : -9223372036854775808 ≤ width ∧ width ≤ 9223372036854775807) :
    Calls Try.prog 6 #[u, .int .i64 width] w fun e w' => e = .returned (.bool true) ∧ Below w.heap.size w w' := by
  obtain ⟨i1, hi1, hy0, hy1, hy2⟩ := info_parts Try.info5
  obtain ⟨huv, hlt⟩ := uv_of_wf zs hf
  rw [huv] at hu
  generalize zs.map Int.toNat = l at hu hlt
  have HU := Lib.hid hu
  obtain ⟨ao, cap, rfl, h1, h2, -⟩ := RdV.cellsAt hu
  rw [List.length_map] at h1 HU ⊢
  unfold maxLen at h2
  obtain ⟨K, hk1, hk2, hk3, hk4⟩ := min_first l.length 1000
  have HX := Lib.hid (show RdV w (.slice ao K cap) ((l.take K).map uv) by rw [List.map_take]; exact rdV_head8 HU.out K hk3)
  have HL := Lib.hid (show ∀ x ∈ l.take K, x < 2 ^ 64 from fun x hx => hlt x (List.mem_of_mem_take hx))
  have HN := Lib.hid (show (l.take K).length = K by rw [List.length_take]; omega)
  generalize l.take K = x at HX HL HN
  have hKc : K ≤ cap := by omega
  generalize l.length = N at h1 hk1 hk2 hk3 ⊢
  simp only [Int.cast_ofNat_Int] at hk1 hk2
  have HW := Lib.hid hw
  have HPK := Lib.hid (fun V (h : Ext w V) => pPack8_any _ x width V (HX.out.mono h) HL.out (by have := HN.out; omega) hw)
  have HPS := Lib.hid (show packS x width = if (bytesS (K : Int) width).2 = 0 then (if widthS x ≤ width.toNat then (packB x width.toNat, 0) else ([], 8)) else ([], (bytesS (K : Int) width).2) by unfold packS; rw [HN.out])
  obtain ⟨w0, w1⟩ := hw
  clear hu HU hf huv hlt
  go_enter Try.func6, Try.ntmps6
  go_wp2_with fail
  refine (shown8_any w).mono ?_
  rintro e wa ⟨rfl, hxa⟩
  have HXA := Lib.hid hxa
  clear hxa
  go_wp2_with fail
  refine (HPK.out wa HXA.out).mono ?_
  rintro e wb ⟨vb, rfl, hob, hxb⟩
  have HXB := Lib.hid (Ext.trans HXA.out hxb)
  by_cases hn0 : width < 0
  · have hP : packS x width = ([], 1) := by
      have hb : (bytesS (K : Int) width) = (0, 1) := by unfold bytesS; rw [if_pos (.inr (.inl hn0))]
      rw [HPS.out, hb]
      rfl
    rw [hP]
    clear hP hob hxb
    go_wp2_with fail
    go_ret
    exact ⟨by simp, HXB.out⟩
  · by_cases hn1 : 64 < width
    · have hP : packS x width = ([], 1) := by
        have hb : (bytesS (K : Int) width) = (0, 1) := by unfold bytesS; rw [if_pos (.inr (.inr hn1))]
        rw [HPS.out, hb]
        rfl
      rw [hP]
      clear hP hob hxb
      go_wp2_with fail
      go_ret
      exact ⟨by simp, HXB.out⟩
    · obtain ⟨W, rfl⟩ := Int.eq_ofNat_of_zero_le (show 0 ≤ width by omega)
      have hW64 : W ≤ 64 := by omega
      have hbf := bytes_fine (n := K) (by omega) hW64
      have HPQ := Lib.hid (show packS x (W : Int) = if widthS x ≤ W then (packB x W, 0) else ([], 8) by rw [HPS.out, if_pos hbf.1, Int.toNat_natCast])
      have HUP := Lib.hid (fun h : widthS x ≤ W => (show unpackS (packB x W) (K : Int) (W : Int) = (x, 0) by
        have := unpack_pack (l := x) (width := (W : Int)) (by rw [HN.out]; exact hbf.1) HL.out (by rw [Int.toNat_natCast]; exact h)
        rwa [Int.toNat_natCast, HN.out] at this))
      have HUL := Lib.hid (show unpackS (packB x W ++ [0]) (K : Int) (W : Int) = ([], 6) by
        have := unpack_longer (l := x) (W := W) (by rw [HN.out]; omega) hW64
        rwa [HN.out] at this)
      have HPL := Lib.hid (show (packB x W).length ≤ 40000 by
        rw [packB_length, HN.out]
        have : K * W ≤ 4096 * 64 := Nat.mul_le_mul (by omega) hW64
        omega)
      have HWX := Lib.hid (fun V (h : Ext w V) => pWidth8_any _ x V (HX.out.mono h) HL.out (by have := HN.out; omega))
      have HOB := Lib.hid hob
      have HXAB := Lib.hid hxb
      clear hob hxb hbf
      by_cases hwide : W < widthS x
      · have hP : packS x (W : Int) = ([], 8) := by rw [HPQ.out, if_neg (by omega)]
        rw [hP]
        generalize widthS x = Z at hwide HWX
        clear hP HOB
        go_wp2_with fail
        refine (HWX.out wb HXB.out).mono ?_
        rintro e wc ⟨rfl, hxc⟩
        have HXC := Lib.hid (Ext.trans HXB.out hxc)
        clear hxc
        go_wp2_with fail
        go_ret
        exact ⟨by simp, HXC.out⟩
      · have hP : packS x (W : Int) = (packB x W, 0) := by rw [HPQ.out, if_pos (by omega)]
        have HU2 := Lib.hid (HUP.out (by omega))
        rw [hP] at HOB ⊢
        simp only at HOB ⊢
        obtain ⟨bo, bcap, rfl, hb1, hb2⟩ := own_shapeP HOB.out
        unfold maxLen at hb2
        have hwl := widthS_le x
        generalize widthS x = Z at hwide HWX hwl
        obtain ⟨L, hL⟩ : ∃ L, (packB x W).length = L := ⟨_, rfl⟩
        have HLE := Lib.hid hL
        rw [hL] at hb1 HPL HOB ⊢
        clear hP hL
        go_wp2_with fail
        refine (HWX.out wb HXB.out).mono ?_
        rintro e wc ⟨rfl, hxc⟩
        have HXC := Lib.hid (Ext.trans HXB.out hxc)
        have HOC := Lib.hid (owns_later HOB.out hxc)
        have HBC := Lib.hid hxc
        clear hxc
        go_wp2_with fail
        refine (pUnpack8_any _ (packB x W) (K : Int) (W : Int) wc (RdV.of_owns HOC.out) (by have := HPL.out; have := HLE.out; omega) (by omega) (by omega)).mono ?_
        rintro e wd ⟨vd, rfl, hod, hxd⟩
        rw [HU2.out] at hod ⊢
        have HRD := Lib.hid (RdV.of_owns hod)
        have HXD := Lib.hid (Ext.trans HXC.out hxd)
        have HOD := Lib.hid (owns_later HOC.out hxd)
        have HBS := Lib.hid (show wa.heap.size ≤ wd.heap.size from (Ext.trans HXAB.out (Ext.trans HBC.out hxd)).size)
        have HBL := Lib.hid (show ∀ k, (Value.slice bo L bcap).ownBlock = some k → wa.heap.size ≤ k ∧ k < wb.heap.size from fun k hk => HOB.out.lt k hk)
        have HVD := Lib.hid (show ∀ k, vd.ownBlock = some k → wc.heap.size ≤ k from fun k hk => (hod.lt k hk).1)
        clear hod hxd
        go_wp2_with (at_builtin; go_must (refine wpList_append_own _ rfl (.tmp 54) (.tmp 55) 24 rfl wa.heap.size 5 i1 (.int .u8 0) 1 1 Try.underlying24 hi1 hy0 hy1 hy2 rfl (by decide) _ _ _ rfl (HOD.out.alloc _) ⟨wd.heap.size, 0, none⟩ 1 1 [_] rfl rfl (row_new _ _ _) (by simp [Value.oneCell']) (by have := HPL.out; unfold maxLen; omega) (by have := HPL.out; omega) (by have := HBS.out; simp; omega) ?_); intro ve we howne hgrowe _; have HOE := Lib.hid howne; have HGE := Lib.hid hgrowe; clear howne hgrowe)
        have HGS := Lib.hid (OnlyS.of_grown HGE.out)
        have HRE := Lib.hid (show Rd we ve (packB x W ++ [0]) from by
          have h := RdV.of_owns HOE.out
          show RdV we ve ((packB x W ++ [0]).map bv)
          rw [List.map_append]
          exact h)
        have HRM := Lib.hid (RdV.onlyS (HRD.out.mono (ext_new wd _)) HGS.out (fun _ k hk hx => by
          have h1 := HVD.out k hk
          have h2 := (HBL.out k hx).2
          have h3 := HBC.out.size
          omega))
        have HXE := Lib.hid (show Ext w we from Below.trans (Ext.trans HXD.out (ext_new wd _)) (HGS.out.below (by have := HXD.out.size; simp; omega) (fun b hb => Nat.le_trans HXA.out.size (HBL.out b hb).1)))
        go_wp2_with fail
        refine (pUnpack8_any _ (packB x W ++ [0]) (K : Int) (W : Int) we HRE.out (by rw [List.length_append, List.length_singleton]; have := HPL.out; have := HLE.out; omega) (by omega) (by omega)).mono ?_
        rintro e wf ⟨vf, rfl, hof, hxf⟩
        rw [HUL.out]
        have HXF := Lib.hid (Ext.trans HXE.out hxf)
        have HRF := Lib.hid (HRM.out.mono hxf)
        clear hof hxf
        go_wp2_with fail
        refine (refNums_any _ _ x x wf HRF.out (HX.out.mono HXF.out)).mono ?_
        rintro e wg ⟨rfl, hxg⟩
        rw [decide_eq_true rfl]
        have HXG := Lib.hid (Ext.trans HXF.out hxg)
        clear hxg
        go_wp2_with fail
        go_ret
        exact ⟨by simp, HXG.out⟩

end Go.Proofs.Ytgfgmgekkmaipaa
