/-
  The contracts of the document's own bits, Width, Bytes, Nums.
-/
import Derived.Test.YtgfgmgekkmaipaaPackMem
import Derived.Test.YtgfgmgekkmaipaaRows
namespace Go.Proofs.Ytgfgmgekkmaipaa
open Go.RowKit Go.BigFrame

set_option maxRecDepth 100000 in
theorem refBits_any (x : Nat) (w : World) (hx : x < 2 ^ 64) :
    Calls Try.prog 26 #[.int .u64 x] w fun e w' => e = .returned (.int .i64 (Lib.bitLen x)) ∧ w = w' := by
  have HB := Lib.hid (bitLen_le x)
  have HX := Lib.hid hx
  obtain ⟨B, hB⟩ : ∃ B, Lib.bitLen x = B := ⟨_, rfl⟩
  have HBE := Lib.hid hB
  rw [hB] at HB ⊢
  clear hB
  go_enter Try.func26, Try.ntmps26
  go_wp2_with fail
  go_loopw [0, 3] (fun n k wr => ∃ (y m : Nat), n = .int .u64 y ∧ k = .int .i64 m ∧ y < 18446744073709551616 ∧ m + Lib.bitLen y = B ∧ w = wr) (fun n _ _ => (intOf n).toNat)
  case atStart => exact ⟨x, 0, rfl, rfl, HX.out, by rw [HBE.out, Nat.zero_add], rfl⟩
  case round =>
    obtain ⟨y, m, rfl, rfl, hy, hm, rfl⟩ := hrel
    have HM := Lib.hid hm
    have HMB := Lib.hid (show m ≤ 64 by have := HB.out; omega)
    by_cases h0 : y = 0
    · subst h0
      have HE := Lib.hid (show m = B by have h : Lib.bitLen 0 = 0 := rfl; rw [h] at hm; exact hm)
      clear hm
      go_wp2_with fail
      go_ret
      exact ⟨by rw [HE.out]; rfl, rfl⟩
    · have HH := Lib.hid (show m + 1 + Lib.bitLen (y / 2) = B by have := bitLen_half h0 hy; omega)
      have hmb := HMB.out
      have hypos : 0 < y := by omega
      clear hm
      go_wp2_with fail
      go_roundw
      case rel => exact ⟨y / 2, m + 1, by simp, by go_num, by omega, HH.out, trivial⟩
      case measure => simp [intOf]; omega

set_option maxRecDepth 100000 in
theorem refWidth_any (u : Value) (l : List Nat) (w : World) (hu : RdV w u (l.map uv)) (hl : ∀ x ∈ l, x < 2 ^ 64) :
    Calls Try.prog 16 #[u] w fun e w' => e = .returned (.int .i64 (widthS l)) ∧ w = w' := by
  obtain ⟨ao, cap, rfl, h1, h2, hat⟩ := RdV.cellsAt hu
  rw [List.length_map] at h1 ⊢
  have HAT := Lib.hid hat
  have HL := Lib.hid hl
  obtain ⟨N, hN⟩ : ∃ N, l.length = N := ⟨_, rfl⟩
  have HN := Lib.hid hN
  unfold maxLen at h2
  rw [hN] at h1 ⊢
  clear hat hN hu hl
  go_enter Try.func16, Try.ntmps16
  go_wp2_with fail
  go_loopw [3, 4] (fun n i wr => ∃ j : Nat, j ≤ N ∧ i = .int .i64 j ∧ n = .int .i64 (widthS (l.take j)) ∧ w = wr) (fun _ i _ => N - (intOf i).toNat)
  case atStart => exact ⟨0, Nat.zero_le _, rfl, rfl, rfl⟩
  case round =>
    obtain ⟨j, hj, rfl, rfl, rfl⟩ := hrel
    by_cases hlt : j < N
    · have hjl : j < l.length := by have := HN.out; omega
      obtain ⟨x, rfl, hcv⟩ := HAT.out j (uv l[j]) (by rw [List.getElem?_map, List.getElem?_eq_getElem hjl]; rfl)
      unfold uv at hcv
      have HS := Lib.hid (show widthS (l.take (j + 1)) = max (widthS (l.take j)) (Lib.bitLen l[j]) by rw [List.take_succ_eq_append_getElem hjl, widthS_snoc])
      have HXB := Lib.hid (HL.out l[j] (List.getElem_mem hjl))
      generalize l[j] = y at hcv HS HXB
      have hb1 := bitLen_le y
      have hb2 := widthS_le (l.take j)
      have HBY := Lib.hid (fun W => refBits_any y W HXB.out)
      generalize widthS (l.take j) = A at HS hb2 ⊢
      generalize Lib.bitLen y = B at HS HBY hb1
      clear hjl
      go_wp2_with fail
      refine (HBY.out w).mono ?_
      rintro e w2 ⟨rfl, rfl⟩
      by_cases hab : A < B
      · go_wp2_with fail
        go_roundw
        case rel => exact ⟨j + 1, by omega, by go_num, by rw [HS.out, Nat.max_eq_right (by omega)], trivial⟩
        case measure => simp [intOf]; omega
      · go_wp2_with fail
        go_roundw
        case rel => exact ⟨j + 1, by omega, by go_num, by rw [HS.out, Nat.max_eq_left (by omega)], trivial⟩
        case measure => simp [intOf]; omega
    · have HFULL := Lib.hid (show l.take j = l from List.take_of_length_le (by have := HN.out; omega))
      go_wp2_with fail
      go_ret
      exact ⟨by rw [HFULL.out]; rfl, rfl⟩

theorem refBytes_any (many width : Int) (w : World) (hm : -9223372036854775808 ≤ many ∧ many ≤ 9223372036854775807) (hw : -9223372036854775808 ≤ width ∧ width ≤ 9223372036854775807) :
    Calls Try.prog 13 #[.int .i64 many, .int .i64 width] w fun e w' => e = .returned (.tuple #[.int .i64 (bytesS many width).1, .int .i64 (bytesS many width).2]) ∧ w = w' := by
  obtain ⟨m0, m1⟩ := hm
  obtain ⟨k0, k1⟩ := hw
  unfold bytesS
  by_cases h0 : many < 0
  · rw [if_pos (.inl h0)]
    go_enter Try.func13, Try.ntmps13
    go_wp2_with fail
    go_ret2
    exact ⟨rfl, rfl⟩
  · by_cases h1 : width < 0
    · rw [if_pos (.inr (.inl h1))]
      go_enter Try.func13, Try.ntmps13
      go_wp2_with fail
      go_ret2
      exact ⟨rfl, rfl⟩
    · by_cases h2 : 64 < width
      · rw [if_pos (.inr (.inr h2))]
        go_enter Try.func13, Try.ntmps13
        go_wp2_with fail
        go_ret2
        exact ⟨rfl, rfl⟩
      · rw [if_neg (by omega)]
        by_cases h3 : 4096 < many
        · rw [if_pos h3]
          go_enter Try.func13, Try.ntmps13
          go_wp2_with fail
          go_ret2
          exact ⟨rfl, rfl⟩
        · rw [if_neg h3]
          obtain ⟨M, rfl⟩ := Int.eq_ofNat_of_zero_le (show 0 ≤ many by omega)
          obtain ⟨W, rfl⟩ := Int.eq_ofNat_of_zero_le (show 0 ≤ width by omega)
          have hMW : M * W ≤ 4096 * 64 := Nat.mul_le_mul (by omega) (by omega)
          obtain ⟨K, hK⟩ : ∃ K, M * W = K := ⟨_, rfl⟩
          have e : (M : Int) * (W : Int) = (K : Int) := by rw [← hK, Int.natCast_mul]
          rw [hK] at hMW
          have HE := Lib.hid e
          rw [e]
          clear hK e
          have hb : (M : Int) * (W : Int) ≤ 262144 ∧ 0 ≤ (M : Int) * (W : Int) := by rw [HE.out]; omega
          go_enter Try.func13, Try.ntmps13
          go_wp2_with fail
          go_ret2
          exact ⟨by simp [HE.out], rfl⟩

set_option maxRecDepth 100000 in
theorem refNums_any (u v : Value) (xs ys : List Nat) (w : World) (hu : RdV w u (xs.map uv)) (hv : RdV w v (ys.map uv)) :
    Calls Try.prog 19 #[u, v] w fun e w' => e = .returned (.bool (decide (xs = ys))) ∧ Ext w w' := by
  obtain ⟨ao, ca, rfl, h1, h2, hca⟩ := RdV.cellsAt hu
  obtain ⟨bo, cb, rfl, h3, h4, hcb⟩ := RdV.cellsAt hv
  simp only [List.length_map] at *
  have HA := Lib.hid hca
  have HB := Lib.hid hcb
  unfold maxLen at h2 h4
  clear hu hv hca hcb
  by_cases hL : xs.length = ys.length
  · have HL := Lib.hid hL
    generalize hN : ys.length = N at h3
    rw [hL, hN] at h1 ⊢
    replace hN := Lib.hid hN
    clear hL
    go_enter Try.func19, Try.ntmps19
    go_wp2_with fail
    go_loopw [5] (fun i wr => ∃ j : Nat, j ≤ N ∧ i = .int .i64 j ∧ xs.take j = ys.take j ∧ Ext w wr) (fun i _ => N - (intOf i).toNat)
    case atStart => exact ⟨0, Nat.zero_le _, rfl, rfl, Ext.keeps.refl _⟩
    case round =>
      obtain ⟨j, hj, rfl, htk, hext⟩ := hrel
      have HT := Lib.hid htk
      have HE := Lib.hid hext
      clear htk hext
      by_cases hlt : j < N
      · have hjx : j < xs.length := by have := HL.out; have := hN.out; omega
        have hjy : j < ys.length := by have := hN.out; omega
        obtain ⟨x, rfl, hcx⟩ := HA.out j (uv xs[j]) (by rw [List.getElem?_map, List.getElem?_eq_getElem hjx]; rfl)
        obtain ⟨y, rfl, hcy⟩ := HB.out j (uv ys[j]) (by rw [List.getElem?_map, List.getElem?_eq_getElem hjy]; rfl)
        have hzx : ∀ z : Later Ext wr.drew, z.val.cell? (x.add j) = some (.int .u64 (xs[j] : Int)) := fun z => ((Ext.trans HE.out (Ext.trans (Ext.drew wr) z.ext)).cell (lt_of_cell hcx)).trans hcx
        have hzy : ∀ z : Later Ext wr.drew, z.val.cell? (y.add j) = some (.int .u64 (ys[j] : Int)) := fun z => ((Ext.trans HE.out (Ext.trans (Ext.drew wr) z.ext)).cell (lt_of_cell hcy)).trans hcy
        clear hcx hcy
        have HS := Lib.hid (show xs.take (j + 1) = xs.take j ++ [xs[j]] ∧ ys.take (j + 1) = ys.take j ++ [ys[j]] from ⟨List.take_succ_eq_append_getElem hjx, List.take_succ_eq_append_getElem hjy⟩)
        have HG := Lib.hid (show xs[j]? = some xs[j] ∧ ys[j]? = some ys[j] from ⟨List.getElem?_eq_getElem hjx, List.getElem?_eq_getElem hjy⟩)
        generalize xs[j] = c at hzx HS HG
        generalize ys[j] = d at hzy HS HG
        clear hjx hjy
        by_cases hcd : c = d
        · subst hcd
          go_wp2_with fail
          refine wp_region_segs Ext Ext.keeps [([0, 1, 2, 3, 4, 5, 6, 7, 8], none)] (by kernel_rfl) (by kernel_rfl) (fun c a a' w e h => (by exact ⟨e ▸ h.1, h.2⟩)) ?_
          simp only [pickSegs, pickOps, List.map_cons, List.map_nil, Option.map_none, Option.getD_some, List.getElem?_toArray, List.getElem?_cons_zero, List.getElem?_cons_succ]
          refine wpSegs_none ?_
          repeat go_big_quiet_step (fail)
          refine wpQuiet_nil (wpSegs_nil ?_)
          clear hzx hzy
          go_wp2_with fail
          go_roundw
          case rel => exact ⟨j + 1, by omega, by go_num, by rw [HS.out.1, HS.out.2, HT.out], Ext.trans HE.out (Ext.drew wr)⟩
          case measure => simp [intOf]; omega
        · have hq : ((c : Int) == (d : Int)) = false := beq_eq_false_iff_ne.2 (by omega)
          have HNE := Lib.hid (show decide (xs = ys) = false from decide_eq_false (fun h => by subst h; have h1 := HG.out.1; rw [HG.out.2] at h1; exact hcd (Option.some.inj h1).symm))
          clear hcd
          go_wp2_with fail
          refine wp_region_segs Ext Ext.keeps [([0, 1, 2, 3, 4, 5, 6, 7, 8], none)] (by kernel_rfl) (by kernel_rfl) (fun c a a' w e h => (by exact ⟨e ▸ h.1, h.2⟩)) ?_
          simp only [pickSegs, pickOps, List.map_cons, List.map_nil, Option.map_none, Option.getD_some, List.getElem?_toArray, List.getElem?_cons_zero, List.getElem?_cons_succ]
          refine wpSegs_none ?_
          repeat go_big_quiet_step (fail)
          refine wpQuiet_nil (wpSegs_nil ?_)
          clear hzx hzy
          go_wp2_with fail
          go_ret
          exact ⟨by rw [HNE.out]; rfl, Ext.trans HE.out (Ext.drew wr)⟩
      · have HEQ := Lib.hid (show decide (xs = ys) = true from decide_eq_true (by have h := HT.out; rw [List.take_of_length_le (by have := HL.out; have := hN.out; omega), List.take_of_length_le (by have := hN.out; omega)] at h; exact h))
        go_wp2_with fail
        go_ret
        exact ⟨by rw [HEQ.out]; rfl, HE.out⟩
  · have HNE := Lib.hid (show decide (xs = ys) = false from decide_eq_false (fun h => hL (by rw [h])))
    have hq : ((xs.length : Int) == (ys.length : Int)) = false := by rw [beq_eq_false_iff_ne]; omega
    clear hL
    generalize xs.length = M at hq h1 ⊢
    generalize ys.length = N at hq h3 ⊢
    go_enter Try.func19, Try.ntmps19
    go_wp2_with fail
    go_ret
    exact ⟨by rw [HNE.out]; rfl, Ext.keeps.refl _⟩

end Go.Proofs.Ytgfgmgekkmaipaa
