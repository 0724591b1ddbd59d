/-
  The contracts of the document's own New, Ints.
-/
import Derived.Test.YthelgjoobckbaaaPagesAlloc
namespace Go.Proofs.Ythelgjoobckbaaa
open Go.RowKit Go.BigFrame

theorem Try.info_page : (Try.prog.info? 70).map (fun i => (i.zero, i.size, i.bytes)) = some (some (.agg #[.bool false, .string ByteArray.empty]), 2, 24) := by kernel_rfl

def Newed (w : World) (n : Int) (e : Ending) (w' : World) : Prop :=
  (0 ≤ n ∧ n ≤ 4096 ∧ ∃ q g, e = .returned (.tuple #[.pointer (some ⟨q, 0, none⟩), .int .i64 0]) ∧ w.heap.size ≤ q ∧ w.heap.size ≤ g ∧ RSto w' q g (List.replicate n.toNat none) ∧ Ext w w') ∨
  (¬ (0 ≤ n ∧ n ≤ 4096) ∧ e = .returned (.tuple #[.pointer none, .int .i64 1]) ∧ Ext w w')

theorem refNew_any (n : Int) (w : World) (h0 : -9223372036854775808 ≤ n) (h1 : n ≤ 9223372036854775807) :
    Calls Try.prog 10 #[.int .i64 n] w (Newed w n) := by
  by_cases hn : n < 0
  · go_enter Try.func10, Try.ntmps10
    go_wp2_with fail
    go_ret2
    unfold Newed
    exact .inr ⟨by omega, rfl, Ext.keeps.refl _⟩
  · by_cases hm : 4096 < n
    · go_enter Try.func10, Try.ntmps10
      go_wp2_with fail
      go_ret2
      unfold Newed
      exact .inr ⟨by omega, rfl, Ext.keeps.refl _⟩
    · obtain ⟨N, rfl⟩ := Int.eq_ofNat_of_zero_le (show 0 ≤ n by omega)
      obtain ⟨i0, hi, hz0, hz1, hz2⟩ := info_parts Try.info_page
      have hmk := run_makeSlice (P := Try.prog) w 64 70 i0 _ Try.underlying64 hi hz0 .i64 .i64 N N (by omega) (Int.le_refl _) (by rw [hz1]; omega) (by rw [hz2]; omega) (by omega)
      rw [hz1] at hmk
      simp only [Int.toNat_natCast] at hmk
      have hcs : ∀ k j u, k < N → (pgC none)[j]? = some u → (madeCells (Value.agg #[.bool false, .string ByteArray.empty]).cells (N * 2))[k * 2 + j]? = some u := fun k j u hk hj => by
        have hj2 : j < 2 := (List.getElem?_eq_some_iff.1 hj).1
        have hlt : k * 2 + j < N * 2 := by omega
        have hmod : (k * 2 + j) % 2 = j := by omega
        unfold madeCells
        rw [Array.getElem?_map, Array.getElem?_range, if_pos hlt]
        simp only [Option.map_some]
        have hsz : (Value.agg #[.bool false, .string ByteArray.empty]).cells.size = 2 := rfl
        rw [hsz, hmod]
        match j, hj with
        | 0, hj => cases hj; rfl
        | 1, hj => cases hj; rfl
      generalize madeCells (Value.agg #[.bool false, .string ByteArray.empty]).cells (N * 2) = C at hmk hcs
      have HCS := Lib.hid hcs
      clear hcs
      go_enter Try.func10, Try.ntmps10
      go_wp2_with fail
      go_ret2
      unfold Newed
      simp only [Int.toNat_natCast]
      refine .inl ⟨by omega, by omega, w.heap.size + 1, w.heap.size, rfl, by omega, Nat.le_refl _, ⟨?_, fun i o hi j u hj => ?_, fun j => ?_, by omega, by simp; omega, by simp; omega⟩, ?_⟩
      · unfold World.cell?
        rw [heap_alloc2_new]
        simp
      · have ho : o = none ∧ i < N := by
          rw [List.getElem?_replicate] at hi
          split at hi
          · exact ⟨by cases hi; rfl, by assumption⟩
          · cases hi
        obtain ⟨rfl, hiN⟩ := ho
        unfold World.cell?
        rw [heap_alloc2_old]
        simpa using HCS.out i j u hiN hj
      · unfold World.frozen?
        rw [heap_alloc2_old]
        simp
      · exact Ext.trans (ext_new w _) (ext_new _ _)

set_option maxRecDepth 100000 in
theorem refInts_any (u v : Value) (xs ys : List Int) (w : World) (hu : RdV w u (xs.map (Value.int .i64))) (hv : RdV w v (ys.map (Value.int .i64))) (hxl : xs.length ≤ 1000000) (_hyl : ys.length ≤ 1000000) :
    Calls Try.prog 29 #[u, v] w fun e w' => e = .returned (.bool (decide (xs = ys))) ∧ Ext w w' := by
  obtain ⟨ao, ca, rfl, h1, h2, hca⟩ := RdV.cellsAt hu
  obtain ⟨bo, cb, rfl, h3, h4, hcb⟩ := RdV.cellsAt hv
  simp only [List.length_map] at *
  have HA := Lib.hid hca
  have HB := Lib.hid hcb
  unfold maxLen at h2 h4
  clear hu hv hca hcb
  by_cases hL : xs.length = ys.length
  · have HL := Lib.hid hL
    generalize hN : ys.length = N at h3 _hyl
    rw [hL, hN] at h1 hxl ⊢
    replace hN := Lib.hid hN
    clear hL
    go_enter Try.func29, Try.ntmps29
    go_wp2_with fail
    go_loopw [5] (fun i wr => ∃ j : Nat, j ≤ N ∧ i = .int .i64 j ∧ xs.take j = ys.take j ∧ Ext w wr) (fun i _ => N - (intOf i).toNat)
    case atStart => exact ⟨0, Nat.zero_le _, rfl, rfl, Ext.keeps.refl _⟩
    case round =>
      obtain ⟨j, hj, rfl, htk, hext⟩ := hrel
      have HT := Lib.hid htk
      have HE := Lib.hid hext
      clear htk hext
      by_cases hlt : j < N
      · have hjx : j < xs.length := by have := HL.out; have := hN.out; omega
        have hjy : j < ys.length := by have := hN.out; omega
        obtain ⟨x, rfl, hcx⟩ := HA.out j (.int .i64 xs[j]) (by rw [List.getElem?_map, List.getElem?_eq_getElem hjx]; rfl)
        obtain ⟨y, rfl, hcy⟩ := HB.out j (.int .i64 ys[j]) (by rw [List.getElem?_map, List.getElem?_eq_getElem hjy]; rfl)
        have hzx : ∀ z : Later Ext wr.drew, z.val.cell? (x.add j) = some (.int .i64 xs[j]) := fun z => ((Ext.trans HE.out (Ext.trans (Ext.drew wr) z.ext)).cell (lt_of_cell hcx)).trans hcx
        have hzy : ∀ z : Later Ext wr.drew, z.val.cell? (y.add j) = some (.int .i64 ys[j]) := fun z => ((Ext.trans HE.out (Ext.trans (Ext.drew wr) z.ext)).cell (lt_of_cell hcy)).trans hcy
        clear hcx hcy
        have HS := Lib.hid (show xs.take (j + 1) = xs.take j ++ [xs[j]] ∧ ys.take (j + 1) = ys.take j ++ [ys[j]] from ⟨List.take_succ_eq_append_getElem hjx, List.take_succ_eq_append_getElem hjy⟩)
        have HG := Lib.hid (show xs[j]? = some xs[j] ∧ ys[j]? = some ys[j] from ⟨List.getElem?_eq_getElem hjx, List.getElem?_eq_getElem hjy⟩)
        generalize xs[j] = c at hzx HS HG
        generalize ys[j] = d at hzy HS HG
        clear hjx hjy
        by_cases hcd : c = d
        · subst hcd
          go_wp2_with fail
          refine wp_region_segs Ext Ext.keeps [([0, 1, 2, 3, 4, 5, 6, 7, 8], none)] (by kernel_rfl) (by kernel_rfl) (fun c a a' w e h => (by exact ⟨e ▸ h.1, h.2⟩)) ?_
          simp only [pickSegs, pickOps, List.map_cons, List.map_nil, Option.map_none, Option.getD_some, List.getElem?_toArray, List.getElem?_cons_zero, List.getElem?_cons_succ]
          refine wpSegs_none ?_
          repeat go_big_quiet_step (fail)
          refine wpQuiet_nil (wpSegs_nil ?_)
          clear hzx hzy
          go_wp2_with fail
          go_roundw
          case rel => exact ⟨j + 1, by omega, by go_num, by rw [HS.out.1, HS.out.2, HT.out], Ext.trans HE.out (Ext.drew wr)⟩
          case measure => simp [intOf]; omega
        · have hq : (c == d) = false := beq_eq_false_iff_ne.2 hcd
          have HNE := Lib.hid (show decide (xs = ys) = false from decide_eq_false (fun h => by subst h; have h1 := HG.out.1; rw [HG.out.2] at h1; exact hcd (Option.some.inj h1).symm))
          clear hcd
          go_wp2_with fail
          refine wp_region_segs Ext Ext.keeps [([0, 1, 2, 3, 4, 5, 6, 7, 8], none)] (by kernel_rfl) (by kernel_rfl) (fun c a a' w e h => (by exact ⟨e ▸ h.1, h.2⟩)) ?_
          simp only [pickSegs, pickOps, List.map_cons, List.map_nil, Option.map_none, Option.getD_some, List.getElem?_toArray, List.getElem?_cons_zero, List.getElem?_cons_succ]
          refine wpSegs_none ?_
          repeat go_big_quiet_step (fail)
          refine wpQuiet_nil (wpSegs_nil ?_)
          clear hzx hzy
          go_wp2_with fail
          go_ret
          exact ⟨by rw [HNE.out]; rfl, Ext.trans HE.out (Ext.drew wr)⟩
      · have HEQ := Lib.hid (show decide (xs = ys) = true from decide_eq_true (by have h := HT.out; rw [List.take_of_length_le (by have := HL.out; have := hN.out; omega), List.take_of_length_le (by have := hN.out; omega)] at h; exact h))
        go_wp2_with fail
        go_ret
        exact ⟨by rw [HEQ.out]; rfl, HE.out⟩
  · have HNE := Lib.hid (show decide (xs = ys) = false from decide_eq_false (fun h => hL (by rw [h])))
    have hq : ((xs.length : Int) == (ys.length : Int)) = false := by rw [beq_eq_false_iff_ne]; omega
    clear hL
    generalize xs.length = M at hq h1 hxl ⊢
    generalize ys.length = N at hq h3 _hyl ⊢
    go_enter Try.func29, Try.ntmps29
    go_wp2_with fail
    go_ret
    exact ⟨by rw [HNE.out]; rfl, Ext.keeps.refl _⟩

end Go.Proofs.Ythelgjoobckbaaa
