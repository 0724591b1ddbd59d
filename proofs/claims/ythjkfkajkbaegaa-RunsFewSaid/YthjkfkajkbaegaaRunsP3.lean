/-
  The program's own runs: Flat.
-/
import Derived.Test.YthjkfkajkbaegaaBeside
import Derived.Test.YthjkfkajkbaegaaRunsP2
namespace Go.Proofs.Ythjkfkajkbaegaa
open Go.RowKit Go.BigFrame

set_option maxRecDepth 100000 in
set_option maxHeartbeats 2000000 in
theorem flatRd9_any (u : Value) (rs : List Sp) (w : World) (hu : RdSp w u rs) (hfit : ∀ s ∈ rs, s.fits) :
    Calls Try.prog 16 #[u] w fun e w' => AnsI w (flatS rs) e w' := by
  obtain ⟨i0, hi, hz0, hz1, hz2⟩ := info_parts Try.info_int8
  have HF := Lib.hid (fault9_any u rs w hu hfit)
  obtain ⟨ao, cap, rfl, h1, h2, hat, -⟩ := hu
  have HAT := Lib.hid hat
  obtain ⟨N, hN⟩ : ∃ N, rs.length = N := ⟨_, rfl⟩
  have HN := Lib.hid hN
  unfold maxLen at h2
  rw [hN] at h1 HF ⊢
  clear hat hN hfit
  by_cases he : (flatS rs).2 = 0
  · obtain ⟨hg, hs, hf⟩ := flatS_zero he
    have HGD := Lib.hid hg
    have HSM := Lib.hid hs
    have HYES := Lib.hid hf
    rw [he] at HF
    clear he hg hs hf
    go_enter Try.func16, Try.ntmps16
    go_wp2_with fail
    refine HF.out.mono ?_
    rintro e w1 ⟨rfl, hx1⟩
    have HX1 := Lib.hid hx1
    clear hx1
    go_wp2_with fail
    go_loopw [5, 15] (fun v i wr => ∃ k : Nat, k ≤ N ∧ i = .int .i64 k ∧ wr.ownsRow w.heap.size 3 1 v (flat (rs.take k)).length ((flat (rs.take k)).map (Value.int .i64)) ∧ Below w.heap.size w wr) (fun _ i _ => N - (intOf i).toNat)
    case atStart => exact ⟨0, Nat.zero_le _, rfl, owns_nil _ _ _ _, HX1.out⟩
    case round =>
      obtain ⟨k, hk, rfl, hown, hx⟩ := hrel
      have HX := Lib.hid hx
      obtain ⟨so, sc, rfl, hs1, hs2⟩ := own_shapeP hown
      have HO := Lib.hid hown
      have HFL := Lib.hid (show ((flat (rs.take k)).length : Int) = sumR (rs.take k) from flat_length (goodR_take HGD.out k))
      obtain ⟨M, hM⟩ : ∃ M, (flat (rs.take k)).length = M := ⟨_, rfl⟩
      rw [hM] at HO HFL hs1 ⊢
      have HM := Lib.hid hM
      unfold maxLen at hs2
      clear hown hx hM
      by_cases hlt2 : k < N
      · have hkl : k < rs.length := by have := HN.out; omega
        obtain ⟨g, off, rfl, hx0, hx1⟩ := HAT.out k hkl
        have hc0 := (HX.out.cell (lt_of_cell hx0)).trans hx0
        have hc1 := (HX.out.cell (lt_of_cell hx1)).trans hx1
        have HGC := Lib.hid (HGD.out _ (List.getElem_mem hkl))
        have HSS := Lib.hid (sumR_take_succ hkl)
        have HFS := Lib.hid (flat_take_succ hkl)
        have HLE := Lib.hid (sumR_take_le HGD.out (k + 1))
        generalize rs[k] = c at hc0 hc1 HGC HSS HFS
        obtain ⟨cf, ct⟩ := c
        simp only at hc0 hc1 HGC HSS HFS
        have HCT := Lib.hid (show 1 ≤ ct ∧ M + ct ≤ 4096 by have := HGC.out; have := HSS.out; have := HFL.out; have := HLE.out; have := HSM.out; omega)
        have hct := HCT.out
        have HSZ := Lib.hid HX.out.size
        have HG7 := Lib.hid (heap_alloc_new wr (.cells #[.int .i64 cf, .int .i64 ct] 45))
        have HE7 := Lib.hid (ext_new wr (.cells #[.int .i64 cf, .int .i64 ct] 45))
        have hb0 : (wr.alloc (.cells #[.int .i64 cf, .int .i64 ct] 45)).cell? ⟨wr.heap.size, 0, none⟩ = some (.int .i64 cf) := by unfold World.cell?; rw [HG7.out]; rfl
        have hb1 : (wr.alloc (.cells #[.int .i64 cf, .int .i64 ct] 45)).cell? ⟨wr.heap.size, 1, none⟩ = some (.int .i64 ct) := by unfold World.cell?; rw [HG7.out]; rfl
        clear hkl hx0 hx1
        go_wp2_with fail
        have HSZ7 := Lib.hid (show (wr.alloc (.cells #[.int .i64 cf, .int .i64 ct] 45)).heap.size = wr.heap.size + 1 by simp)
        have HB0 := Lib.hid hb0
        have HO7 := Lib.hid (HO.out.alloc (.cells #[.int .i64 cf, .int .i64 ct] 45))
        have HX7 := Lib.hid (HX.out.trans (HE7.out.mono HSZ.out))
        have HN7 := Lib.hid (show (Value.slice so M sc).ownBlock ≠ some wr.heap.size from fun e => by have := (HO.out.lt _ e).2; omega)
        clear hb0 hb1 hc0 hc1 hct HG7 HE7
        generalize wr.alloc (.cells #[.int .i64 cf, .int .i64 ct] 45) = W7 at HSZ7 HB0 HO7 HX7 ⊢
        obtain ⟨g7, hg7⟩ : ∃ g7, wr.heap.size = g7 := ⟨_, rfl⟩
        rw [hg7] at HSZ7 HB0 HN7 ⊢
        clear hg7
        go_loopw [5, 21] (fun v i wk => ∃ q : Nat, (q : Int) ≤ ct ∧ i = .int .i64 q ∧ wk.ownsRow w.heap.size 3 1 v (flat (rs.take k) ++ List.replicate q cf).length ((flat (rs.take k) ++ List.replicate q cf).map (Value.int .i64)) ∧ Below w.heap.size w wk ∧ wk.cell? ⟨g7, 0, none⟩ = some (.int .i64 cf) ∧ v.ownBlock ≠ some g7 ∧ g7 < wk.heap.size) (fun _ i _ => ct.toNat - (intOf i).toNat)
        case atStart => exact ⟨0, by have := HCT.out; omega, rfl, by rw [List.replicate_zero, List.append_nil, HM.out]; exact HO7.out, HX7.out, HB0.out, HN7.out, by have := HSZ7.out; omega⟩
        case round =>
          obtain ⟨q, hq, rfl, hown, hx, hcf, hne, hlt⟩ := hrel
          have HX2 := Lib.hid hx
          have HSZ := Lib.hid hx.size
          have HO2 := Lib.hid hown
          have HNE := Lib.hid hne
          have HCF := Lib.hid hcf
          have HLEN := Lib.hid (show (flat (rs.take k) ++ List.replicate q cf).length ≤ 5000 by have := HCT.out; rw [List.length_append, HM.out, List.length_replicate]; omega)
          have hct := HCT.out
          clear hown hx hne
          by_cases hqt : (q : Int) < ct
          · go_wp2_with (at_builtin; go_must (refine wpList_append_one rfl (.tmp 23) (.tmp 26) 22 rfl w.heap.size 3 i0 (.int .i64 0) 1 8 Try.underlying22 hi hz0 hz1 hz2 rfl (by decide) (by decide) _ _ _ [_] rfl HO2.out rfl rfl (by simp [Value.oneCell']) (by have := HLEN.out; omega) HSZ.out ?_); intro v3 w3 hown3 hb3 ho3 hg3; have HO3 := Lib.hid hown3; have HB3 := Lib.hid hb3; have HS3 := Lib.hid ho3; have HG3 := Lib.hid hg3; clear hown3 hb3 ho3 hg3)
            go_roundw
            case rel =>
              refine ⟨q + 1, by omega, by go_num, ?_, HX2.out.trans HB3.out, HS3.out.cell HCF.out HNE.out, ?_, by have := HS3.out.size; omega⟩
              · have h := HO3.out
                rw [List.replicate_succ', ← List.append_assoc, List.map_append, List.length_append]
                exact h
              · rcases HG3.out with e | ⟨k', e, hle⟩
                · rw [e]; exact HNE.out
                · rw [e]; intro e2; have : k' = g7 := by simpa using e2
                  omega
            case measure => simp [intOf]; omega
          · clear hcf
            go_wp2_with fail
            go_roundw
            case rel =>
              have e : q = ct.toNat := by omega
              exact ⟨k + 1, by omega, by go_num, by rw [HFS.out, ← e]; exact HO2.out, HX2.out⟩
            case measure => simp [intOf]; omega
      · have HALL := Lib.hid (show rs.take k = rs from List.take_of_length_le (by have := HN.out; omega))
        go_wp2_with fail
        go_ret2
        refine ⟨_, by rw [HYES.out]; rfl, ?_, HX.out⟩
        rw [HYES.out]
        have h := HO.out
        rw [HALL.out] at h
        have hm := HM.out
        rw [HALL.out] at hm
        rw [hm]
        exact h
  · have HC := flatS_no he
    have HA := Lib.hid (show ∃ E : Int, (E = 1 ∨ E = 3) ∧ flatS rs = ([], E) by rcases HC with h | h <;> exact ⟨_, by simp, h⟩)
    clear he HC
    obtain ⟨E, hE, hfs⟩ := HA.out
    have HFS := Lib.hid hfs
    rw [hfs] at HF ⊢
    clear hfs HA
    rcases hE with rfl | rfl
    all_goals
      go_enter Try.func16, Try.ntmps16
      go_wp2_with fail
      refine HF.out.mono ?_
      rintro e w1 ⟨rfl, hx1⟩
      have HX1 := Lib.hid hx1
      clear hx1
      go_wp2_with fail
      go_ret2
      exact ⟨_, rfl, owns_nil _ _ _ _, HX1.out⟩

theorem pFlat9_any (u : Value) (rs : List Sp) (w : World) (hu : InSp w u rs) :
    Calls Try.prog 16 #[u] w fun e w' => AnsI w (flatS rs) e w' := flatRd9_any u rs w hu.rd hu.fits

end Go.Proofs.Ythjkfkajkbaegaa
