/-
  The contract of the document's own Flat.
-/
import Derived.Test.YthjkfkajkbaegaaAnswers
import Derived.Test.YthjkfkajkbaegaaRunsRefOf
namespace Go.Proofs.Ythjkfkajkbaegaa
open Go.RowKit Go.BigFrame

theorem goodR_take {rs : List Sp} (h : goodR rs) (j : Nat) : goodR (rs.take j) := fun s hs => h s (List.mem_of_mem_take hs)
theorem goodR_snoc {l : List Sp} {s : Sp} (h : goodR l) (hs : 1 ≤ s.t) : goodR (l ++ [s]) := fun x hx => by
  rcases List.mem_append.1 hx with hx | hx
  · exact h x hx
  · rw [List.mem_singleton.1 hx]; exact hs
theorem sumR_take_le {rs : List Sp} (h : goodR rs) (j : Nat) : sumR (rs.take j) ≤ sumR rs := by
  have e : rs = rs.take j ++ rs.drop j := (List.take_append_drop j rs).symm
  have h2 : 0 ≤ sumR (rs.drop j) := sumR_nonneg fun s hs => h s (List.mem_of_mem_drop hs)
  have h3 := sumR_append (rs.take j) (rs.drop j)
  rw [← e] at h3
  omega
theorem sumR_take_succ {rs : List Sp} {j : Nat} (hj : j < rs.length) : sumR (rs.take (j + 1)) = sumR (rs.take j) + rs[j].t := by
  rw [List.take_succ_eq_append_getElem hj, sumR_append, sumR, sumR]
  omega
theorem flat_take_succ {rs : List Sp} {j : Nat} (hj : j < rs.length) : flat (rs.take (j + 1)) = flat (rs.take j) ++ List.replicate rs[j].t.toNat rs[j].f := by
  rw [List.take_succ_eq_append_getElem hj, flat_append, flat_one]

set_option maxRecDepth 100000 in
set_option maxHeartbeats 2000000 in
theorem refFlat_any (u : Value) (rs : List Sp) (w : World) (hu : RdSp w u rs) :
    Calls Try.prog 17 #[u] w fun e w' => AnsI w (flatS rs) e w' := by
  obtain ⟨i0, hi, hz0, hz1, hz2⟩ := info_parts Try.info_int8
  obtain ⟨ao, cap, rfl, h1, h2, hat, -⟩ := hu
  have HAT := Lib.hid hat
  obtain ⟨N, hN⟩ : ∃ N, rs.length = N := ⟨_, rfl⟩
  have HN := Lib.hid hN
  unfold maxLen at h2
  rw [hN] at h1 ⊢
  clear hat hN
  go_enter Try.func17, Try.ntmps17
  go_wp2_with fail
  go_loopw [4] (fun i wr => ∃ j : Nat, j ≤ N ∧ i = .int .i64 j ∧ goodR (rs.take j) ∧ w = wr) (fun i _ => N - (intOf i).toNat)
  case atStart => exact ⟨0, Nat.zero_le _, rfl, fun s hs => (by simp at hs), rfl⟩
  case round =>
    obtain ⟨j, hj, rfl, hg, rfl⟩ := hrel
    have HG := Lib.hid hg
    clear hg
    by_cases hlt : j < N
    · have hjl : j < rs.length := by have := HN.out; omega
      obtain ⟨g, off, rfl, hx0, hx1⟩ := HAT.out j hjl
      have HB := Lib.hid (fun (h : ¬ 1 ≤ rs[j].t) => (show flatS rs = ([], 1) from flatS_bad fun hg => h (hg _ (List.getElem_mem hjl))))
      have HS := Lib.hid (fun (h : 1 ≤ rs[j].t) => (show goodR (rs.take (j + 1)) by rw [List.take_succ_eq_append_getElem hjl]; exact goodR_snoc HG.out h))
      generalize rs[j] = c at hx0 hx1 HB HS
      obtain ⟨cf, ct⟩ := c
      simp only at hx0 hx1
      clear hjl hx0
      by_cases hc : ct < 1
      · have HNO := Lib.hid (HB.out (by simp only; omega))
        go_wp2_with fail
        go_ret2
        exact ⟨_, by rw [HNO.out]; rfl, by rw [HNO.out]; exact owns_nil _ _ _ _, Ext.keeps.refl _⟩
      · have HG2 := Lib.hid (HS.out (by simp only; omega))
        go_wp2_with fail
        go_roundw
        case rel => exact ⟨j + 1, by omega, by go_num, HG2.out, trivial⟩
        case measure => simp [intOf]; omega
    · have HGD := Lib.hid (show goodR rs by have h := HG.out; rw [List.take_of_length_le (by have := HN.out; omega)] at h; exact h)
      go_wp2_with fail
      go_loopw [5, 6] (fun v i wr => ∃ k : Nat, k ≤ N ∧ i = .int .i64 k ∧ sumR (rs.take k) ≤ 4096 ∧ wr.ownsRow w.heap.size 3 1 v (flat (rs.take k)).length ((flat (rs.take k)).map (Value.int .i64)) ∧ Below w.heap.size w wr) (fun _ i _ => N - (intOf i).toNat)
      case atStart => exact ⟨0, Nat.zero_le _, rfl, by simp [sumR], owns_nil _ _ _ _, Below.refl _ _⟩
      case round =>
        obtain ⟨k, hk, rfl, hsm, hown, hx⟩ := hrel
        have HX := Lib.hid hx
        obtain ⟨so, sc, rfl, hs1, hs2⟩ := own_shapeP hown
        have HO := Lib.hid hown
        have HFL := Lib.hid (show ((flat (rs.take k)).length : Int) = sumR (rs.take k) from flat_length (goodR_take HGD.out k))
        obtain ⟨M, hM⟩ : ∃ M, (flat (rs.take k)).length = M := ⟨_, rfl⟩
        rw [hM] at HO HFL hs1 ⊢
        have HM := Lib.hid hM
        have HSM := Lib.hid hsm
        have hM4 : M ≤ 4096 := by have := HFL.out; omega
        unfold maxLen at hs2
        clear hown hx hsm hM
        by_cases hlt2 : k < N
        · have hkl : k < rs.length := by have := HN.out; omega
          obtain ⟨g, off, rfl, hx0, hx1⟩ := HAT.out k hkl
          have HC0 := Lib.hid (fun W (h : Below w.heap.size w W) => (h.cell (lt_of_cell hx0)).trans hx0)
          have HC1 := Lib.hid (fun W (h : Below w.heap.size w W) => (h.cell (lt_of_cell hx1)).trans hx1)
          have HGC := Lib.hid (HGD.out _ (List.getElem_mem hkl))
          have HSS := Lib.hid (sumR_take_succ hkl)
          have HFS := Lib.hid (flat_take_succ hkl)
          have HLE := Lib.hid (sumR_take_le HGD.out (k + 1))
          generalize rs[k] = c at HC0 HC1 HGC HSS HFS
          obtain ⟨cf, ct⟩ := c
          simp only at HC0 HC1 HGC HSS HFS
          have hc1 := HC1.out _ HX.out
          clear hkl hx0 hx1
          by_cases hbig : 4096 - (M : Int) < ct
          · have HNO := Lib.hid (show flatS rs = ([], 3) from flatS_long HGD.out (by have := HLE.out; have := HSS.out; have := HFL.out; omega))
            go_wp2_with fail
            go_ret2
            exact ⟨_, by rw [HNO.out]; rfl, by rw [HNO.out]; exact owns_nil _ _ _ _, HX.out⟩
          · go_wp2_with fail
            clear hc1
            go_loopw [5, 7] (fun v i wk => ∃ q : Nat, (q : Int) ≤ ct ∧ i = .int .i64 q ∧ wk.ownsRow w.heap.size 3 1 v (flat (rs.take k) ++ List.replicate q cf).length ((flat (rs.take k) ++ List.replicate q cf).map (Value.int .i64)) ∧ Below w.heap.size w wk) (fun _ i _ => ct.toNat - (intOf i).toNat)
            case atStart => exact ⟨0, by have := HGC.out; omega, rfl, by rw [List.replicate_zero, List.append_nil, HM.out]; exact HO.out, HX.out⟩
            case round =>
              obtain ⟨q, hq, rfl, hown, hx⟩ := hrel
              have HX2 := Lib.hid hx
              have HSZ := Lib.hid hx.size
              have HO2 := Lib.hid hown
              have HLEN := Lib.hid (show (flat (rs.take k) ++ List.replicate q cf).length ≤ 5000 by rw [List.length_append, HM.out, List.length_replicate]; omega)
              have hc0 := HC0.out _ hx
              have hc1 := HC1.out _ hx
              clear hown hx
              by_cases hqt : (q : Int) < ct
              · go_wp2_with (at_builtin; go_must (refine wpList_append_own _ rfl (.tmp 44) (.tmp 50) 22 rfl w.heap.size 3 i0 (.int .i64 0) 1 8 Try.underlying22 hi hz0 hz1 hz2 rfl (by decide) _ _ _ rfl (HO2.out.alloc _) ⟨wr.heap.size, 0, none⟩ 1 1 [_] rfl rfl (row_new _ _ _) (by simp [Value.oneCell']) (by have := HLEN.out; unfold maxLen; omega) (by have := HLEN.out; omega) (by have := HSZ.out; simp; omega) ?_); intro v3 w3 hown3 hgrow3 _; have HO3 := Lib.hid hown3; have HG3 := Lib.hid hgrow3; clear hown3 hgrow3)
                go_roundw
                case rel =>
                  refine ⟨q + 1, by omega, by go_num, ?_, HX2.out.trans (((Below.refl w.heap.size wr).alloc HSZ.out _).grown HG3.out (by simp; have := HSZ.out; omega) (fun b hb => (HO2.out.lt b hb).1))⟩
                  have h := HO3.out
                  rw [List.replicate_succ', ← List.append_assoc, List.map_append, List.length_append]
                  exact h
                case measure => simp [intOf]; omega
              · go_wp2_with fail
                go_roundw
                case rel =>
                  have e : q = ct.toNat := by omega
                  exact ⟨k + 1, by omega, by go_num, by have := HSS.out; have := HFL.out; omega, by rw [HFS.out, ← e]; exact HO2.out, HX2.out⟩
                case measure => simp [intOf]; omega
        · have HALL := Lib.hid (show rs.take k = rs from List.take_of_length_le (by have := HN.out; omega))
          have HYES := Lib.hid (show flatS rs = (flat rs, 0) from flatS_ok HGD.out (by have := HSM.out; rw [HALL.out] at this; exact this))
          go_wp2_with fail
          go_ret2
          refine ⟨_, by rw [HYES.out]; rfl, ?_, HX.out⟩
          rw [HYES.out]
          have h := HO.out
          rw [HALL.out] at h
          have hm := HM.out
          rw [HALL.out] at hm
          rw [hm]
          exact h

end Go.Proofs.Ythjkfkajkbaegaa
