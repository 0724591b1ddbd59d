/-
  The contract of the document's own Pack.
-/
import Derived.Laws.OwnMore
import Derived.Test.YtgfgmgekkmaipaaPackRef1
namespace Go.Proofs.Ytgfgmgekkmaipaa
open Go.RowKit Go.BigFrame

theorem le_zero (n : Nat) : le n 0 = List.replicate n 0 := by
  induction n with
  | zero => rfl
  | succ n ih => rw [le, Nat.zero_mod, Nat.zero_div, ih]; rfl

/-- make([]byte, n), as a fact of the walk. -/
theorem make_bytes (w : World) (n : Nat) (hn : n ≤ 1000000) : ∃ w', (Instr.makeSlice 24 (.int .i64 (n : Int)) (.int .i64 (n : Int))).run Try.prog w = .ok (.slice (some ⟨w.heap.size, 0, none⟩) n n) w' ∧ w'.ownsRow w.heap.size 5 1 (.slice (some ⟨w.heap.size, 0, none⟩) n n) n ((le n 0).map bv) ∧ Ext w w' := by
  obtain ⟨i0, hi, hz0, hz1, hz2⟩ := info_parts Try.info5
  obtain ⟨w', hrun, hown, hgrow⟩ := run_makeSlice_full (P := Try.prog) w w.heap.size 24 5 i0 (.int .u8 0) 1 Try.underlying24 hi hz0 hz1 .i64 .i64 n (by omega) (by rw [hz2]; omega) (by unfold maxLen; omega) (Nat.le_refl _)
  refine ⟨w', hrun, ?_, ⟨hgrow.os, hgrow.tape, hgrow.output, hgrow.size, fun k hk => hgrow.block k hk (by simp)⟩⟩
  have e : (madeCells (Value.int .u8 0).cells (n * 1)).toList = (le n 0).map bv := by
    rw [Nat.mul_one, le_zero, List.map_replicate]
    exact toList_madeCells_one _ _
  rwa [e] at hown

/-- One more bit of a number. -/
theorem bit_step (x k : Nat) : x % 2 ^ (k + 1) = x % 2 ^ k + 2 ^ k * (x / 2 ^ k % 2) := Nat.mod_pow_succ
theorem part_lt {W i k x B : Nat} (hB : B < 2 ^ (i * W)) : B + 2 ^ (i * W) * (x % 2 ^ k) < 2 ^ (i * W + k) := by
  have h1 : x % 2 ^ k + 1 ≤ 2 ^ k := Nat.mod_lt _ (Nat.two_pow_pos k)
  have h2 : 2 ^ (i * W) * (x % 2 ^ k + 1) ≤ 2 ^ (i * W) * 2 ^ k := Nat.mul_le_mul_left _ h1
  rw [Nat.mul_add, Nat.mul_one, ← Nat.pow_add] at h2
  omega
theorem part_step {W i k x B : Nat} : B + 2 ^ (i * W) * (x % 2 ^ (k + 1)) = B + 2 ^ (i * W) * (x % 2 ^ k) + 2 ^ (i * W + k) * (x / 2 ^ k % 2) := by
  rw [bit_step, Nat.mul_add, ← Nat.mul_assoc, ← Nat.pow_add, Nat.add_assoc]

theorem bv_add (C s : Nat) : bv (UInt8.ofNat (C + 2 ^ s)) = .int .u8 (((C : Int) + 2 ^ s) % 256) := by
  unfold bv
  rw [UInt8.toNat_ofNat', Int.natCast_emod, Int.natCast_add, Int.natCast_pow]
  rfl

set_option maxRecDepth 100000 in
set_option maxHeartbeats 2000000 in
theorem refPack_any (u : Value) (l : List Nat) (width : Int) (w : World) (hu : RdV w u (l.map uv)) (hl : ∀ x ∈ l, x < 2 ^ 64) (hl2 : l.length ≤ 100000) (hw : -9223372036854775808 ≤ width ∧ width ≤ 9223372036854775807) :
    Calls Try.prog 11 #[u, .int .i64 width] w fun e w' => AnsB w (packS l width) e w' := by
  obtain ⟨ao, cap, rfl, h1, h2, hat⟩ := RdV.cellsAt hu
  rw [List.length_map] at h1 ⊢
  have HAT := Lib.hid hat
  have HL := Lib.hid hl
  have HBY := Lib.hid (fun W => refBytes_any (l.length : Int) width W (by omega) hw)
  obtain ⟨N, hN⟩ : ∃ N, l.length = N := ⟨_, rfl⟩
  have HN := Lib.hid hN
  unfold maxLen at h2
  rw [hN] at h1 hl2 HBY ⊢
  by_cases he : (bytesS (N : Int) width).2 = 0
  · obtain ⟨_, b1, b2, b3, b4⟩ := bytesS_ok he
    obtain ⟨W, rfl⟩ := Int.eq_ofNat_of_zero_le b2
    have hNW : N * W ≤ 4096 * 64 := Nat.mul_le_mul (by omega) (by omega)
    obtain ⟨n, hn⟩ : ∃ n, (N * W + 7) / 8 = n := ⟨_, rfl⟩
    have hbe : (bytesS (N : Int) (W : Int)) = ((n : Int), 0) := by
      refine Prod.ext ?_ he
      rw [b4, ← hn, ← Int.natCast_mul]
      omega
    have hn5 : n ≤ 40000 := by omega
    rw [hbe] at HBY
    have HANS := Lib.hid (show packS l (W : Int) = if widthS l ≤ W then (packB l W, 0) else ([], 8) by unfold packS; rw [hN, if_pos he, Int.toNat_natCast])
    have HNE := Lib.hid hn
    obtain ⟨w0, hmk, hown, hext⟩ := make_bytes w n (by omega)
    have HOWN := Lib.hid hown
    have HX0 := Lib.hid hext
    obtain ⟨G, hG⟩ : ∃ G, w.heap.size = G := ⟨_, rfl⟩
    have HG := Lib.hid hG
    rw [hG] at hmk HOWN
    have HW64 := Lib.hid b3
    clear hat hN hu hl hbe he b1 b2 b4 hown hext hG hn
    go_enter Try.func11, Try.ntmps11
    go_wp2_with fail
    refine (HBY.out w).mono ?_
    rintro e wx ⟨rfl, rfl⟩
    go_wp2_with fail
    clear hmk
    go_loopw [9, 10] (fun a i wr => ∃ j : Nat, j ≤ N ∧ i = .int .i64 j ∧ a = .int .i64 ((j * W : Nat) : Int) ∧ (∀ x ∈ l.take j, x < 2 ^ W) ∧ wr.ownsRow G 5 1 (.slice (some ⟨G, 0, none⟩) n n) n ((le n (bigOf W (l.take j))).map bv) ∧ Below w.heap.size w wr) (fun _ i _ => N - (intOf i).toNat)
    case atStart => exact ⟨0, Nat.zero_le _, rfl, by simp, fun x hx => (by cases hx), HOWN.out, HX0.out⟩
    case round =>
      obtain ⟨j, hj, rfl, rfl, hall, hown, hx⟩ := hrel
      have HALL := Lib.hid hall
      have HO := Lib.hid hown
      have HX := Lib.hid hx
      clear hall hown hx
      by_cases hlt : j < N
      · have hjl : j < l.length := by have := HN.out; omega
        obtain ⟨y, rfl, hcv⟩ := HAT.out j (uv l[j]) (by rw [List.getElem?_map, List.getElem?_eq_getElem hjl]; rfl)
        have hcx := (HX.out.cell (lt_of_cell hcv)).trans hcv
        unfold uv at hcx
        have HST := Lib.hid (List.take_succ_eq_append_getElem hjl)
        have HXL := Lib.hid (HL.out l[j] (List.getElem_mem hjl))
        have HBAD := Lib.hid (fun h : ¬ (l[j] < 2 ^ W) => (show packS l (W : Int) = ([], 8) by
          rw [HANS.out, if_neg]
          intro hle
          exact h ((widthS_iff HL.out W).1 hle _ (List.getElem_mem hjl))))
        have HTL := Lib.hid (show (l.take j).length = j by rw [List.length_take]; omega)
        generalize l[j] = x at hcx HST HXL HBAD
        have HIFF := Lib.hid (bitLen_le_iff (w := W) HXL.out)
        have HBI := Lib.hid (fun V => refBits_any x V HXL.out)
        have hb64 := bitLen_le x
        obtain ⟨B, hB⟩ : ∃ B, Lib.bitLen x = B := ⟨_, rfl⟩
        rw [hB] at HIFF HBI hb64
        clear hcv hB
        go_wp2_with fail
        refine (HBI.out _).mono ?_
        rintro e w2 ⟨rfl, rfl⟩
        by_cases hbw : W < B
        · go_wp2_with fail
          go_ret2
          have hA := HBAD.out (fun h => by have := HIFF.out.2 h; omega)
          exact ⟨_, by rw [hA]; rfl, by rw [hA]; exact owns_nil _ _ _ _, HX.out⟩
        · have HXW := Lib.hid (HIFF.out.1 (by omega))
          have hjW : j * W + W ≤ N * W := by
            have : (j + 1) * W ≤ N * W := Nat.mul_le_mul_right _ (by omega)
            rw [Nat.add_mul, Nat.one_mul] at this
            exact this
          have HBL := Lib.hid (show bigOf W (l.take j) < 2 ^ (j * W) by have := bigOf_lt W (l.take j) HALL.out; rwa [HTL.out] at this)
          obtain ⟨A, hA⟩ : ∃ A, j * W = A := ⟨_, rfl⟩
          have HAE := Lib.hid hA
          rw [hA] at hjW ⊢
          clear hA
          have hA4 : A + W ≤ 262144 := by omega
          go_wp2_with fail
          go_loopw [9, 11, 12] (fun a xv kv wk => ∃ k : Nat, k ≤ W ∧ a = .int .i64 ((A + k : Nat) : Int) ∧ xv = .int .u64 ((x / 2 ^ k : Nat) : Int) ∧ kv = .int .i64 k ∧ wk.ownsRow G 5 1 (.slice (some ⟨G, 0, none⟩) n n) n ((le n (bigOf W (l.take j) + 2 ^ (j * W) * (x % 2 ^ k))).map bv) ∧ Below w.heap.size w wk) (fun _ _ kv _ => W - (intOf kv).toNat)
          case atStart => exact ⟨0, Nat.zero_le _, by simp, by simp, rfl, by rw [Nat.pow_zero, Nat.mod_one, Nat.mul_zero, Nat.add_zero]; exact HO.out, HX.out⟩
          case round =>
            obtain ⟨k, hk, rfl, rfl, rfl, hown, hx⟩ := hrel
            have HO2 := Lib.hid hown
            have HX2 := Lib.hid hx
            clear hown hx
            by_cases hkW : k < W
            · have hP := part_lt (W := W) (i := j) (k := k) (x := x) HBL.out
              have hPS := part_step (W := W) (i := j) (k := k) (x := x) (B := bigOf W (l.take j))
              have HDIV := Lib.hid (show x / 2 ^ k / 2 = x / 2 ^ (k + 1) by rw [Nat.div_div_eq_div_mul, Nat.pow_succ])
              have hx64 : x / 2 ^ k < 18446744073709551616 := Nat.lt_of_le_of_lt (Nat.div_le_self _ _) HXL.out
              rw [HAE.out] at hP hPS
              have HP := Lib.hid hP
              have HPS := Lib.hid hPS
              obtain ⟨M, hM⟩ : ∃ M, A + k = M := ⟨_, rfl⟩
              have HM := Lib.hid hM
              have hM8 : M / 8 < n := by have := HNE.out; omega
              rw [hM] at HP HPS ⊢
              rw [HAE.out] at HO2
              generalize x / 2 ^ k = X at HDIV hx64 HPS ⊢
              clear hP hPS hM
              by_cases hodd : X % 2 = 1
              · obtain ⟨hset, hlt256⟩ := le_bit n _ M HP.out hM8
                have HSET := Lib.hid hset
                have hcell := HO2.out.cellAt (M / 8) (by omega)
                rw [List.getElem?_map, le_get _ _ _ hM8] at hcell
                have hfree := HO2.out.frozenAt (M / 8)
                have hob : (((X : Int) % 2) == 1) = true := by rw [beq_iff_eq]; omega
                have hsh : M % 8 < 8 := Nat.mod_lt _ (by decide)
                generalize hBY : bigOf W (l.take j) + 2 ^ A * (x % 2 ^ k) = P at hset hlt256 hcell HO2 HPS HSET
                simp only [Option.map_some] at hcell
                unfold bv at hcell
                obtain ⟨C, hC⟩ : ∃ C, P / 256 ^ (M / 8) % 256 = C := ⟨_, rfl⟩
                rw [hC] at hcell hlt256
                have hc2 : ((UInt8.ofNat C).toNat : Int) = (C : Int) := by rw [UInt8.toNat_ofNat']; omega
                rw [hc2] at hcell
                have HC := Lib.hid hC
                have HLT := Lib.hid hlt256
                have hC256 : C < 256 := by omega
                have HODD := Lib.hid hodd
                clear hset hBY hC hc2 hodd hlt256
                go_wp2_with fail
                go_region
                go_wp2_with fail
                go_roundw
                case rel =>
                  refine ⟨k + 1, by omega, by rw [← Nat.add_assoc, HM.out]; rfl, by rw [← HDIV.out, Int.natCast_ediv]; rfl, by go_num, ?_, ?_⟩
                  · have h := (HO2.out.stored (M / 8) (bv (UInt8.ofNat (C + 2 ^ (M % 8))))).1
                    rw [← List.map_set] at h
                    have hs := HSET.out
                    rw [HC.out] at hs
                    rw [← hs, bv_add] at h
                    rw [HAE.out, HPS.out, HODD.out, Nat.mul_one]
                    exact owns_later h (Ext.drew _)
                  · exact HX2.out.trans (((OnlyS.of_onlyP (X := fun b => b = G) (OnlyP.set G (M / 8) wr _) rfl).below HX2.out.size (fun b hb => by rw [hb, HG.out]; exact Nat.le_refl _)).trans ((Ext.drew _).mono (by have := HX2.out.size; simpa [World.setCell] using this)))
                case measure => simp [intOf]; omega
              · have hob : (((X : Int) % 2) == 1) = false := by rw [beq_eq_false_iff_ne]; omega
                have HEV := Lib.hid (show X % 2 = 0 by omega)
                clear hodd
                go_wp2_with fail
                go_roundw
                case rel => exact ⟨k + 1, by omega, by rw [← Nat.add_assoc, HM.out]; rfl, by rw [← HDIV.out, Int.natCast_ediv]; rfl, by go_num, by rw [HAE.out, HPS.out, HEV.out, Nat.mul_zero, Nat.add_zero]; exact HO2.out, HX2.out⟩
                case measure => simp [intOf]; omega
            · have HK := Lib.hid (show k = W by omega)
              go_wp2_with fail
              go_roundw
              case rel =>
                refine ⟨j + 1, by omega, by go_num, by rw [HK.out, Nat.add_mul, Nat.one_mul, HAE.out], fun z hz => ?_, ?_, HX2.out⟩
                · rw [HST.out] at hz
                  rcases List.mem_append.1 hz with hz | hz
                  · exact HALL.out z hz
                  · have : z = x := by simpa using hz
                    rw [this]
                    exact HXW.out
                · have h := HO2.out
                  rw [HK.out, Nat.mod_eq_of_lt HXW.out] at h
                  rw [HST.out, bigOf_snoc, HTL.out]
                  exact h
              case measure => simp [intOf]; omega
      · have HFULL := Lib.hid (show l.take j = l from List.take_of_length_le (by have := HN.out; omega))
        go_wp2_with fail
        go_ret2
        have hA : packS l (W : Int) = (packB l W, 0) := by
          rw [HANS.out, if_pos]
          rw [widthS_iff HL.out]
          have := HALL.out
          rwa [HFULL.out] at this
        refine ⟨_, by rw [hA]; rfl, ?_, HX.out⟩
        rw [hA, packB_length, HN.out, HNE.out, HG.out]
        have h := HO.out
        rw [HFULL.out] at h
        unfold packB
        rw [HN.out, HNE.out]
        exact h
  · have HANS := Lib.hid (show packS l width = ([], (bytesS (N : Int) width).2) by unfold packS; rw [hN, if_neg he])
    generalize bytesS (N : Int) width = R at HBY HANS he
    obtain ⟨r1, r2⟩ := R
    have hne : (r2 == (0 : Int)) = false := beq_eq_false_iff_ne.2 he
    clear he hat hu hl hN
    go_enter Try.func11, Try.ntmps11
    go_wp2_with fail
    refine (HBY.out w).mono ?_
    rintro e wx ⟨rfl, rfl⟩
    go_wp2_with fail
    go_ret2
    exact ⟨_, by rw [HANS.out]; rfl, by rw [HANS.out]; exact owns_nil _ _ _ _, Ext.keeps.refl _⟩

end Go.Proofs.Ytgfgmgekkmaipaa
