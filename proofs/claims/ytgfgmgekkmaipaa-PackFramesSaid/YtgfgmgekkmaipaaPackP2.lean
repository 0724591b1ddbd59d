/-
  The program's own Unpack.
-/
import Derived.Test.YtgfgmgekkmaipaaPackRef3
import Derived.Test.YtgfgmgekkmaipaaPackP1
namespace Go.Proofs.Ytgfgmgekkmaipaa
open Go.RowKit Go.BigFrame

theorem restIsZero_any (u : Value) (b : List UInt8) (used : Nat) (w : World) (hu : Rd w u b) (hb : b.length = (used + 7) / 8) (hused : used ≤ 262144) :
    Calls Try.prog 28 #[u, .int .i64 (used : Int)] w fun e w' => e = .returned (.bool (decide (ofLe b < 2 ^ used))) ∧ w = w' := by
  obtain ⟨ao, cap, rfl, h1, h2, hat⟩ := RdV.cellsAt hu
  rw [List.length_map] at h1 ⊢
  unfold maxLen at h2
  by_cases h8 : used % 8 = 0
  · have HA := Lib.hid (show decide (ofLe b < 2 ^ used) = true from decide_eq_true (rest_full hb h8))
    have hq : (((used : Int) % 8) == 0) = true := by rw [beq_iff_eq]; omega
    generalize b.length = N at h1 ⊢
    clear hat hu h8 hb
    go_enter Try.func28, Try.ntmps28
    go_wp2_with fail
    go_ret
    exact ⟨by rw [HA.out]; rfl, rfl⟩
  · have hp : b.length - 1 < b.length := by omega
    have hq : (((used : Int) % 8) == 0) = false := by rw [beq_eq_false_iff_ne]; omega
    have HZ := Lib.hid (rest_zero hb h8 hp)
    obtain ⟨y, rfl, hcv⟩ := hat (b.length - 1) (bv b[b.length - 1]) (by rw [List.getElem?_map, List.getElem?_eq_getElem hp]; rfl)
    unfold bv at hcv
    have hc256 : (b[b.length - 1]).toNat < 256 := UInt8.toNat_lt _
    generalize (b[b.length - 1]).toNat = c at hcv HZ hc256
    obtain ⟨M, hM⟩ : ∃ M, b.length = M + 1 := ⟨b.length - 1, by omega⟩
    rw [hM] at h1 ⊢
    rw [hM, Nat.add_sub_cancel] at hcv
    have hs : used % 8 < 8 := Nat.mod_lt _ (by decide)
    have hi : ((M + 1 : Nat) : Int) - 1 = (M : Int) := by omega
    clear hat hu h8 hb hp hM
    by_cases hz : c / 2 ^ (used % 8) = 0
    · have HA := Lib.hid (show decide (ofLe b < 2 ^ used) = true from decide_eq_true (HZ.out.1 hz))
      have hqz : ((((c : Int) / 2 ^ (used % 8))) == 0) = true := by
        rw [beq_iff_eq]
        have e0 : ((c : Int) / 2 ^ (used % 8)) = ((c / 2 ^ (used % 8) : Nat) : Int) := by rw [Int.natCast_ediv, Int.natCast_pow]; rfl
        rw [e0, hz]; rfl
      clear hz
      go_enter Try.func28, Try.ntmps28
      go_wp2_with fail
      go_ret
      exact ⟨by rw [HA.out]; rfl, rfl⟩
    · have HA := Lib.hid (show decide (ofLe b < 2 ^ used) = false from decide_eq_false (fun h => hz (HZ.out.2 h)))
      have hqz : ((((c : Int) / 2 ^ (used % 8))) == 0) = false := by
        rw [beq_eq_false_iff_ne]
        have e0 : ((c : Int) / 2 ^ (used % 8)) = ((c / 2 ^ (used % 8) : Nat) : Int) := by rw [Int.natCast_ediv, Int.natCast_pow]; rfl
        rw [e0]; omega
      clear hz
      go_enter Try.func28, Try.ntmps28
      go_wp2_with fail
      go_ret
      exact ⟨by rw [HA.out]; rfl, rfl⟩

set_option maxRecDepth 100000 in
theorem takeBits_any (u : Value) (b : List UInt8) (at' W : Nat) (w : World) (hu : Rd w u b) (hW : W ≤ 64) (hat' : at' + W ≤ 8 * b.length) (hb : b.length ≤ 100000) :
    Calls Try.prog 29 #[u, .int .i64 (at' : Int), .int .i64 (W : Int)] w fun e w' => e = .returned (.int .u64 ((ofLe b / 2 ^ at' % 2 ^ W : Nat) : Int)) ∧ w = w' := by
  obtain ⟨ao, cap, rfl, h1, h2, hat⟩ := RdV.cellsAt hu
  rw [List.length_map] at h1 ⊢
  have HAT := Lib.hid hat
  unfold maxLen at h2
  obtain ⟨N, hN⟩ : ∃ N, b.length = N := ⟨_, rfl⟩
  have HN := Lib.hid hN
  rw [hN] at h1 hat' hb ⊢
  have HBY := Lib.hid (fun i hi => ofLe_byte b i hi)
  obtain ⟨B, hB⟩ : ∃ B, ofLe b = B := ⟨_, rfl⟩
  rw [hB] at HBY ⊢
  clear hat hu hN hB
  go_enter Try.func29, Try.ntmps29
  go_wp2_with fail
  go_loopw [1, 7, 8] (fun av nv gv wr => ∃ g : Nat, av = .int .i64 ((at' + g : Nat) : Int) ∧ nv = .int .u64 ((B / 2 ^ at' % 2 ^ g % 2 ^ 64 : Nat) : Int) ∧ gv = .int .i64 (g : Int) ∧ g ≤ 72 ∧ w = wr) (fun _ _ gv _ => W - (intOf gv).toNat)
  case atStart => exact ⟨0, rfl, by simp [Nat.mod_one], rfl, by omega, rfl⟩
  case round =>
    obtain ⟨g, rfl, rfl, rfl, hg, rfl⟩ := hrel
    by_cases hlt : g < W
    · obtain ⟨K, hK⟩ : ∃ K, at' + g = K := ⟨_, rfl⟩
      have hK8 : K / 8 < N := by omega
      have hKb : K / 8 < b.length := by rw [HN.out]; exact hK8
      obtain ⟨y, rfl, hcv⟩ := HAT.out (K / 8) (bv b[K / 8]) (by rw [List.getElem?_map, List.getElem?_eq_getElem hKb]; rfl)
      have HST := Lib.hid (take_step (B := B) (a := at') (g := g) (by omega))
      rw [hK, ← HBY.out (K / 8) hKb] at HST
      unfold bv at hcv
      have hc256 : (b[K / 8]).toNat < 256 := UInt8.toNat_lt _
      generalize (b[K / 8]).toNat = c at hcv HST hc256
      have hXl : B / 2 ^ at' % 2 ^ g % 2 ^ 64 < 2 ^ g := Nat.lt_of_le_of_lt (Nat.mod_le _ _) (Nat.mod_lt _ (Nat.two_pow_pos g))
      have hX64 : B / 2 ^ at' % 2 ^ g % 2 ^ 64 < 18446744073709551616 := Nat.mod_lt _ (by decide)
      obtain ⟨X, hX⟩ : ∃ X, B / 2 ^ at' % 2 ^ g % 2 ^ 64 = X := ⟨_, rfl⟩
      rw [hX] at HST hXl hX64 ⊢
      have HMB := Lib.hid (more_bits (X := X) (c := c) (s := K % 8) (g := g) hXl (by omega) hc256)
      have hs : K % 8 < 8 := Nat.mod_lt _ (by decide)
      have HKE := Lib.hid hK
      rw [hK]
      clear hKb hX hXl hK
      go_wp2_with fail
      go_roundw
      case rel => exact ⟨g + (8 - K % 8), congrArg (Value.int .i64) (by have := HKE.out; omega), by rw [HMB.out, HST.out], congrArg (Value.int .i64) (by omega), by omega, trivial⟩
      case measure => simp [intOf]; omega
    · have HE := Lib.hid (take_end (B := B) (a := at') (g := g) (W := W) (by omega) hW)
      have HLB := Lib.hid (low_bits (X := B / 2 ^ at' % 2 ^ g % 2 ^ 64) (W := W) (Nat.mod_lt _ (by decide)) hW)
      have hX64 : B / 2 ^ at' % 2 ^ g % 2 ^ 64 < 18446744073709551616 := Nat.mod_lt _ (by decide)
      generalize B / 2 ^ at' % 2 ^ g % 2 ^ 64 = X at HE HLB hX64 ⊢
      go_wp2_with fail
      go_ret
      exact ⟨by rw [HLB.out, HE.out]; rfl, rfl⟩

/-- make([]uint64, n), as a fact of the walk. -/
theorem make_nums (w : World) (n : Nat) (hn : n ≤ 100000) : ∃ w', (Instr.makeSlice 22 (.int .i64 (n : Int)) (.int .i64 (n : Int))).run Try.prog w = .ok (.slice (some ⟨w.heap.size, 0, none⟩) n n) w' ∧ w'.ownsRow w.heap.size 47 1 (.slice (some ⟨w.heap.size, 0, none⟩) n n) n ((List.replicate n 0).map uv) ∧ Ext w w' := by
  obtain ⟨i0, hi, hz0, hz1, hz2⟩ := info_parts Try.info_u64
  obtain ⟨w', hrun, hown, hgrow⟩ := run_makeSlice_full (P := Try.prog) w w.heap.size 22 47 i0 (.int .u64 0) 1 Try.underlying22 hi hz0 hz1 .i64 .i64 n (by omega) (by rw [hz2]; omega) (by unfold maxLen; omega) (Nat.le_refl _)
  refine ⟨w', hrun, ?_, ⟨hgrow.os, hgrow.tape, hgrow.output, hgrow.size, fun k hk => hgrow.block k hk (by simp)⟩⟩
  have e : (madeCells (Value.int .u64 0).cells (n * 1)).toList = (List.replicate n 0).map uv := by
    rw [Nat.mul_one, List.map_replicate]
    exact toList_madeCells_one _ _
  rwa [e] at hown
/-- The first ones of a list, and the rest of another one. -/
theorem set_next {α : Type} (l : List α) (z : α) (j n : Nat) (hj : j < n) (hn : n = l.length) : (l.take j ++ List.replicate (n - j) z).set j (l[j]'(by omega)) = l.take (j + 1) ++ List.replicate (n - (j + 1)) z := by
  have hl : (l.take j).length = j := by rw [List.length_take]; omega
  obtain ⟨m, hm⟩ : ∃ m, n - j = m + 1 := ⟨n - j - 1, by omega⟩
  rw [hm, show n - (j + 1) = m by omega, List.replicate_succ, List.set_append_right _ _ (by omega), hl, Nat.sub_self, List.set_cons_zero, List.take_succ_eq_append_getElem (by omega), List.append_assoc]
  rfl

set_option maxRecDepth 100000 in
set_option maxHeartbeats 2000000 in
theorem pUnpack8_any (u : Value) (b : List UInt8) (many width : Int) (w : World) (hu : Rd w u b) (hb : b.length ≤ 100000) (hm : -9223372036854775808 ≤ many ∧ many ≤ 9223372036854775807) (hw : -9223372036854775808 ≤ width ∧ width ≤ 9223372036854775807) :
    Calls Try.prog 17 #[u, .int .i64 many, .int .i64 width] w fun e w' => AnsU w (unpackS b many width) e w' := by
  have HU := Lib.hid hu
  have HBB := Lib.hid hb
  obtain ⟨ao, cap, rfl, h1, h2, hat⟩ := RdV.cellsAt hu
  rw [List.length_map] at h1 HU ⊢
  have HBY := Lib.hid (fun W => pBytes8_any many width W hm hw)
  obtain ⟨N, hN⟩ : ∃ N, b.length = N := ⟨_, rfl⟩
  have HN := Lib.hid hN
  unfold maxLen at h2
  rw [hN] at h1 hb HU ⊢
  by_cases he : (bytesS many width).2 = 0
  · obtain ⟨b0, b1, b2, b3, b4⟩ := bytesS_ok he
    obtain ⟨M, rfl⟩ := Int.eq_ofNat_of_zero_le b0
    obtain ⟨W, rfl⟩ := Int.eq_ofNat_of_zero_le b2
    have hMW : M * W ≤ 4096 * 64 := Nat.mul_le_mul (by omega) (by omega)
    obtain ⟨n, hn⟩ : ∃ n, (M * W + 7) / 8 = n := ⟨_, rfl⟩
    have hbe : (bytesS (M : Int) (W : Int)) = ((n : Int), 0) := by
      refine Prod.ext ?_ he
      rw [b4, ← hn, ← Int.natCast_mul]
      omega
    have HANS := Lib.hid (show unpackS b (M : Int) (W : Int) = if ((N : Nat) : Int) = (n : Int) ∧ ofLe b < 2 ^ (M * W) then (digits W M (ofLe b), 0) else ([], 6) by unfold unpackS; rw [if_pos he, hbe, Int.toNat_natCast, Int.toNat_natCast, hN])
    rw [hbe] at HBY
    have HNE := Lib.hid hn
    have hW64 : W ≤ 64 := by omega
    have hM4 : M ≤ 4096 := by omega
    have hmul : (M : Int) * (W : Int) = ((M * W : Nat) : Int) := (Int.natCast_mul _ _).symm
    have hmb : 0 ≤ (M : Int) * (W : Int) ∧ (M : Int) * (W : Int) ≤ 262144 := by rw [hmul]; omega
    have HMUL := Lib.hid hmul
    clear hat hN hu hbe he b0 b1 b2 b3 b4 hn hm hw hmul
    by_cases hlen : N = n
    · subst hlen
      have hnn : ((N : Int) == (N : Int)) = true := beq_self_eq_true _
      have hnn2 : ((N : Int) != (N : Int)) = false := by simp
      have HRZ := Lib.hid (fun V h => restIsZero_any (.slice ao N cap) b (M * W) V h (by rw [HN.out, HNE.out]) hMW)
      go_enter Try.func17, Try.ntmps17
      go_wp2_with fail
      refine (HBY.out w).mono ?_
      rintro e wx ⟨rfl, hxx⟩
      have HXX := Lib.hid hxx
      clear hxx
      go_wp2_with fail
      rw [HMUL.out]
      refine (HRZ.out _ (HU.out.mono HXX.out)).mono ?_
      rintro e wy ⟨rfl, rfl⟩
      by_cases hz : ofLe b < 2 ^ (M * W)
      · have HA := Lib.hid (show unpackS b (M : Int) (W : Int) = (digits W M (ofLe b), 0) by rw [HANS.out, if_pos ⟨trivial, hz⟩])
        rw [decide_eq_true hz]
        obtain ⟨w0, hmk, hown, hext⟩ := make_nums wx M (by omega)
        have HX0 := Lib.hid (Ext.trans HXX.out hext)
        have HGE := Lib.hid (show w.heap.size ≤ wx.heap.size from HXX.out.size)
        obtain ⟨G, hG⟩ : ∃ G, wx.heap.size = G := ⟨_, rfl⟩
        rw [hG] at hmk hown HGE
        have HOWN := Lib.hid hown
        clear hown hext hG hz
        obtain ⟨D, hD⟩ : ∃ D, digits W M (ofLe b) = D := ⟨_, rfl⟩
        have HDL := Lib.hid (show D.length = M by rw [← hD, digits_length])
        have HDG := Lib.hid (fun i (hi : i < M) => show D[i]? = some (ofLe b / 2 ^ (i * W) % 2 ^ W) by rw [← hD]; exact digits_get W M (ofLe b) i hi)
        rw [hD] at HA
        clear hD
        go_wp2_with fail
        clear hmk
        go_loopw [37] (fun i wr => ∃ j : Nat, j ≤ M ∧ i = .int .i64 j ∧ wr.ownsRow G 47 1 (.slice (some ⟨G, 0, none⟩) M M) M ((D.take j ++ List.replicate (M - j) 0).map uv) ∧ Below w.heap.size w wr) (fun i _ => M - (intOf i).toNat)
        case atStart => exact ⟨0, Nat.zero_le _, rfl, HOWN.out, HX0.out⟩
        case round =>
          obtain ⟨j, hj, rfl, hown, hx⟩ := hrel
          have HO := Lib.hid hown
          have HX := Lib.hid hx
          clear hown hx
          by_cases hlt : j < M
          · have hjD : j < D.length := by have := HDL.out; omega
            have hjW : j * W + W ≤ M * W := by
              have : (j + 1) * W ≤ M * W := Nat.mul_le_mul_right _ (by omega)
              rw [Nat.add_mul, Nat.one_mul] at this
              exact this
            have HTK := Lib.hid (fun V h => takeBits_any (.slice ao N cap) b (j * W) W V h hW64 (by have := HNE.out; have := HN.out; omega) HBB.out)
            have HSN := Lib.hid (set_next D 0 j M hlt HDL.out.symm)
            have hg := HDG.out j hlt
            rw [List.getElem?_eq_getElem hjD] at hg
            have hg2 := Option.some.inj hg
            rw [← hg2] at HTK
            generalize D[j]'hjD = X at HTK HSN
            have hml : (j : Int) * (W : Int) = ((j * W : Nat) : Int) := (Int.natCast_mul _ _).symm
            have hmb2 : 0 ≤ (j : Int) * (W : Int) ∧ (j : Int) * (W : Int) ≤ 262144 := by rw [hml]; omega
            have HML := Lib.hid hml
            clear hml hg hg2 hjW hjD
            go_wp2_with fail
            rw [HML.out]
            refine (HTK.out _ (HU.out.mono HX.out)).mono ?_
            rintro e w2 ⟨rfl, rfl⟩
            have hcell := HO.out.cellAt j (by omega)
            have hfree := HO.out.frozenAt j
            rw [List.getElem?_map] at hcell
            obtain ⟨z, hz⟩ : ∃ z, (D.take j ++ List.replicate (M - j) 0)[j]? = some z := ⟨_, List.getElem?_eq_getElem (by rw [List.length_append, List.length_take, List.length_replicate]; have := HDL.out; omega)⟩
            rw [hz] at hcell
            simp only [Option.map_some] at hcell
            unfold uv at hcell
            clear hz
            go_wp2_with fail
            go_roundw
            case rel =>
              refine ⟨j + 1, by omega, by go_num, ?_, HX.out.trans ((OnlyS.of_onlyP (X := fun b => b = G) (OnlyP.set G j wr _) rfl).below HX.out.size (fun b hb => by rw [hb]; exact HGE.out))⟩
              have h := (HO.out.stored j (uv X)).1
              rw [← List.map_set, HSN.out] at h
              exact h
            case measure => simp [intOf]; omega
          · have HFULL := Lib.hid (show D.take j ++ List.replicate (M - j) 0 = D by rw [List.take_of_length_le (by have := HDL.out; omega), show M - j = 0 by omega, List.replicate_zero, List.append_nil])
            go_wp2_with fail
            go_ret2
            refine ⟨_, by rw [HA.out]; rfl, ?_, HX.out⟩
            rw [HA.out, HDL.out]
            have h := owns_base HO.out HGE.out
            rw [HFULL.out] at h
            exact h
      · have HA := Lib.hid (show unpackS b (M : Int) (W : Int) = ([], 6) by rw [HANS.out, if_neg (fun h => hz h.2)])
        rw [decide_eq_false hz]
        go_wp2_with fail
        go_ret2
        exact ⟨_, by rw [HA.out]; rfl, by rw [HA.out]; exact owns_nil _ _ _ _, HXX.out⟩
    · have hnn : ((N : Int) == (n : Int)) = false := by rw [beq_eq_false_iff_ne]; omega
      have hnn2 : ((N : Int) != (n : Int)) = true := by simp; omega
      have HA := Lib.hid (show unpackS b (M : Int) (W : Int) = ([], 6) by rw [HANS.out, if_neg]; intro h; omega)
      clear hlen
      go_enter Try.func17, Try.ntmps17
      go_wp2_with fail
      refine (HBY.out w).mono ?_
      rintro e wx ⟨rfl, hxx⟩
      have HXX := Lib.hid hxx
      clear hxx
      go_wp2_with fail
      go_ret2
      exact ⟨_, by rw [HA.out]; rfl, by rw [HA.out]; exact owns_nil _ _ _ _, HXX.out⟩
  · have HANS := Lib.hid (show unpackS b many width = ([], (bytesS many width).2) by unfold unpackS; rw [if_neg he])
    generalize bytesS many width = R at HBY HANS he
    obtain ⟨r1, r2⟩ := R
    have hne : (r2 == (0 : Int)) = false := beq_eq_false_iff_ne.2 he
    obtain ⟨hm0, hm1⟩ := hm
    obtain ⟨hw0, hw1⟩ := hw
    clear he hat hu hN
    go_enter Try.func17, Try.ntmps17
    go_wp2_with fail
    refine (HBY.out w).mono ?_
    rintro e wx ⟨rfl, hxx⟩
    have HXX := Lib.hid hxx
    clear hxx
    go_wp2_with fail
    go_ret2
    exact ⟨_, by rw [HANS.out]; rfl, by rw [HANS.out]; exact owns_nil _ _ _ _, HXX.out⟩

end Go.Proofs.Ytgfgmgekkmaipaa
