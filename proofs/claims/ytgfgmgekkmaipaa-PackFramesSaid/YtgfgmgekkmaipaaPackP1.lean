/-
  The program's own Width, Bytes, Pack.
-/
import Derived.RegionTactic
import Derived.ChangeAlike
import Derived.Test.YtgfgmgekkmaipaaPackRef2
import Derived.Test.YtgfgmgekkmaipaaPackP0
import Derived.Test.YtgfgmgekkmaipaaOct
namespace Go.Proofs.Ytgfgmgekkmaipaa
open Go.RowKit Go.BigFrame

set_option maxRecDepth 100000 in
theorem pWidth8_any (u : Value) (l : List Nat) (w : World) (hu : RdV w u (l.map uv)) (hl : ∀ x ∈ l, x < 2 ^ 64) (_hl2 : l.length ≤ 100000) :
    Calls Try.prog 15 #[u] w fun e w' => e = .returned (.int .i64 (widthS l)) ∧ Ext w w' := by
  obtain ⟨ao, cap, rfl, h1, h2, hat⟩ := RdV.cellsAt hu
  rw [List.length_map] at h1 ⊢
  have HAT := Lib.hid hat
  have HL := Lib.hid hl
  obtain ⟨N, hN⟩ : ∃ N, l.length = N := ⟨_, rfl⟩
  have HN := Lib.hid hN
  unfold maxLen at h2
  rw [hN] at h1 ⊢
  clear hat hN hu hl
  go_enter Try.func15, Try.ntmps15
  go_wp2_with fail
  go_loopw [3, 8] (fun a i wr => ∃ j A : Nat, j ≤ N ∧ i = .int .i64 j ∧ a = .int .u64 A ∧ A < 18446744073709551616 ∧ Lib.bitLen A = widthS (l.take j) ∧ w = wr) (fun _ i _ => N - (intOf i).toNat)
  case atStart => exact ⟨0, 0, Nat.zero_le _, rfl, rfl, by omega, rfl, rfl⟩
  case round =>
    obtain ⟨j, A, hj, rfl, rfl, hA, hb, rfl⟩ := hrel
    have HB := Lib.hid hb
    clear hb
    by_cases hlt : j < N
    · have hjl : j < l.length := by have := HN.out; omega
      obtain ⟨x, rfl, hcv⟩ := HAT.out j (uv l[j]) (by rw [List.getElem?_map, List.getElem?_eq_getElem hjl]; rfl)
      unfold uv at hcv
      have HS := Lib.hid (show widthS (l.take (j + 1)) = max (widthS (l.take j)) (Lib.bitLen l[j]) by rw [List.take_succ_eq_append_getElem hjl, widthS_snoc])
      have hy := HL.out l[j] (List.getElem_mem hjl)
      generalize l[j] = y at hcv HS hy
      have hor := u64_or_nat A y hA hy
      have HO := Lib.hid (show A ||| y < 18446744073709551616 ∧ Lib.bitLen (A ||| y) = max (Lib.bitLen A) (Lib.bitLen y) from ⟨Nat.or_lt_two_pow (n := 64) hA hy, bitLen_or hA hy⟩)
      clear hjl
      go_wp2_with fail
      go_roundw
      case rel => exact ⟨j + 1, A ||| y, by omega, by go_num, by first | rfl | rw [hor], HO.out.1, by rw [HO.out.2, HS.out, HB.out], trivial⟩
      case measure => simp [intOf]; omega
    · have HFULL := Lib.hid (show l.take j = l from List.take_of_length_le (by have := HN.out; omega))
      go_wp2_with fail
      refine (len64 A w (by omega)).mono ?_
      rintro e w2 ⟨rfl, rfl⟩
      go_wp2_with fail
      go_ret
      exact ⟨by rw [HB.out, HFULL.out]; rfl, Ext.keeps.refl _⟩

theorem pBytes8_any (many width : Int) (w : World) (hm : -9223372036854775808 ≤ many ∧ many ≤ 9223372036854775807) (hw : -9223372036854775808 ≤ width ∧ width ≤ 9223372036854775807) :
    Calls Try.prog 12 #[.int .i64 many, .int .i64 width] w fun e w' => e = .returned (.tuple #[.int .i64 (bytesS many width).1, .int .i64 (bytesS many width).2]) ∧ Ext w w' := by
  obtain ⟨m0, m1⟩ := hm
  obtain ⟨k0, k1⟩ := hw
  unfold bytesS
  by_cases h0 : many < 0
  · rw [if_pos (.inl h0)]
    go_enter Try.func12, Try.ntmps12
    go_wp2_with fail
    go_ret2
    exact ⟨rfl, Ext.keeps.refl _⟩
  · by_cases h1 : width < 0
    · rw [if_pos (.inr (.inl h1))]
      go_enter Try.func12, Try.ntmps12
      go_wp2_with fail
      go_ret2
      exact ⟨rfl, Ext.keeps.refl _⟩
    · by_cases h2 : 64 < width
      · rw [if_pos (.inr (.inr h2))]
        go_enter Try.func12, Try.ntmps12
        go_wp2_with fail
        go_ret2
        exact ⟨rfl, Ext.keeps.refl _⟩
      · rw [if_neg (by omega)]
        by_cases h3 : 4096 < many
        · rw [if_pos h3]
          go_enter Try.func12, Try.ntmps12
          go_wp2_with fail
          go_ret2
          exact ⟨rfl, Ext.keeps.refl _⟩
        · rw [if_neg h3]
          obtain ⟨M, rfl⟩ := Int.eq_ofNat_of_zero_le (show 0 ≤ many by omega)
          obtain ⟨W, rfl⟩ := Int.eq_ofNat_of_zero_le (show 0 ≤ width by omega)
          have hMW : M * W ≤ 4096 * 64 := Nat.mul_le_mul (by omega) (by omega)
          obtain ⟨K, hK⟩ : ∃ K, M * W = K := ⟨_, rfl⟩
          have e : (M : Int) * (W : Int) = (K : Int) := by rw [← hK, Int.natCast_mul]
          rw [hK] at hMW
          have HE := Lib.hid e
          rw [e]
          clear hK e
          have hb : (M : Int) * (W : Int) ≤ 262144 ∧ 0 ≤ (M : Int) * (W : Int) := by rw [HE.out]; omega
          go_enter Try.func12, Try.ntmps12
          go_wp2_with fail
          go_ret2
          exact ⟨by simp [HE.out], Ext.keeps.refl _⟩

/-- Bits of one number into a row of bytes that are its own. -/
theorem putBits_any (G n P at' W m : Nat) (w : World) (hO : w.ownsRow G 5 1 (.slice (some ⟨G, 0, none⟩) n n) n ((le n P).map bv)) (hn : n ≤ 40000) (hP : P < 2 ^ at') (hm : m < 2 ^ W) (hm64 : m < 2 ^ 64) (hat : at' + W ≤ 8 * n) :
    Calls Try.prog 25 #[.slice (some ⟨G, 0, none⟩) n n, .int .i64 (at' : Int), .int .i64 (W : Int), .int .u64 (m : Int)] w fun e w' => e = .returned (.tuple #[]) ∧ w'.ownsRow G 5 1 (.slice (some ⟨G, 0, none⟩) n n) n ((le n (P + 2 ^ at' * m)).map bv) ∧ OnlyS (fun b => b = G) w w' := by
  have HO := Lib.hid hO
  have HP := Lib.hid hP
  have HM := Lib.hid hm
  clear hO hP hm
  go_enter Try.func25, Try.ntmps25
  go_wp2_with fail
  go_loopw [1, 3] (fun av nv wr => ∃ k q R : Nat, av = .int .i64 (k : Int) ∧ nv = .int .u64 (q : Int) ∧ q < 18446744073709551616 ∧ k ≤ 320100 ∧ wr.ownsRow G 5 1 (.slice (some ⟨G, 0, none⟩) n n) n ((le n R).map bv) ∧ (R < 2 ^ k ∧ q < 2 ^ (at' + W - k) ∧ R + 2 ^ k * q = P + 2 ^ at' * m) ∧ OnlyS (fun b => b = G) w wr) (fun av _ _ => at' + W - (intOf av).toNat)
  case atStart => exact ⟨at', m, P, rfl, rfl, hm64, by omega, HO.out, ⟨HP.out, by rw [Nat.add_sub_cancel_left]; exact HM.out, rfl⟩, OnlyS.refl _ _⟩
  case round =>
    obtain ⟨k, q, R, rfl, rfl, hq, hk, hown, hinv, hx⟩ := hrel
    have HO2 := Lib.hid hown
    have HI := Lib.hid hinv
    have HX := Lib.hid hx
    clear hown hinv hx
    by_cases hlt : k < at' + W
    · have hk8 : k / 8 < n := by omega
      have hs : k % 8 < 8 := Nat.mod_lt _ (by decide)
      have HS := Lib.hid (put_step (h := 8 - k % 8) HI.out.1 HI.out.2.1)
      have hcell := HO2.out.cellAt (k / 8) (by omega)
      rw [List.getElem?_map, le_get _ _ _ hk8] at hcell
      have hfree := HO2.out.frozenAt (k / 8)
      have hset := le_bits n R k (q % 2 ^ (8 - k % 8)) HI.out.1 hk8 (Nat.mod_lt _ (Nat.two_pow_pos _))
      have HSET := Lib.hid hset.1
      have hC := hset.2
      obtain ⟨C, hCe⟩ : ∃ C, R / 256 ^ (k / 8) % 256 = C := ⟨_, rfl⟩
      simp only [Option.map_some] at hcell
      rw [hCe] at hcell hC HSET
      have hC256 : C < 256 := by rw [← hCe]; exact Nat.mod_lt _ (by decide)
      rw [bv_put, Nat.mod_eq_of_lt hC256] at hcell
      have HPB := Lib.hid (put_byte (m := q) hC hs)
      clear hset hCe hC
      go_wp2_with fail
      go_region
      have hv : bits BinOp.or IntKind.u8 (C : Int) (IntKind.u64.wrap ((q : Int) * 2 ^ (k % 8)) % 256) = ((C + q % 2 ^ (8 - k % 8) * 2 ^ (k % 8) : Nat) : Int) := HPB.out.1
      rw [hv]
      generalize hV : C + q % 2 ^ (8 - k % 8) * 2 ^ (k % 8) = V at HPB HSET
      clear hv hV
      go_wp2_with fail
      go_roundw
      case rel =>
        refine ⟨k + (8 - k % 8), q / 2 ^ (8 - k % 8), R + 2 ^ k * (q % 2 ^ (8 - k % 8)), congrArg (Value.int .i64) (by omega), congrArg (Value.int .u64) (by rw [Int.natCast_ediv, Int.natCast_pow]; rfl), Nat.lt_of_le_of_lt (Nat.div_le_self _ _) hq, by omega, ?_, ⟨HS.out.1, HS.out.2.1, HS.out.2.2.trans HI.out.2.2⟩, ?_⟩
        · have h := (HO2.out.stored (k / 8) (bv (UInt8.ofNat V))).1
          rw [← List.map_set, ← HSET.out, bv_put, Nat.mod_eq_of_lt HPB.out.2] at h
          exact owns_later h (Ext.drew _)
        · exact HX.out.trans ((OnlyS.of_onlyP (X := fun b => b = G) (OnlyP.set G (k / 8) wr _) rfl).trans (OnlyS.of_ext (Ext.drew _)) (fun _ _ h => h)) (fun _ _ h => h)
      case measure => simp [intOf]; omega
    · have HE := Lib.hid (show q = 0 by have := HI.out.2.1; rw [show at' + W - k = 0 by omega] at this; omega)
      go_wp2_with fail
      go_end0
      have h := HI.out.2.2
      rw [HE.out, Nat.mul_zero, Nat.add_zero] at h
      exact ⟨rfl, by rw [← h]; exact HO2.out, HX.out⟩

set_option maxRecDepth 100000 in
set_option maxHeartbeats 2000000 in
theorem pPack8_any (u : Value) (l : List Nat) (width : Int) (w : World) (hu : RdV w u (l.map uv)) (hl : ∀ x ∈ l, x < 2 ^ 64) (hl2 : l.length ≤ 100000) (hw : -9223372036854775808 ≤ width ∧ width ≤ 9223372036854775807) :
    Calls Try.prog 10 #[u, .int .i64 width] w fun e w' => AnsB w (packS l width) e w' := by
  have HU := Lib.hid hu
  obtain ⟨ao, cap, rfl, h1, h2, hat⟩ := RdV.cellsAt hu
  rw [List.length_map] at h1 HU ⊢
  have HAT := Lib.hid hat
  have HL := Lib.hid hl
  have HBY := Lib.hid (fun W => pBytes8_any (l.length : Int) width W (by omega) hw)
  have HL2 := Lib.hid hl2
  obtain ⟨N, hN⟩ : ∃ N, l.length = N := ⟨_, rfl⟩
  have HN := Lib.hid hN
  unfold maxLen at h2
  rw [hN] at h1 hl2 HBY HU ⊢
  by_cases he : (bytesS (N : Int) width).2 = 0
  · obtain ⟨_, b1, b2, b3, b4⟩ := bytesS_ok he
    obtain ⟨W, rfl⟩ := Int.eq_ofNat_of_zero_le b2
    have hNW : N * W ≤ 4096 * 64 := Nat.mul_le_mul (by omega) (by omega)
    obtain ⟨n, hn⟩ : ∃ n, (N * W + 7) / 8 = n := ⟨_, rfl⟩
    have hbe : (bytesS (N : Int) (W : Int)) = ((n : Int), 0) := by
      refine Prod.ext ?_ he
      rw [b4, ← hn, ← Int.natCast_mul]
      omega
    have hn5 : n ≤ 40000 := by omega
    rw [hbe] at HBY
    have HANS := Lib.hid (show packS l (W : Int) = if widthS l ≤ W then (packB l W, 0) else ([], 8) by unfold packS; rw [hN, if_pos he, Int.toNat_natCast])
    have HNE := Lib.hid hn
    have HW64 := Lib.hid b3
    have HWB := Lib.hid (widthS_le l)
    have hwb := HWB.out
    obtain ⟨Wd, hWd⟩ : ∃ Wd, widthS l = Wd := ⟨_, rfl⟩
    have HWD := Lib.hid (fun V (h : Ext w V) => pWidth8_any _ l V (RdV.mono HU.out h) HL.out HL2.out)
    have HWE := Lib.hid hWd
    rw [hWd] at HWD hwb
    clear hat hN hu hl hbe he b1 b2 b4 hn hWd
    go_enter Try.func10, Try.ntmps10
    go_wp2_with fail
    refine (HBY.out w).mono ?_
    rintro e wx ⟨rfl, hxx⟩
    have HXX := Lib.hid hxx
    clear hxx
    go_wp2_with fail
    refine (HWD.out wx HXX.out).mono ?_
    rintro e wy ⟨rfl, hxy⟩
    have HXY := Lib.hid (Ext.trans HXX.out hxy)
    clear hxy
    by_cases hbig : W < Wd
    · have HA := Lib.hid (show packS l (W : Int) = ([], 8) by rw [HANS.out, HWE.out, if_neg (by omega)])
      go_wp2_with fail
      go_ret2
      exact ⟨_, by rw [HA.out]; rfl, by rw [HA.out]; exact owns_nil _ _ _ _, HXY.out⟩
    · have HA := Lib.hid (show packS l (W : Int) = (packB l W, 0) by rw [HANS.out, HWE.out, if_pos (by omega)])
      have HALL := Lib.hid ((widthS_iff HL.out W).1 (by rw [HWE.out]; omega))
      obtain ⟨w0, hmk, hown, hext⟩ := make_bytes wy n (by omega)
      have HX0 := Lib.hid (Ext.trans HXY.out hext)
      have HGE := Lib.hid (show w.heap.size ≤ wy.heap.size from HXY.out.size)
      obtain ⟨G, hG⟩ : ∃ G, wy.heap.size = G := ⟨_, rfl⟩
      have HG := Lib.hid hG
      rw [hG] at hmk hown HGE
      have HOWN := Lib.hid hown
      clear hown hext hG
      go_wp2_with fail
      clear hmk
      go_loopw [29] (fun i wr => ∃ j : Nat, j ≤ N ∧ i = .int .i64 j ∧ wr.ownsRow G 5 1 (.slice (some ⟨G, 0, none⟩) n n) n ((le n (bigOf W (l.take j))).map bv) ∧ Below w.heap.size w wr) (fun i _ => N - (intOf i).toNat)
      case atStart => exact ⟨0, Nat.zero_le _, rfl, HOWN.out, HX0.out⟩
      case round =>
        obtain ⟨j, hj, rfl, hown, hx⟩ := hrel
        have HO := Lib.hid hown
        have HX := Lib.hid hx
        clear hown hx
        by_cases hlt : j < N
        · have hjl : j < l.length := by have := HN.out; omega
          obtain ⟨y, rfl, hcv⟩ := HAT.out j (uv l[j]) (by rw [List.getElem?_map, List.getElem?_eq_getElem hjl]; rfl)
          have hcx := (HX.out.cell (lt_of_cell hcv)).trans hcv
          unfold uv at hcx
          have HST := Lib.hid (List.take_succ_eq_append_getElem hjl)
          have HXL := Lib.hid (HL.out l[j] (List.getElem_mem hjl))
          have HXW := Lib.hid (HALL.out l[j] (List.getElem_mem hjl))
          have HTL := Lib.hid (show (l.take j).length = j by rw [List.length_take]; omega)
          generalize l[j] = x at hcx HST HXL HXW
          have hjW : j * W + W ≤ N * W := by
            have : (j + 1) * W ≤ N * W := Nat.mul_le_mul_right _ (by omega)
            rw [Nat.add_mul, Nat.one_mul] at this
            exact this
          have HBL := Lib.hid (show bigOf W (l.take j) < 2 ^ (j * W) by have := bigOf_lt W (l.take j) (fun z hz => HALL.out z (List.mem_of_mem_take hz)); rwa [HTL.out] at this)
          have HPB := Lib.hid (fun V h => putBits_any G n (bigOf W (l.take j)) (j * W) W x V h hn5 HBL.out HXW.out HXL.out (by have := HNE.out; omega))
          have hmul : (j : Int) * (W : Int) = ((j * W : Nat) : Int) := (Int.natCast_mul _ _).symm
          have HSN := Lib.hid (show bigOf W (l.take (j + 1)) = bigOf W (l.take j) + 2 ^ (j * W) * x by rw [HST.out, bigOf_snoc, HTL.out])
          have hmb : 0 ≤ (j : Int) * (W : Int) ∧ (j : Int) * (W : Int) ≤ 262144 := by rw [hmul]; omega
          have HMUL := Lib.hid hmul
          clear hmul hcv hjW hjl
          go_wp2_with fail
          rw [HMUL.out]
          refine (HPB.out _ HO.out).mono ?_
          rintro e w2 ⟨rfl, hown2, hx2⟩
          have HO2 := Lib.hid hown2
          have HX2 := Lib.hid (HX.out.trans (hx2.below HX.out.size (fun b hb => by rw [hb]; exact HGE.out)))
          clear hown2 hx2
          go_wp2_with fail
          go_roundw
          case rel => exact ⟨j + 1, by omega, by go_num, by rw [HSN.out]; exact HO2.out, HX2.out⟩
          case measure => simp [intOf]; omega
        · have HFULL := Lib.hid (show l.take j = l from List.take_of_length_le (by have := HN.out; omega))
          go_wp2_with fail
          go_ret2
          refine ⟨_, by rw [HA.out]; rfl, ?_, HX.out⟩
          rw [HA.out, packB_length, HN.out, HNE.out]
          have h := owns_base HO.out HGE.out
          rw [HFULL.out] at h
          unfold packB
          rw [HN.out, HNE.out]
          exact h
  · have HANS := Lib.hid (show packS l width = ([], (bytesS (N : Int) width).2) by unfold packS; rw [hN, if_neg he])
    generalize bytesS (N : Int) width = R at HBY HANS he
    obtain ⟨r1, r2⟩ := R
    have hne : (r2 == (0 : Int)) = false := beq_eq_false_iff_ne.2 he
    clear he hat hu hl hN
    go_enter Try.func10, Try.ntmps10
    go_wp2_with fail
    refine (HBY.out w).mono ?_
    rintro e wx ⟨rfl, hxx⟩
    have HXX := Lib.hid hxx
    clear hxx
    go_wp2_with fail
    go_ret2
    exact ⟨_, by rw [HANS.out]; rfl, by rw [HANS.out]; exact owns_nil _ _ _ _, HXX.out⟩

end Go.Proofs.Ytgfgmgekkmaipaa
