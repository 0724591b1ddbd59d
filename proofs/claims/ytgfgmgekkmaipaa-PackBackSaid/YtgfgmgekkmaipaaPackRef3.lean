/-
  The contract of the document's own Unpack.
-/
import Derived.Test.YtgfgmgekkmaipaaPackRef2
namespace Go.Proofs.Ytgfgmgekkmaipaa
open Go.RowKit Go.BigFrame

theorem Try.info_u64 : (Try.prog.info? 47).map (fun i => (i.zero, i.size, i.bytes)) = some (some (.int .u64 0), 1, 8) := by kernel_rfl

/-- One more bit of a digit, from above. -/
theorem digit_step (B at' m : Nat) : B / 2 ^ at' % 2 ^ (m + 1) = B / 2 ^ (at' + 1) % 2 ^ m * 2 + B / 2 ^ at' % 2 := by
  have h : B / 2 ^ at' / 2 = B / 2 ^ (at' + 1) := by rw [Nat.div_div_eq_div_mul, ← Nat.pow_succ]
  rw [Nat.pow_succ, Nat.mul_comm (2 ^ m) 2, Nat.mod_mul, h]
  omega
theorem digits_take (W M B i : Nat) (hi : i < M) : (digits W M B).take (i + 1) = (digits W M B).take i ++ [B / 2 ^ (i * W) % 2 ^ W] := by
  have h : i < (digits W M B).length := by rw [digits_length]; exact hi
  have hg := digits_get W M B i hi
  rw [List.getElem?_eq_getElem h] at hg
  rw [List.take_succ_eq_append_getElem h, Option.some.inj hg]

theorem bit_val (X c s : Nat) (hX : X < 9223372036854775808) : IntKind.u64.wrap ((X : Int) * 2 + IntKind.u64.wrap (((c : Int) / 2 ^ s).tmod 2)) = ((X * 2 + c / 2 ^ s % 2 : Nat) : Int) := by
  have e : ((c : Int) / 2 ^ s) = ((c / 2 ^ s : Nat) : Int) := by rw [Int.natCast_ediv, Int.natCast_pow]; rfl
  rw [e]
  generalize c / 2 ^ s = q
  have e2 : ((q : Int).tmod 2) = ((q % 2 : Nat) : Int) := by
    rw [Int.tmod_eq_emod_of_nonneg (Int.natCast_nonneg q)]
    omega
  rw [e2, IntWalk.u64_in ((q % 2 : Nat) : Int) ⟨by omega, by omega⟩, IntWalk.u64_in _ ⟨by omega, by omega⟩]
  omega
theorem digits_full (W M B : Nat) : (digits W M B).take M = digits W M B := List.take_of_length_le (by rw [digits_length]; exact Nat.le_refl _)

set_option maxRecDepth 100000 in
set_option maxHeartbeats 2000000 in
theorem refUnpack_any (u : Value) (b : List UInt8) (many width : Int) (w : World) (hu : Rd w u b) (hb : b.length ≤ 1000000) (hm : -9223372036854775808 ≤ many ∧ many ≤ 9223372036854775807) (hw : -9223372036854775808 ≤ width ∧ width ≤ 9223372036854775807) :
    Calls Try.prog 18 #[u, .int .i64 many, .int .i64 width] w fun e w' => AnsU w (unpackS b many width) e w' := by
  obtain ⟨i0, hi, hz0, hz1, hz2⟩ := info_parts Try.info_u64
  have HU := Lib.hid hu
  obtain ⟨ao, cap, rfl, h1, h2, hat⟩ := RdV.cellsAt hu
  rw [List.length_map] at h1 HU ⊢
  have HAT := Lib.hid hat
  have HBY := Lib.hid (fun W => refBytes_any many width W hm hw)
  obtain ⟨N, hN⟩ : ∃ N, b.length = N := ⟨_, rfl⟩
  have HN := Lib.hid hN
  unfold maxLen at h2
  rw [hN] at h1 hb HU ⊢
  by_cases he : (bytesS many width).2 = 0
  · obtain ⟨b0, b1, b2, b3, b4⟩ := bytesS_ok he
    obtain ⟨M, rfl⟩ := Int.eq_ofNat_of_zero_le b0
    obtain ⟨W, rfl⟩ := Int.eq_ofNat_of_zero_le b2
    have hMW : M * W ≤ 4096 * 64 := Nat.mul_le_mul (by omega) (by omega)
    obtain ⟨n, hn⟩ : ∃ n, (M * W + 7) / 8 = n := ⟨_, rfl⟩
    have hbe : (bytesS (M : Int) (W : Int)) = ((n : Int), 0) := by
      refine Prod.ext ?_ he
      rw [b4, ← hn, ← Int.natCast_mul]
      omega
    have HANS := Lib.hid (show unpackS b (M : Int) (W : Int) = if ((N : Nat) : Int) = (n : Int) ∧ ofLe b < 2 ^ (M * W) then (digits W M (ofLe b), 0) else ([], 6) by unfold unpackS; rw [if_pos he, hbe, Int.toNat_natCast, Int.toNat_natCast, hN])
    have HBE := Lib.hid hbe
    rw [hbe] at HBY
    have HNE := Lib.hid hn
    have HM4 := Lib.hid (show M ≤ 4096 by omega)
    have hW64 : W ≤ 64 := by omega
    have hM4 : M ≤ 4096 := by omega
    clear hat hN hu hbe he b0 b1 b2 b3 b4 hn hm hw
    by_cases hlen : N = n
    · subst hlen
      obtain ⟨B, hB⟩ : ∃ B, ofLe b = B := ⟨_, rfl⟩
      have HB := Lib.hid hB
      rw [hB] at HANS
      have HBIT := Lib.hid (fun k hk => ofLe_bit b k hk)
      rw [hB] at HBIT
      clear hB
      have hnn : ((N : Int) == (N : Int)) = true := beq_self_eq_true _
      go_enter Try.func18, Try.ntmps18
      go_wp2_with fail
      refine (HBY.out w).mono ?_
      rintro e wx ⟨rfl, rfl⟩
      go_wp2_with fail
      go_loopw [10, 11] (fun v i wr => ∃ j : Nat, j ≤ M ∧ i = .int .i64 j ∧ wr.ownsRow w.heap.size 47 1 v ((digits W M B).take j).length (((digits W M B).take j).map uv) ∧ Below w.heap.size w wr) (fun _ i _ => M - (intOf i).toNat)
      case atStart => exact ⟨0, Nat.zero_le _, rfl, owns_nil _ _ _ _, Ext.keeps.refl _⟩
      case round =>
        obtain ⟨j, hj, rfl, hown, hx⟩ := hrel
        have HO := Lib.hid hown
        have HX := Lib.hid hx
        clear hown hx
        by_cases hlt : j < M
        · have hjW : j * W + W ≤ M * W := by
            have : (j + 1) * W ≤ M * W := Nat.mul_le_mul_right _ (by omega)
            rw [Nat.add_mul, Nat.one_mul] at this
            exact this
          have HDT := Lib.hid (digits_take W M B j hlt)
          have HLEN := Lib.hid (show ((digits W M B).take j).length ≤ 4096 by rw [List.length_take, digits_length]; omega)
          have HSZ := Lib.hid HX.out.size
          obtain ⟨A, hA⟩ : ∃ A, j * W = A := ⟨_, rfl⟩
          have HAE := Lib.hid hA
          have hmul : (j : Int) * (W : Int) = (A : Int) := by rw [← Int.natCast_mul, hA]
          have HMUL := Lib.hid hmul
          have hmb : 0 ≤ (j : Int) * (W : Int) ∧ (j : Int) * (W : Int) ≤ 262144 := by omega
          rw [hA] at hjW
          clear hA hmul
          go_wp2_with fail
          go_loopw [12, 13] (fun xv kv wk => ∃ m : Nat, m ≤ W ∧ kv = .int .i64 ((W : Int) - 1 - m) ∧ xv = .int .u64 ((B / 2 ^ (A + (W - m)) % 2 ^ m : Nat) : Int) ∧ wr = wk) (fun _ kv _ => (intOf kv + 1).toNat)
          case atStart => exact ⟨0, Nat.zero_le _, by simp, by simp [Nat.mod_one], rfl⟩
          case round =>
            obtain ⟨m, hm, rfl, rfl, rfl⟩ := hrel
            by_cases hmW : m < W
            · obtain ⟨κ, hκ⟩ : ∃ κ, W = κ + 1 + m := ⟨W - 1 - m, by omega⟩
              have e1 : A + (W - m) = A + κ + 1 := by omega
              have e2 : (W : Int) - 1 - (m : Int) = (κ : Int) := by omega
              have hstep := digit_step B (A + κ) m
              rw [e1, e2]
              obtain ⟨P, hP⟩ : ∃ P, A + κ = P := ⟨_, rfl⟩
              rw [hP] at hstep ⊢
              have hP8 : P / 8 < N := by have := HNE.out; omega
              have hPb : P / 8 < b.length := by rw [HN.out]; exact hP8
              have hbit := HBIT.out P hPb
              obtain ⟨y, rfl, hcv⟩ := HAT.out (P / 8) (bv b[P / 8]) (by rw [List.getElem?_map, List.getElem?_eq_getElem hPb]; rfl)
              have hcx := (HX.out.cell (lt_of_cell hcv)).trans hcv
              unfold bv at hcx
              rw [hbit] at hstep
              have hxlt : B / 2 ^ (P + 1) % 2 ^ m < 2 ^ m := Nat.mod_lt _ (Nat.two_pow_pos m)
              have hm63 : 2 ^ m ≤ 2 ^ 63 := Nat.pow_le_pow_right (by decide) (by omega)
              have HS := Lib.hid hstep
              have HEQ := Lib.hid (show A + (W - (m + 1)) = P ∧ (W : Int) - 1 - ((m + 1 : Nat) : Int) = (κ : Int) - 1 by omega)
              have hc256 : (b[P / 8]).toNat < 256 := UInt8.toNat_lt _
              generalize (b[P / 8]).toNat = c at hcx HS hc256
              generalize B / 2 ^ (P + 1) % 2 ^ m = X at HS hxlt ⊢
              have hX63 : X < 9223372036854775808 := Nat.lt_of_lt_of_le hxlt hm63
              have HP := Lib.hid hP
              have hPk : (A : Int) + (κ : Int) = (P : Int) := by omega
              have hjw := HMUL.out
              have HK := Lib.hid hκ
              have hsh : P % 8 < 8 := Nat.mod_lt _ (by decide)
              clear hcv hPb hbit hstep e1 e2 hP hxlt hm63 hκ
              go_wp2_with fail
              go_roundw
              case rel => exact ⟨m + 1, by omega, by rw [HEQ.out.2], by rw [bit_val X c _ hX63, HEQ.out.1, HS.out], trivial⟩
              case measure => simp [intOf] <;> omega
            · have hmE : m = W := by omega
              subst hmE
              have e2 : (m : Int) - 1 - (m : Int) = -1 := by omega
              have e1 : A + (m - m) = A := by omega
              rw [e2, e1]
              obtain ⟨D, hD⟩ : ∃ D, B / 2 ^ A % 2 ^ m = D := ⟨_, rfl⟩
              have HD := Lib.hid hD
              rw [hD]
              clear e1 e2 hD
              go_wp2_with (at_builtin; go_must (refine wpList_append_own _ rfl (.tmp 59) (.tmp 61) 22 rfl w.heap.size 47 i0 (.int .u64 0) 1 8 Try.underlying22 hi hz0 hz1 hz2 rfl (by decide) _ _ _ rfl (HO.out.alloc _) ⟨wr.heap.size, 0, none⟩ 1 1 [_] rfl rfl (row_new _ _ _) (by simp [Value.oneCell']) (by have := HLEN.out; unfold maxLen; omega) (by have := HLEN.out; omega) (by have := HSZ.out; simp; omega) ?_); intro v3 w3 hown3 hgrow3 _; have HO3 := Lib.hid hown3; have HG3 := Lib.hid hgrow3; clear hown3 hgrow3)
              go_roundw
              case rel =>
                refine ⟨j + 1, by omega, by go_num, ?_, HX.out.trans (((Below.refl w.heap.size wr).alloc HSZ.out _).grown HG3.out (by simp; have := HSZ.out; omega) (fun b hb => (HO.out.lt b hb).1))⟩
                rw [HDT.out, HAE.out, HD.out, List.map_append, List.length_append]
                exact HO3.out
              case measure => simp [intOf]; omega
        · have HJ := Lib.hid (show j = M by omega)
          have HLT64 := Lib.hid (show ∀ x ∈ digits W M B, x < 2 ^ 64 from fun x hx => Nat.lt_of_lt_of_le (digits_lt W M B x hx) (Nat.pow_le_pow_right (by decide) hW64))
          have hrow := HO.out
          rw [HJ.out, digits_full] at hrow
          have HROW := Lib.hid hrow
          obtain ⟨vo, vc, rfl, hvc1, hvc2⟩ := own_shapeP hrow
          have HDL := Lib.hid (digits_length W M B)
          rw [HDL.out] at hvc1 hrow ⊢
          have HPK := Lib.hid (fun V (h : Ext wr V) => refPack_any _ (digits W M B) (W : Int) V (RdV.mono (RdV.of_owns hrow) h) HLT64.out (by rw [HDL.out]; omega) (by omega))
          have HPS := Lib.hid (show packS (digits W M B) (W : Int) = (packB (digits W M B) W, 0) by
            unfold packS
            rw [HDL.out, HBE.out]
            simp only
            rw [if_pos trivial, Int.toNat_natCast, if_pos ((widthS_iff HLT64.out W).2 (digits_lt W M B))])
          have HPB := Lib.hid (show packB (digits W M B) W = b ↔ B < 2 ^ (M * W) by
            have e : packB (digits W M B) W = le N (B % 2 ^ (M * W)) := by
              unfold packB
              rw [HDL.out, HNE.out, bigOf_digits]
            have e2 : le N B = b := by
              have := le_ofLe b
              rwa [HN.out, HB.out] at this
            have e3 : B < 256 ^ N := by
              have := ofLe_lt b
              rwa [HN.out, HB.out] at this
            rw [e]
            constructor
            · intro h
              have h1 : B % 2 ^ (M * W) = B := le_inj (Nat.lt_of_le_of_lt (Nat.mod_le _ _) e3) e3 (h.trans e2.symm)
              rw [← h1]
              exact Nat.mod_lt _ (Nat.two_pow_pos _)
            · intro h
              rw [Nat.mod_eq_of_lt h]
              exact e2)
          clear hrow
          go_wp2_with fail
          refine (HPK.out _ (Ext.keeps.refl _)).mono ?_
          rintro e w2 ⟨cv, rfl, hoc, hxc⟩
          rw [HPS.out] at hoc ⊢
          have HX2 := Lib.hid (Ext.trans HX.out hxc)
          have HR2 := Lib.hid (owns_later HROW.out hxc)
          have hs1 := (show Rd w2 cv (packB (digits W M B) W) from RdV.of_owns hoc).string (P := Try.prog) 24 9 5 Try.underlying24 Try.underlying5 Try.underlying9
          have hs2 := (HU.out.mono HX2.out).string (P := Try.prog) 24 9 5 Try.underlying24 Try.underlying5 Try.underlying9
          clear hoc hxc
          by_cases hcb : packB (digits W M B) W = b
          · have HLAST := Lib.hid (show unpackS b (M : Int) (W : Int) = (digits W M B, 0) by rw [HANS.out, if_pos ⟨trivial, HPB.out.1 hcb⟩])
            rw [hcb] at hs1
            clear hcb
            go_wp2_with fail
            go_ret2
            exact ⟨_, by rw [HLAST.out]; rfl, by rw [HLAST.out, HDL.out]; have h := HR2.out; rwa [HDL.out] at h, HX2.out⟩
          · have HLAST := Lib.hid (show unpackS b (M : Int) (W : Int) = ([], 6) by rw [HANS.out, if_neg]; intro h; exact hcb (HPB.out.2 h.2))
            have hq : (packB (digits W M B) W == b) = false := beq_eq_false_iff_ne.2 hcb
            generalize packB (digits W M B) W = C at hs1 hq
            clear hcb
            go_wp2_with fail
            go_ret2
            exact ⟨_, by rw [HLAST.out]; rfl, by rw [HLAST.out]; exact owns_nil _ _ _ _, HX2.out⟩
    · have hnn : ((N : Int) == (n : Int)) = false := by rw [beq_eq_false_iff_ne]; omega
      have HA := Lib.hid (show unpackS b (M : Int) (W : Int) = ([], 6) by rw [HANS.out, if_neg]; intro h; omega)
      clear hlen
      go_enter Try.func18, Try.ntmps18
      go_wp2_with fail
      refine (HBY.out w).mono ?_
      rintro e wx ⟨rfl, rfl⟩
      go_wp2_with fail
      go_ret2
      exact ⟨_, by rw [HA.out]; rfl, by rw [HA.out]; exact owns_nil _ _ _ _, Ext.keeps.refl _⟩
  · have HANS := Lib.hid (show unpackS b many width = ([], (bytesS many width).2) by unfold unpackS; rw [if_neg he])
    generalize bytesS many width = R at HBY HANS he
    obtain ⟨r1, r2⟩ := R
    have hne : (r2 == (0 : Int)) = false := beq_eq_false_iff_ne.2 he
    obtain ⟨hm0, hm1⟩ := hm
    obtain ⟨hw0, hw1⟩ := hw
    clear he hat hu hN
    go_enter Try.func18, Try.ntmps18
    go_wp2_with fail
    refine (HBY.out w).mono ?_
    rintro e wx ⟨rfl, rfl⟩
    go_wp2_with fail
    go_ret2
    exact ⟨_, by rw [HANS.out]; rfl, by rw [HANS.out]; exact owns_nil _ _ _ _, Ext.keeps.refl _⟩

end Go.Proofs.Ytgfgmgekkmaipaa
