/-
  The contracts of the document's own zones: what may be, and bytes.
-/
import Derived.Test.YtlbilmmjcfiokaaZoneRef3
import Derived.Test.YtlbilmmjcfiokaaCellRefPut
import Derived.Test.YtlbilmmjcfiokaaAnswers
import Derived.Test.YtlbilmmjcfiokaaCellEq
namespace Go.Proofs.Ytlbilmmjcfiokaa
open Go.RowKit Go.BigFrame

theorem refKind_any (k : Int) (w : World) (_hk : 0 ≤ k ∧ k ≤ 255) :
    Calls Try.prog 37 #[.int .u8 k] w fun e w' => e = .returned (.bool (decide (1 ≤ k ∧ k ≤ 3))) ∧ w = w' := by
  by_cases h1 : 1 ≤ k
  · by_cases h3 : k ≤ 3
    · rw [decide_eq_true ⟨h1, h3⟩]
      go_enter Try.func37, Try.ntmps37
      go_wp2_with fail
      go_ret
      exact ⟨by simp, rfl⟩
    · rw [decide_eq_false (fun h => h3 h.2)]
      go_enter Try.func37, Try.ntmps37
      go_wp2_with fail
      go_ret
      exact ⟨by simp, rfl⟩
  · rw [decide_eq_false (fun h => h1 h.1)]
    go_enter Try.func37, Try.ntmps37
    go_wp2_with fail
    go_ret
    exact ⟨by simp, rfl⟩

set_option maxRecDepth 100000 in
theorem refSomeZ_any (k : Int) (v : V) (w : World) (hv : v.fits) (hl : v.s.length ≤ 9223372036854775807) :
    Calls Try.prog 43 #[.int .u8 k, v.val] w fun e w' => e = .returned (.bool (decide (someV k v))) ∧ Ext w w' := by
  have HR := Lib.hid (fun W => refRight_any v hv hl W)
  have hd : decide (someV k v) = (rightV v && decide (v.k = k)) := by unfold someV; by_cases h1 : rightV v = true <;> by_cases h2 : v.k = k <;> simp [h1, h2]
  rw [hd]
  generalize rightV v = c at HR
  obtain ⟨vk, vn, vs⟩ := v
  unfold V.val at HR ⊢
  simp only at HR ⊢
  have HB := Lib.hid (Blk.new w [.int .u8 vk, .int .i64 vn, .string ⟨vs.toArray⟩] 24)
  clear hv hl hd
  go_enter Try.func43, Try.ntmps43
  go_wp2_with fail
  refine (HR.out _).mono ?_
  rintro e w1 ⟨rfl, hx⟩
  have k0 : w1.cell? ⟨w.heap.size, 0, none⟩ = some (.int .u8 vk) := (HB.out.ext hx).cell 0 _ rfl
  have HX := Lib.hid (Ext.trans (ext_new w _) hx)
  clear hx HR
  cases c with
  | false =>
    go_wp2_with fail
    go_ret
    exact ⟨by simp, HX.out⟩
  | true =>
    by_cases hq : vk = k
    · subst hq
      go_wp2_with fail
      go_ret
      exact ⟨by simp, HX.out⟩
    · have q1 : (vk == k) = false := beq_eq_false_iff_ne.2 hq
      have HN := Lib.hid hq
      clear hq
      go_wp2_with fail
      go_ret
      exact ⟨by simp [HN.out], HX.out⟩

set_option maxRecDepth 100000 in
set_option maxHeartbeats 4000000 in
theorem refPutZ_any (z : Zo) (w : World) (hz : z.fits) (hs : z.small 5000) :
    Calls Try.prog 21 #[z.val] w (Fresh 5 w ((putZ z).map bv)) := by
  have HP1 := Lib.hid (fun b l W hr hl => refPut_any b l z.a W hr hl hz.a hs.1)
  have HP2 := Lib.hid (fun b l W hr hl => refPut_any b l z.b W hr hl hz.b hs.2)
  have HI1 := Lib.hid (fun v l W hr hl => refInt_any v l z.n W hr hl hz.n0 hz.n1)
  have HI2 := Lib.hid (fun v l W hr hl => refInt_any v l z.m W hr hl hz.m0 hz.m1)
  have HE1 := Lib.hid (encV_le z.a)
  have HE2 := Lib.hid (encV_le z.b)
  have HE3 := Lib.hid (enc_length (zig z.n))
  unfold putZ
  obtain ⟨⟨ak, an, as'⟩, ⟨bk, bn, bs⟩, pn, pm⟩ := z
  have HB := Lib.hid (Blk.new w [.int .u8 ak, .int .i64 an, .string ⟨as'.toArray⟩, .int .u8 bk, .int .i64 bn, .string ⟨bs.toArray⟩, .int .i64 pn, .int .i64 pm] 26)
  unfold V.val at HP1 HP2
  unfold Zo.val
  simp only at HP1 HP2 HI1 HI2 HE1 HE2 HE3 ⊢
  generalize encV ⟨ak, an, as'⟩ = A at HP1 HE1 ⊢
  generalize encV ⟨bk, bn, bs⟩ = B at HP2 HE2 ⊢
  generalize enc (zig pn) = C at HI1 HE3 ⊢
  generalize enc (zig pm) = D at HI2 ⊢
  clear hz hs
  go_enter Try.func21, Try.ntmps21
  go_wp2_with fail
  refine (HP1.out _ [] _ (Rd.nil _) (Nat.zero_le _)).mono ?_
  rintro e w1 ⟨r1, rfl, ho1, hb1⟩
  rw [List.nil_append] at ho1
  have HR1 := Lib.hid (RdV.of_owns ho1)
  have HB1 := Lib.hid (HB.out.ext hb1)
  have HX1 := Lib.hid (Ext.trans (ext_new w _) hb1)
  have k3 : w1.cell? ⟨w.heap.size, 3, none⟩ = some (.int .u8 bk) := HB1.out.cell 3 _ rfl
  have k4 : w1.cell? ⟨w.heap.size, 4, none⟩ = some (.int .i64 bn) := HB1.out.cell 4 _ rfl
  have k5 : w1.cell? ⟨w.heap.size, 5, none⟩ = some (.string ⟨bs.toArray⟩) := HB1.out.cell 5 _ rfl
  clear ho1 hb1
  go_wp2_with fail
  refine (HP2.out _ A _ HR1.out (by have := HE1.out; omega)).mono ?_
  rintro e w2 ⟨r2, rfl, ho2, hb2⟩
  have HR2 := Lib.hid (RdV.of_owns ho2)
  have HB2 := Lib.hid (HB1.out.ext hb2)
  have HX2 := Lib.hid (Ext.trans HX1.out hb2)
  have j6 : w2.cell? ⟨w.heap.size, 6, none⟩ = some (.int .i64 pn) := HB2.out.cell 6 _ rfl
  clear ho2 hb2 k3 k4 k5
  go_wp2_with fail
  refine (HI1.out _ (A ++ B) _ HR2.out (by have := HE1.out; have := HE2.out; rw [List.length_append]; omega)).mono ?_
  rintro e w3 ⟨r3, rfl, ho3, hb3⟩
  have HR3 := Lib.hid (RdV.of_owns ho3)
  have HB3 := Lib.hid (HB2.out.ext hb3)
  have HX3 := Lib.hid (Ext.trans HX2.out hb3)
  have i7 : w3.cell? ⟨w.heap.size, 7, none⟩ = some (.int .i64 pm) := HB3.out.cell 7 _ rfl
  clear ho3 hb3 j6
  go_wp2_with fail
  refine (HI2.out _ (A ++ B ++ C) _ HR3.out (by have := HE1.out; have := HE2.out; have := HE3.out; simp only [List.length_append]; omega)).mono ?_
  rintro e w4 ⟨r4, rfl, ho4, hb4⟩
  have HO4 := Lib.hid ho4
  have HX4 := Lib.hid (Ext.trans HX3.out hb4)
  have HX3' := Lib.hid HX3.out.size
  clear ho4 hb4 i7
  go_wp2_with fail
  go_ret
  exact ⟨_, rfl, owns_base HO4.out HX3'.out, HX4.out⟩

set_option maxRecDepth 100000 in
set_option maxHeartbeats 4000000 in
theorem refRightZ_any (k : Int) (z : Zo) (w : World) (hk : 0 ≤ k ∧ k ≤ 255) (hz : z.fits) (hs : z.small 9223372036854775807) :
    Calls Try.prog 19 #[.int .u8 k, z.val] w fun e w' => e = .returned (.bool (decide (rightZ k z))) ∧ Ext w w' := by
  have HK := Lib.hid (fun W => refKind_any k W hk)
  have HSA := Lib.hid (fun W => refSomeZ_any k z.a W hz.a hs.1)
  have HSB := Lib.hid (fun W => refSomeZ_any k z.b W hz.b hs.2)
  have HC := Lib.hid (fun W => refCompare_any z.a z.b hz.a hz.b W)
  have HNE := Lib.hid (fun W => eq_val z.a z.b W)
  obtain ⟨x, hx⟩ : ∃ x, decide (rightZ k z) = x := ⟨_, rfl⟩
  have HZ : rightZ k z ↔ x = true := by rw [← hx, decide_eq_true_iff]
  unfold rightZ at HZ
  rw [hx]
  obtain ⟨⟨ak, an, as'⟩, ⟨bk, bn, bs⟩, pn, pm⟩ := z
  have HB := Lib.hid (Blk.new w [.int .u8 ak, .int .i64 an, .string ⟨as'.toArray⟩, .int .u8 bk, .int .i64 bn, .string ⟨bs.toArray⟩, .int .i64 pn, .int .i64 pm] 26)
  have HNA := Lib.hid (show ∀ W, (binOp .eql 24 (.agg #[.int .u8 ak, .int .i64 an, .string ⟨as'.toArray⟩]) (.agg #[.int .u8 0, .int .i64 0, .string ⟨#[]⟩])).run Try.prog W = .ok (.bool (decide ((⟨ak, an, as'⟩ : V) = V.zero))) W from fun W => eq_val ⟨ak, an, as'⟩ V.zero W)
  have HNB := Lib.hid (show ∀ W, (binOp .eql 24 (.agg #[.int .u8 bk, .int .i64 bn, .string ⟨bs.toArray⟩]) (.agg #[.int .u8 0, .int .i64 0, .string ⟨#[]⟩])).run Try.prog W = .ok (.bool (decide ((⟨bk, bn, bs⟩ : V) = V.zero))) W from fun W => eq_val ⟨bk, bn, bs⟩ V.zero W)
  have HX0 := Lib.hid (ext_new w (.cells #[.int .u8 ak, .int .i64 an, .string ⟨as'.toArray⟩, .int .u8 bk, .int .i64 bn, .string ⟨bs.toArray⟩, .int .i64 pn, .int .i64 pm] 26))
  unfold V.val at HSA HSB HC HNE
  unfold Zo.val
  simp only at HSA HSB HC HZ HNE ⊢
  generalize cmpV ⟨ak, an, as'⟩ ⟨bk, bn, bs⟩ = CA at HC HZ
  generalize hna : decide ((⟨ak, an, as'⟩ : V) = V.zero) = NA at HNA
  generalize hnb : decide ((⟨bk, bn, bs⟩ : V) = V.zero) = NB at HNB
  generalize hne : decide ((⟨ak, an, as'⟩ : V) = ⟨bk, bn, bs⟩) = NE at HNE
  generalize hsa : decide (someV k ⟨ak, an, as'⟩) = SA at HSA
  generalize hsb : decide (someV k ⟨bk, bn, bs⟩) = SB at HSB
  rw [show ((⟨ak, an, as'⟩ : V) = V.zero) ↔ NA = true by rw [← hna, decide_eq_true_iff], show ((⟨bk, bn, bs⟩ : V) = V.zero) ↔ NB = true by rw [← hnb, decide_eq_true_iff], show ((⟨ak, an, as'⟩ : V) = ⟨bk, bn, bs⟩) ↔ NE = true by rw [← hne, decide_eq_true_iff], show someV k ⟨ak, an, as'⟩ ↔ SA = true by rw [← hsa, decide_eq_true_iff], show someV k ⟨bk, bn, bs⟩ ↔ SB = true by rw [← hsb, decide_eq_true_iff]] at HZ
  have hn0 : -9223372036854775808 ≤ pn := hz.n0
  have hn1 : pn ≤ 9223372036854775807 := hz.n1
  have hm0 : -9223372036854775808 ≤ pm := hz.m0
  have hm1 : pm ≤ 9223372036854775807 := hz.m1
  have HZ := Lib.hid HZ
  clear hz hs hx hna hnb hne hsa hsb
  by_cases h1 : 1 ≤ k ∧ k ≤ 3
  · rw [decide_eq_true h1] at HK
    by_cases h2 : pm < 0
    · have HQ := Lib.hid (show x = false from by
        cases x with
        | false => rfl
        | true => exact absurd (HZ.out.2 rfl).2.1.1 (by omega))
      have d2 : decide (pm < 0) = true := decide_eq_true h2
      clear hn0 hn1 hm0 hm1 h1 h2
      go_enter Try.func19, Try.ntmps19
      go_wp2_with fail
      refine (HK.out _).mono ?_
      rintro e w1 ⟨rfl, rfl⟩
      go_wp2_with fail
      go_ret
      exact ⟨by rw [HQ.out]; rfl, HX0.out⟩
    · have d2 : decide (pm < 0) = false := decide_eq_false h2
      by_cases h3 : 4096 < pm
      · have HQ := Lib.hid (show x = false from by
          cases x with
          | false => rfl
          | true => exact absurd (HZ.out.2 rfl).2.1.2 (by omega))
        have d3 : decide (4096 < pm) = true := decide_eq_true h3
        clear hn0 hn1 hm0 hm1 h1 h2 h3
        go_enter Try.func19, Try.ntmps19
        go_wp2_with fail
        refine (HK.out _).mono ?_
        rintro e w1 ⟨rfl, rfl⟩
        go_wp2_with fail
        go_ret
        exact ⟨by rw [HQ.out]; rfl, HX0.out⟩
      · have d3 : decide (4096 < pm) = false := decide_eq_false h3
        by_cases h4 : pn < 0
        · have HQ := Lib.hid (show x = false from by
            cases x with
            | false => rfl
            | true => exact absurd (HZ.out.2 rfl).2.2.1.1 (by omega))
          have d4 : decide (pn < 0) = true := decide_eq_true h4
          clear hn0 hn1 hm0 hm1 h1 h2 h3 h4
          go_enter Try.func19, Try.ntmps19
          go_wp2_with fail
          refine (HK.out _).mono ?_
          rintro e w1 ⟨rfl, rfl⟩
          go_wp2_with fail
          go_ret
          exact ⟨by rw [HQ.out]; rfl, HX0.out⟩
        · have d4 : decide (pn < 0) = false := decide_eq_false h4
          by_cases h5 : pm < pn
          · have HQ := Lib.hid (show x = false from by
              cases x with
              | false => rfl
              | true => exact absurd (HZ.out.2 rfl).2.2.1.2 (by omega))
            have d5 : decide (pm < pn) = true := decide_eq_true h5
            clear hn0 hn1 hm0 hm1 h1 h2 h3 h4 h5
            go_enter Try.func19, Try.ntmps19
            go_wp2_with fail
            refine (HK.out _).mono ?_
            rintro e w1 ⟨rfl, rfl⟩
            go_wp2_with fail
            go_ret
            exact ⟨by rw [HQ.out]; rfl, HX0.out⟩
          · have d5 : decide (pm < pn) = false := decide_eq_false h5
            have HZ2 := Lib.hid (show ((pn = pm ∧ NA = true ∧ NB = true) ∨ (pn ≠ pm ∧ SA = true ∧ SB = true ∧ CA ≤ 0 ∧ (pn + 1 < pm ∨ NE = true))) ↔ x = true from
              ⟨fun h => HZ.out.1 ⟨h1, ⟨by omega, by omega⟩, ⟨by omega, by omega⟩, h⟩, fun h => (HZ.out.2 h).2.2.2⟩)
            clear HZ hn0 hn1 hm0 hm1
            go_enter Try.func19, Try.ntmps19
            go_wp2_with fail
            refine (HK.out _).mono ?_
            rintro e w1 ⟨rfl, rfl⟩
            by_cases h6 : pn = pm
            · have HQ := Lib.hid (show x = (NA && NB) from by
                have := HZ2.out
                cases x <;> cases NA <;> cases NB <;> simp_all)
              have q6 : (pn == pm) = true := beq_iff_eq.2 h6
              have HX1 := Lib.hid (fun o => Ext.trans HX0.out (ext_new _ o))
              clear h1 h2 h3 h4 h5 h6
              have na := HNA.out
              have nb := HNB.out
              cases NA with
              | false =>
                go_wp2_with fail
                go_ret
                exact ⟨by rw [HQ.out]; simp, HX1.out _⟩
              | true =>
                go_wp2_with fail
                go_ret
                exact ⟨by rw [HQ.out]; simp, HX1.out _⟩
            · have q6 : (pn == pm) = false := beq_eq_false_iff_ne.2 h6
              have HC0 := Lib.hid (show ∀ W o, Ext w W → Blk W w.heap.size [.int .u8 ak, .int .i64 an, .string ⟨as'.toArray⟩, .int .u8 bk, .int .i64 bn, .string ⟨bs.toArray⟩, .int .i64 pn, .int .i64 pm] 26 → Blk (W.alloc o) w.heap.size [.int .u8 ak, .int .i64 an, .string ⟨as'.toArray⟩, .int .u8 bk, .int .i64 bn, .string ⟨bs.toArray⟩, .int .i64 pn, .int .i64 pm] 26 ∧ Ext w (W.alloc o) from fun W o h1 h2 => ⟨h2.ext (ext_new _ _), Ext.trans h1 (ext_new _ _)⟩)
              have HQ := Lib.hid (show x = (SA && SB && decide (CA ≤ 0) && (decide (pn + 1 < pm) || NE)) from by
                have e := HZ2.out
                cases x <;> cases SA <;> cases SB <;> cases NE <;> by_cases hca : CA ≤ 0 <;> by_cases hnm : pn + 1 < pm <;> simp_all)
              clear HZ2
              have W0 := Lib.hid (HC0.out _ (.cells #[.int .u8 0, .int .i64 0, .string ⟨#[]⟩] 24) HX0.out HB.out)
              have ne := HNE.out
              go_wp2_with fail
              refine (HSA.out _).mono ?_
              rintro e w1 ⟨rfl, hx⟩
              have HB1 := Lib.hid (W0.out.1.ext hx)
              have HX1 := Lib.hid (Ext.trans W0.out.2 hx)
              clear hx
              have e3 : w1.cell? ⟨w.heap.size, 3, none⟩ = some (.int .u8 bk) := HB1.out.cell 3 _ rfl
              have e4 : w1.cell? ⟨w.heap.size, 4, none⟩ = some (.int .i64 bn) := HB1.out.cell 4 _ rfl
              have e5 : w1.cell? ⟨w.heap.size, 5, none⟩ = some (.string ⟨bs.toArray⟩) := HB1.out.cell 5 _ rfl
              cases SA with
              | false =>
                go_wp2_with fail
                go_ret
                exact ⟨by rw [HQ.out]; simp, HX1.out⟩
              | true =>
              go_wp2_with fail
              refine (HSB.out _).mono ?_
              rintro e w2 ⟨rfl, hx⟩
              have HB2 := Lib.hid (HB1.out.ext hx)
              have HX2 := Lib.hid (Ext.trans HX1.out hx)
              clear hx e3 e4 e5
              have e0 : w2.cell? ⟨w.heap.size, 0, none⟩ = some (.int .u8 ak) := HB2.out.cell 0 _ rfl
              have e1 : w2.cell? ⟨w.heap.size, 1, none⟩ = some (.int .i64 an) := HB2.out.cell 1 _ rfl
              have e2 : w2.cell? ⟨w.heap.size, 2, none⟩ = some (.string ⟨as'.toArray⟩) := HB2.out.cell 2 _ rfl
              have e3 : w2.cell? ⟨w.heap.size, 3, none⟩ = some (.int .u8 bk) := HB2.out.cell 3 _ rfl
              have e4 : w2.cell? ⟨w.heap.size, 4, none⟩ = some (.int .i64 bn) := HB2.out.cell 4 _ rfl
              have e5 : w2.cell? ⟨w.heap.size, 5, none⟩ = some (.string ⟨bs.toArray⟩) := HB2.out.cell 5 _ rfl
              cases SB with
              | false =>
                go_wp2_with fail
                go_ret
                exact ⟨by rw [HQ.out]; simp, HX2.out⟩
              | true =>
              go_wp2_with fail
              refine (HC.out _).mono ?_
              rintro e w3 ⟨rfl, hx⟩
              have HB3 := Lib.hid (HB2.out.ext hx)
              have HX3 := Lib.hid (Ext.trans HX2.out hx)
              clear hx e0 e1 e2 e3 e4 e5
              have e0 : w3.cell? ⟨w.heap.size, 0, none⟩ = some (.int .u8 ak) := HB3.out.cell 0 _ rfl
              have e1 : w3.cell? ⟨w.heap.size, 1, none⟩ = some (.int .i64 an) := HB3.out.cell 1 _ rfl
              have e2 : w3.cell? ⟨w.heap.size, 2, none⟩ = some (.string ⟨as'.toArray⟩) := HB3.out.cell 2 _ rfl
              have e3 : w3.cell? ⟨w.heap.size, 3, none⟩ = some (.int .u8 bk) := HB3.out.cell 3 _ rfl
              have e4 : w3.cell? ⟨w.heap.size, 4, none⟩ = some (.int .i64 bn) := HB3.out.cell 4 _ rfl
              have e5 : w3.cell? ⟨w.heap.size, 5, none⟩ = some (.string ⟨bs.toArray⟩) := HB3.out.cell 5 _ rfl
              have e6 : w3.cell? ⟨w.heap.size, 6, none⟩ = some (.int .i64 pn) := HB3.out.cell 6 _ rfl
              have e7 : w3.cell? ⟨w.heap.size, 7, none⟩ = some (.int .i64 pm) := HB3.out.cell 7 _ rfl
              by_cases h7 : 0 < CA
              · have d7 : decide (0 < CA) = true := decide_eq_true h7
                have HD7 := Lib.hid (show decide (CA ≤ 0) = false from decide_eq_false (by omega))
                clear h7
                go_wp2_with fail
                go_ret
                exact ⟨by rw [HQ.out, HD7.out]; simp, HX3.out⟩
              · have d7 : decide (0 < CA) = false := decide_eq_false h7
                have HD7 := Lib.hid (show decide (CA ≤ 0) = true from decide_eq_true (by omega))
                clear h7
                by_cases h8 : pn + 1 < pm
                · have d8 : decide (pn + 1 < pm) = true := decide_eq_true h8
                  have HD8 := Lib.hid d8
                  clear h8
                  go_wp2_with fail
                  go_ret
                  exact ⟨by rw [HQ.out, HD7.out, HD8.out]; simp, HX3.out⟩
                · have d8 : decide (pn + 1 < pm) = false := decide_eq_false h8
                  have HD8 := Lib.hid d8
                  clear h8
                  go_wp2_with fail
                  go_ret
                  exact ⟨by rw [HQ.out, HD7.out, HD8.out]; simp, HX3.out⟩
  · rw [decide_eq_false h1] at HK
    have HQ := Lib.hid (show x = false from by
      cases x with
      | false => rfl
      | true => exact absurd (HZ.out.2 rfl).1 h1)
    clear hn0 hn1 hm0 hm1 h1
    go_enter Try.func19, Try.ntmps19
    go_wp2_with fail
    refine (HK.out _).mono ?_
    rintro e w1 ⟨rfl, rfl⟩
    go_wp2_with fail
    go_ret
    exact ⟨by rw [HQ.out]; rfl, HX0.out⟩

end Go.Proofs.Ytlbilmmjcfiokaa
