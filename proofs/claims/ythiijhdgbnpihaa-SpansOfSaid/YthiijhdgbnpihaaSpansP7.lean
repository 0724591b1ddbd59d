/-
  The program's spans: choose.
-/
import Derived.WalkMore
import Derived.Deep.LoopGhost
import Derived.Test.YthiijhdgbnpihaaSpansP6
namespace Go.Proofs.Ythiijhdgbnpihaa
open Go.RowKit Go.BigFrame

def lenV : Value → Nat
  | .slice _ n _ => n
  | _ => 0

set_option maxRecDepth 100000 in
set_option maxHeartbeats 1000000 in
theorem choose_any (G : Nat) (op : Bool → Bool → Bool) (hop : op false false = false) (he : ∀ args w, (callFunc G args).run Try.prog w = .ok (.enter G args) w)
    (hf : ∀ x y W, Calls Try.prog G #[.bool x, .bool y] W fun e w' => e = .returned (.bool (op x y)) ∧ W = w')
    (u v : Value) (a b : List Sp) (w : World) (hu : RdSp w u a) (hv : RdSp w v b) :
    Calls Try.prog 30 #[u, v, .func (.func G) #[] #[]] w fun e w' => AnsSp w (bothS a b op) e w' := by
  have HU := Lib.hid hu
  have HV := Lib.hid hv
  have HF := Lib.hid hf
  have HOP := Lib.hid hop
  have HEN := Lib.hid he
  clear he
  obtain ⟨ua, uc, rfl, hu1, hu2⟩ := hu.shape
  obtain ⟨va, vc, rfl, hv1, hv2⟩ := hv.shape
  clear hu hv hf hop
  have HR1 := Lib.hid (pRightRd_any _ a w HU.out)
  have HR2 := Lib.hid (fun W (h : Ext w W) => pRightRd_any _ b W (HV.out.mono h))
  generalize a.length = N at HU HR1 hu1 ⊢
  generalize b.length = M at HV HR2 hv1 ⊢
  unfold maxLen at hu2 hv2
  cases ha : rightSp a with
  | false =>
    rw [ha] at HR1
    have HANS := Lib.hid (show bothS a b op = ([], 1) from if_neg (fun h => by rw [ha] at h; exact absurd h.1 (by decide)))
    clear ha
    go_enter Try.func30, Try.ntmps30
    go_wp2_with fail
    go_step3
    go_wp2_with fail
    refine HR1.out.mono ?_
    rintro e w1 ⟨rfl, hx1⟩
    have HX1 := Lib.hid hx1
    clear hx1
    go_wp2_with fail
    go_ret2
    exact ⟨_, by rw [HANS.out]; rfl, by rw [HANS.out]; exact .inl ⟨rfl, rfl⟩, HX1.out⟩
  | true =>
    rw [ha] at HR1
    cases hb : rightSp b with
    | false =>
      rw [hb] at HR2
      have HANS := Lib.hid (show bothS a b op = ([], 1) from if_neg (fun h => by rw [hb] at h; exact absurd h.2 (by decide)))
      clear ha hb
      go_enter Try.func30, Try.ntmps30
      go_wp2_with fail
      go_step3
      go_wp2_with fail
      refine HR1.out.mono ?_
      rintro e w1 ⟨rfl, hx1⟩
      have HX1 := Lib.hid hx1
      clear hx1
      go_wp2_with fail
      refine (HR2.out _ HX1.out).mono ?_
      rintro e w2 ⟨rfl, hx2⟩
      have HX2 := Lib.hid (Ext.trans HX1.out hx2)
      clear hx2
      go_wp2_with fail
      go_ret2
      exact ⟨_, by rw [HANS.out]; rfl, by rw [HANS.out]; exact .inl ⟨rfl, rfl⟩, HX2.out⟩
    | true =>
      rw [hb] at HR2
      have HANS := Lib.hid (show bothS a b op = (normS fun k => op (inB a k) (inB b k), 0) from if_pos ⟨ha, hb⟩)
      have HLA := Lib.hid (Left.start (of_decide_eq_true ha))
      have HLB := Lib.hid (Left.start (of_decide_eq_true hb))
      obtain ⟨on, hon⟩ : ∃ on : Int → Bool, on = fun k => op (inB a k) (inB b k) := ⟨_, rfl⟩
      have HON := Lib.hid (show ∀ k, on k = op (inB a k) (inB b k) from fun k => by rw [hon])
      rw [← hon] at HANS
      clear ha hb hon
      go_enter Try.func30, Try.ntmps30
      go_wp2_with fail
      go_step3
      go_wp2_with fail
      refine HR1.out.mono ?_
      rintro e w1 ⟨rfl, hx1⟩
      have HX1 := Lib.hid hx1
      clear hx1
      go_wp2_with fail
      refine (HR2.out _ HX1.out).mono ?_
      rintro e w2 ⟨rfl, hx2⟩
      have HX2 := Lib.hid (Ext.trans HX1.out hx2)
      clear hx2
      go_wp2_with fail
      go_step3
      go_wp2_with fail
      go_loopw [0, 1, 8, 9] (fun p q r i wr => ∃ (ra rb : List Sp) (k : Nat), k ≤ 4096 ∧ i = .int .i64 k ∧ RdSp w p ra ∧ RdSp w q rb ∧ Left a ra k ∧ Left b rb k ∧ wr.ownsRow w.heap.size 39 2 r (spansTo on k).length ((spansTo on k).flatMap Sp.cells) ∧ Ext w wr) (fun p q _ i _ => lenV p + lenV q + (4096 - (intOf i).toNat))
      case atStart => exact ⟨a, b, 0, Nat.zero_le _, rfl, HU.out, HV.out, HLA.out, HLB.out, ⟨rfl, .inl ⟨rfl, rfl⟩⟩, HX2.out⟩
      case round =>
        obtain ⟨ra, rb, k, hk, rfl, hp, hq, hla, hlb, hown, hx⟩ := hrel
        have HX := Lib.hid hx
        have HOWN := Lib.hid hown
        have HP := Lib.hid (hp.mono hx)
        have HQ := Lib.hid (hq.mono hx)
        have HP0 := Lib.hid hp
        have HQ0 := Lib.hid hq
        have HRA := Lib.hid hla
        have HRB := Lib.hid hlb
        obtain ⟨pa, pc, rfl, hp1, hp2⟩ := hp.shape
        obtain ⟨qa, qc, rfl, hq1, hq2⟩ := hq.shape
        unfold maxLen at hp2 hq2
        clear hx hown hp hq hla hlb
        obtain ⟨na, hna⟩ : ∃ n, ra.length = n := ⟨_, rfl⟩
        obtain ⟨nb, hnb⟩ : ∃ n, rb.length = n := ⟨_, rfl⟩
        have HNA := Lib.hid hna
        have HNB := Lib.hid hnb
        rw [hna] at HP HP0 hp1 ⊢
        rw [hnb] at HQ HQ0 hq1 ⊢
        clear hna hnb
        by_cases hend : na = 0 ∧ nb = 0
        · obtain ⟨rfl, rfl⟩ := hend
          have HFIN := Lib.hid (show normS on = spansTo on k from by
            have ea : ra = [] := List.length_eq_zero_iff.1 HNA.out
            have eb : rb = [] := List.length_eq_zero_iff.1 HNB.out
            refine spansTo_skip hk fun m h1 _ => ?_
            rw [HON.out, HRA.out.mem m (by omega), HRB.out.mem m (by omega), ea, eb]
            exact HOP.out)
          go_wp2_with fail
          rw [Exit.noGoto_ret]
          go_ret2
          exact ⟨_, by rw [HANS.out]; rfl, by rw [HANS.out]; show OwnSp _ _ _ (normS on); rw [HFIN.out]; exact OwnSp.of_owns HOWN.out, HX.out⟩
        · have hT : (((na : Int) == 0) = false) ∨ (((na : Int) == 0) = true ∧ ((nb : Int) == 0) = false) := by
            by_cases h0 : na = 0
            · exact .inr ⟨by rw [beq_iff_eq]; omega, by rw [beq_eq_false_iff_ne]; omega⟩
            · exact .inl (by rw [beq_eq_false_iff_ne]; omega)
          have HEND := Lib.hid hend
          clear hend
          rcases hT with hT | ⟨hT, hT2⟩
          all_goals (
            go_wp2_with fail
            refine (passed_any _ ra k wr HP.out).mono ?_
            rintro e w3 ⟨rfl, rfl⟩
            cases hpa : passedS ra k with
            | true =>
              cases ra with
              | nil => cases hpa
              | cons s r =>
                obtain ⟨v3, hv3, hsl⟩ := rd_tail w _ s r HP0.out
                obtain ⟨ta, tc, rfl, ht1, ht2⟩ := hv3.shape
                have HV3 := Lib.hid hv3
                have HNX := Lib.hid (HRA.out.pop hpa)
                clear hpa hv3
                go_wp2_with fail
                go_roundw
                case rel => exact ⟨r, rb, k, hk, rfl, HV3.out, HQ0.out, HNX.out, HRB.out, HOWN.out, HX.out⟩
                case measure => have := HNA.out; simp [intOf, lenV] at *; omega
            | false =>
              have HPA := Lib.hid hpa
              clear hpa
              go_wp2_with fail
              refine (passed_any _ rb k wr HQ.out).mono ?_
              rintro e w3 ⟨rfl, rfl⟩
              cases hpb : passedS rb k with
              | true =>
                cases rb with
                | nil => cases hpb
                | cons s r =>
                  obtain ⟨v3, hv3, hsl⟩ := rd_tail w _ s r HQ0.out
                  obtain ⟨ta, tc, rfl, ht1, ht2⟩ := hv3.shape
                  have HV3 := Lib.hid hv3
                  have HNX := Lib.hid (HRB.out.pop hpb)
                  clear hpb hv3
                  go_wp2_with fail
                  go_roundw
                  case rel => exact ⟨ra, r, k, hk, rfl, HP0.out, HV3.out, HRA.out, HNX.out, HOWN.out, HX.out⟩
                  case measure => have := HNB.out; simp [intOf, lenV] at *; omega
              | false =>
                obtain ⟨n1, hb1, hn1, hlt1, hno1, hal1⟩ := HRA.out.border HPA.out
                obtain ⟨n2, hb2, hn2, hlt2, hno2, hal2⟩ := HRB.out.border hpb
                have HB1 := Lib.hid (border_any _ ra k wr HP.out)
                have HB2 := Lib.hid (border_any _ rb k wr HQ.out)
                have HE1 := Lib.hid (entered_any _ ra k wr HP.out)
                have HE2 := Lib.hid (entered_any _ rb k wr HQ.out)
                rw [hb1] at HB1
                rw [hb2] at HB2
                obtain ⟨n, hmin, hn, hnk, hnl1, hnl2⟩ : ∃ n : Nat, (if n2 < n1 then (n2 : Int) else (n1 : Int)) = (n : Int) ∧ n ≤ 4096 ∧ k < n ∧ n ≤ n1 ∧ n ≤ n2 := by
                  have h1 := HNA.out
                  have h2 := HNB.out
                  have h3 := HEND.out
                  refine ⟨min n1 n2, by split <;> omega, by omega, ?_, by omega, by omega⟩
                  rw [h1] at hlt1 hno1
                  rw [h2] at hlt2 hno2
                  by_cases e1 : na = 0
                  · have := hno1 e1
                    have := hlt2 (by omega)
                    omega
                  · have := hlt1 e1
                    by_cases e2 : nb = 0
                    · have := hno2 e2
                      omega
                    · have := hlt2 e2
                      omega
                generalize enteredS ra k = B1 at HE1 hal1
                generalize enteredS rb k = B2 at HE2 hal2
                have HALL := Lib.hid (show ∀ m : Nat, k ≤ m → m < n → on m = op B1 B2 from fun m h1 h2 => by rw [HON.out, hal1 m h1 (by omega), hal2 m h1 (by omega)])
                have HCALL := Lib.hid (HF.out B1 B2 wr)
                have HRA2 := Lib.hid (HRA.out.later (Nat.le_of_lt hnk))
                have HRB2 := Lib.hid (HRB.out.later (Nat.le_of_lt hnk))
                have HEN2 := HEN.out
                clear hpb hb1 hb2 hlt1 hlt2 hno1 hno2 hal1 hal2
                go_wp2_with fail
                refine HB1.out.mono ?_
                rintro e w3 ⟨rfl, rfl⟩
                go_wp2_with fail
                refine HB2.out.mono ?_
                rintro e w3 ⟨rfl, rfl⟩
                go_wp2_with fail
                refine HE1.out.mono ?_
                rintro e w3 ⟨rfl, rfl⟩
                go_wp2_with fail
                refine HE2.out.mono ?_
                rintro e w3 ⟨rfl, rfl⟩
                go_wp2_with fail
                cases hopb : op B1 B2 with
                | true =>
                  rw [hopb] at HALL HCALL
                  have HEXT := Lib.hid (extS_spans hnk hn HALL.out)
                  have HLN := Lib.hid (spansTo_len on k)
                  have HEXC := Lib.hid (extend_any w.heap.size u8 (spansTo on k) (k : Int) (n : Int) wr HX.out.size (by have := HLN.out; omega) HOWN.out)
                  clear hopb
                  refine HCALL.out.mono ?_
                  rintro e w3 ⟨rfl, rfl⟩
                  go_wp2_with fail
                  refine HEXC.out.mono ?_
                  rintro e w4 ⟨⟨v4, rfl, ho4⟩, hx4⟩
                  have HO4 := Lib.hid ho4
                  have HX4 := Lib.hid (show Below w.heap.size w w4 from (show Below w.heap.size w wr from HX.out).trans hx4)
                  clear ho4 hx4
                  go_wp2_with fail
                  go_roundw
                  case rel => exact ⟨ra, rb, n, hn, rfl, HP0.out, HQ0.out, HRA2.out, HRB2.out, by rw [← HEXT.out]; exact HO4.out, HX4.out⟩
                  case measure => simp [intOf, lenV]; omega
                | false =>
                  rw [hopb] at HALL HCALL
                  have HSK := Lib.hid (spansTo_skip (Nat.le_of_lt hnk) HALL.out)
                  clear hopb
                  refine HCALL.out.mono ?_
                  rintro e w3 ⟨rfl, rfl⟩
                  go_wp2_with fail
                  go_roundw
                  case rel => exact ⟨ra, rb, n, hn, rfl, HP0.out, HQ0.out, HRA2.out, HRB2.out, by rw [HSK.out]; exact HOWN.out, HX.out⟩
                  case measure => simp [intOf, lenV]; omega)

end Go.Proofs.Ythiijhdgbnpihaa
