/-
  The walk of the law PagesBursts.
-/
import Derived.Test.YthelgjoobckbaaaPagesMath
import Derived.Laws.BitsLemmas
namespace Go.Proofs.Ythelgjoobckbaaa
open Go.RowKit Go.BigFrame

theorem and_one' (W k : Nat) (h : W ≤ 4294967295) : bits BinOp.and IntKind.u32 ((W : Int) / 2 ^ k) 1 = ((W / 2 ^ k % 2 : Nat) : Int) := by
  have h1 : W / 2 ^ k ≤ W := Nat.div_le_self _ _
  have e : ((W : Int) / 2 ^ k) = ((W / 2 ^ k : Nat) : Int) := by rw [Int.natCast_ediv, Int.natCast_pow]; rfl
  have := (bits_nat .u32 32 (by decide) (fun n h0 h1 => IntWalk.u32_in n ⟨h0, by omega⟩) (W / 2 ^ k) 1 (by omega) (by decide)).1
  rw [e, ← Nat.and_one_is_mod]
  exact this
theorem turn_stay' (A k j W : Nat) (h : j ≠ A + k ∨ W.testBit k = false) : (decide (A ≤ j ∧ j < A + (k + 1)) && W.testBit (j - A)) = (decide (A ≤ j ∧ j < A + k) && W.testBit (j - A)) := by
  by_cases hj : j = A + k
  · have hf : W.testBit k = false := h.resolve_left (fun hh => hh hj)
    subst hj
    rw [show A + k - A = k by omega, hf, Bool.and_false, Bool.and_false]
  · congr 1
    exact decide_eq_decide.2 ⟨fun ⟨h1, h2⟩ => ⟨h1, by omega⟩, fun ⟨h1, h2⟩ => ⟨h1, by omega⟩⟩
theorem turn_next' (A k j W : Nat) (h : W.testBit k = true) : (decide (A ≤ j ∧ j < A + (k + 1)) && W.testBit (j - A)) = ((decide (A ≤ j ∧ j < A + k) && W.testBit (j - A)) ^^ decide (j = A + k)) := by
  by_cases hj : j = A + k
  · subst hj
    rw [show A + k - A = k by omega, h, decide_eq_true (show A ≤ A + k ∧ A + k < A + (k + 1) by omega), decide_eq_false (show ¬ (A ≤ A + k ∧ A + k < A + k) by omega), decide_eq_true rfl]
    rfl
  · rw [decide_eq_false hj, Bool.xor_false]
    congr 1
    exact decide_eq_decide.2 ⟨fun ⟨h1, h2⟩ => ⟨h1, by omega⟩, fun ⟨h1, h2⟩ => ⟨h1, by omega⟩⟩

/-- What holds while bits are turned. -/
structure BInv (w w3 wr : World) (p : Nat) (O3 : Nat → Prop) (s1 : St) (id A W k : Nat) (c : List UInt8) (tb : Bool) : Prop where
  ex : ∃ (O' : Nat → Prop) (pg : List UInt8), PSto O' wr p (s1.set id (some pg)) ∧ okS (s1.set id (some pg)) ∧ pg.length = 64 ∧ (tb = false → pg = layP id c) ∧
    (∀ j, j < 512 → (bitsOf pg)[j]? = (bitsOf (layP id c))[j]?.map fun b => b ^^ (decide (A ≤ j ∧ j < A + k) && W.testBit (j - A))) ∧ (∀ b, O' b → O3 b ∨ w3.heap.size ≤ b)
  told : tb = true ↔ ∃ i, i < k ∧ A + i < 512 ∧ W.testBit i = true
  only : OnlyS O3 w3 wr
  below : Below w.heap.size w wr

theorem set_same {s : St} {i : Nat} {o : Option (List UInt8)} (h : s[i]? = some o) : s.set i o = s := by
  refine List.ext_getElem? fun j => ?_
  by_cases e : i = j
  · subst e
    rw [List.getElem?_set_self (List.getElem?_eq_some_iff.1 h).1, h]
  · rw [List.getElem?_set_ne e]
theorem set_twice {s : St} {i : Nat} {o o' : Option (List UInt8)} : (s.set i o).set i o' = s.set i o' := List.set_set ..
theorem flip_set {s : St} {id k : Nat} {pg : List UInt8} {m : UInt8} (hid : id < s.length) (hk : k < 64) : flipS (s.set id (some pg)) (id : Int) (k : Int) m = s.set id (some (turnB pg k m)) := by
  unfold flipS setS
  rw [pageS_at (List.getElem?_set_self hid)]
  simp only
  rw [if_pos ⟨by omega, by omega⟩, Int.toNat_natCast, Int.toNat_natCast, set_twice]

set_option maxRecDepth 100000 in
set_option maxHeartbeats 4000000 in
theorem pagesBursts_walk (v : Value) (l : List UInt8) (wh at' bs : Int) (w : World) (hr : Rd w v l) (hwh : 0 ≤ wh ∧ wh ≤ 255) (hat : 0 ≤ at' ∧ at' ≤ 65535) (hbs : 0 ≤ bs ∧ bs ≤ 4294967295) :
    Calls Try.prog 5 #[v, .int .u8 wh, .int .u16 at', .int .u32 bs] w fun e w' => e = .returned (.bool true) ∧ Below w.heap.size w w' := by
  obtain ⟨va, vc, rfl, hv1, hv2⟩ := hr.shape
  unfold maxLen at hv2
  obtain ⟨R, rfl⟩ := Int.eq_ofNat_of_zero_le hwh.1
  obtain ⟨AT, rfl⟩ := Int.eq_ofNat_of_zero_le hat.1
  obtain ⟨W, rfl⟩ := Int.eq_ofNat_of_zero_le hbs.1
  have hR : R ≤ 255 := by omega
  have hAT : AT ≤ 65535 := by omega
  have hW : W ≤ 4294967295 := by omega
  have HRD := Lib.hid (show ∀ k W, k ≤ l.length → Ext w W → Rd W (.slice va k vc) (l.take k) from fun k W hk hx => by
    rcases hr.mono hx with ⟨h1, h2⟩ | ⟨x, cap', h1, h3, h4, h5⟩
    · have hl0 : l = [] := by simpa using h2
      subst hl0
      have hk0 : k = 0 := by simpa using hk
      subst hk0
      rw [List.length_nil] at h1
      rw [h1]
      exact Rd.nil W
    · simp only [Value.slice.injEq] at h1
      obtain ⟨rfl, -, rfl⟩ := h1
      refine .inr ⟨x, vc, by rw [List.length_map, List.length_take, Nat.min_eq_left hk], by rw [List.length_map, List.length_take]; omega, h4, fun i u hu => ?_⟩
      rw [List.map_take, List.getElem?_take] at hu
      split at hu
      · exact h5 i u hu
      · cases hu)
  obtain ⟨X, hX⟩ : ∃ X, X = (1 : UInt8) :: l.take (min l.length 499) := ⟨_, rfl⟩
  have HX := Lib.hid hX
  have hXl : X.length ≤ 500 ∧ 0 < X.length := by rw [hX, List.length_cons, List.length_take]; omega
  obtain ⟨hXl1, hXl2⟩ := hXl
  obtain ⟨i0, hi, hz0, hz1, hz2⟩ := info_parts Try.info5
  obtain ⟨L, hL⟩ : ∃ L, L = l.length := ⟨_, rfl⟩
  have HL := Lib.hid hL
  rw [← hL] at hv1 ⊢
  clear hr hX hL hwh hat hbs
  -- the store behind Put
  have hnd : 1 ≤ needS (X.length : Int) ∧ needS (X.length : Int) ≤ 9 := by unfold needS; split <;> omega
  have hok0 : okS (List.replicate 60 none) := ⟨by simp, fun q hq => by have := List.eq_of_mem_replicate hq; cases this⟩
  have hput0 : (putS (List.replicate 60 none) X).1.2 = 0 := by
    have : (allocS (List.replicate 60 none) (needS X.length)).1.2 = 0 := by
      rw [allocS_fits _ (by omega) (by simp [usedS]; omega)]
    unfold putS
    rw [if_pos this]
  obtain ⟨hHO, hND, hFR, hCN⟩ := putS_holds hput0
  have hok1 := putS_ok hok0 X
  obtain ⟨I, hI⟩ : ∃ I, (putS (List.replicate 60 none) X).1.1 = I := ⟨_, rfl⟩
  obtain ⟨s1, hs1⟩ : ∃ s1, (putS (List.replicate 60 none) X).2 = s1 := ⟨_, rfl⟩
  rw [hI] at hHO hND hCN
  rw [hs1] at hHO hok1
  have HPUT := Lib.hid (show putS (List.replicate 60 none) X = ((I, 0), s1) from by rw [← hI, ← hs1, ← hput0])
  have HHO := Lib.hid hHO
  have HND := Lib.hid hND
  have HCN := Lib.hid hCN
  have HOK1 := Lib.hid hok1
  have HOK0 := Lib.hid hok0
  obtain ⟨n, hn⟩ : ∃ n, n = I.length := ⟨_, rfl⟩
  have HN := Lib.hid hn
  have hn1 : 1 ≤ n := by omega
  have hn9 : n ≤ 9 := by omega
  clear hHO hND hFR hCN hok1 hok0 hput0 hI hs1 hn hnd
  go_enter Try.func5, Try.ntmps5
  go_wp2_with fail
  refine (shown5_any _).mono ?_
  rintro e w1 ⟨rfl, hx1⟩
  have HX1 := Lib.hid hx1
  clear hx1
  go_wp2_with fail
  refine (pNew_any 60 (by decide)).mono ?_
  rintro e w2 hNew
  unfold PNewed at hNew
  rcases hNew with ⟨_, _, p, O2, rfl, hp2, ho2, hx2⟩ | ⟨hbad, _⟩
  · have HP2 := Lib.hid (show PSto O2 w2 p (List.replicate 60 none) from hp2)
    have HO2 := Lib.hid ho2
    have HX2 := Lib.hid (Ext.trans HX1.out hx2)
    clear hp2 ho2 hx2
    have HB2 := Lib.hid (ext_new w2 (.cells #[.int .u8 1] 5))
    have HOW := Lib.hid (one_owned w2 w2.heap.size (.int .u8 1) (Nat.le_refl _))
    have HSL := Lib.hid (show ∀ (K : Nat) W, K ≤ L → (Instr.slice 33 (.slice va L vc) none (some (.int .i64 (K : Int))) none).run Try.prog W = .ok (.slice va K vc) W from fun K W hK => by
      have h0 := HL.out
      rcases HRD.out L (w2.alloc (.cells #[.int .u8 1] 5)) (by omega) (Ext.trans HX2.out HB2.out) with ⟨h1, h2⟩ | ⟨x, cap', h1, h3, h4, h5⟩
      · simp only [Value.slice.injEq] at h1
        obtain ⟨rfl, h6, rfl⟩ := h1
        have hK0 : K = 0 := by omega
        subst hK0
        subst h6
        simp [Instr.slice, Instr.sliceBounds, Instr.sliceBound, run_underlying Try.underlying33, go_sem]
      · simp only [Value.slice.injEq] at h1
        obtain ⟨rfl, -, rfl⟩ := h1
        have hKc : K ≤ vc := by omega
        simp [Instr.slice, Instr.sliceBounds, Instr.sliceBound, run_underlying Try.underlying33, go_sem, hKc])
    by_cases h499 : 499 < L
    · have hd : decide (499 < (L : Int)) = true := decide_eq_true (by omega)
      have hmn : min L 499 = 499 := by omega
      have hsl : ∀ W, (Instr.slice 33 (.slice va L vc) none (some (.int .i64 499)) none).run Try.prog W = .ok (.slice va 499 vc) W := fun W => HSL.out 499 W (by omega)
      have HKL := Lib.hid (show 499 ≤ l.length ∧ 499 ≤ 499 from by have := HL.out; omega)
      have HXK := Lib.hid (show X = (1 : UInt8) :: l.take 499 from by rw [HX.out, ← HL.out, hmn])
      have HTK := Lib.hid (show ((l.take 499).map bv).length = 499 from by rw [List.length_map, List.length_take]; have := HKL.out; omega)
      clear hmn
      go_wp2_with (at_builtin; go_must (refine wpList_append_rd rfl (.tmp 35) (.tmp 40) 33 rfl w2.heap.size 5 i0 (.int .u8 0) 1 Try.underlying33 hi hz0 hz1 hz2 rfl _ _ _ rfl HOW.out _ _ rfl (HRD.out 499 _ HKL.out.1 (Ext.trans HX2.out HB2.out)) (bv_oneCell _) (by rw [HTK.out]; unfold maxLen; have := HKL.out; omega) (by rw [HTK.out]; have := HKL.out; omega) (by simp) ?_); intro v3 w3 hown3 hgrow3; have HX3 := Lib.hid (show Ext w2 w3 from Below.grown (show Below w2.heap.size w2 (w2.alloc (.cells #[.int .u8 1] 5)) from HB2.out) hgrow3 (by simp) (fun k hk => by cases hk; exact Nat.le_refl _)); have HO3 := Lib.hid (show w3.ownsRow w2.heap.size 5 1 v3 X.length (X.map bv) from by have h1 := hown3; rw [HXK.out]; rw [List.length_map] at h1; rw [List.length_cons, List.map_cons, Nat.add_comm]; exact h1); clear hown3 hgrow3)
      obtain ⟨a3, cap3, rfl, hc31, hc32⟩ := own_shape HO3.out
      unfold maxLen at hc32
      have HRX := Lib.hid (show Rd w3 (.slice a3 X.length cap3) X from RdV.of_owns HO3.out)
      have HV3 := Lib.hid (show ∀ k, (Value.slice a3 X.length cap3).ownBlock = some k → ¬ O2 k from fun k hk h => by have := (HO3.out.lt k hk).1; have := HP2.out.lt k h; omega)
      refine (pPut_any (O := O2) (w := w3) _ X (HP2.out.mono HX3.out) HOK0.out HRX.out (fun _ => HV3.out) (by omega)).mono ?_
      rintro e w4 ⟨v4, rfl, hown4, O4, hp4, ho4, hn4, hv4⟩
      rw [HPUT.out] at hown4 hp4 ⊢
      simp only at hown4 hp4 ⊢
      rw [← HN.out] at hown4
      obtain ⟨g4, cap4, rfl, hg41, hg42, hc41, hc42⟩ := owns_shape hown4 (by omega)
      unfold maxLen at hc42
      have HIW := Lib.hid hown4
      have HP4 := Lib.hid hp4
      have HX4 := Lib.hid (own_onlyS HO3.out ho4 HV3.out)
      have HV4 := Lib.hid hv4
      have HV3b := Lib.hid (show ∀ k, (Value.slice a3 X.length cap3).ownBlock = some k → ¬ O4 k from fun k hk h => by
        rcases hn4 k h with h | h
        · exact HV3.out k hk h
        · have := (HO3.out.lt k hk).2; omega)
      have HOW4 := Lib.hid (show ∀ x, O4 x → w.heap.size ≤ x from fun x hx => by
        have s1 := HX1.out.size
        have s2 := HX2.out.size
        have s3 := HX3.out.size
        rcases hn4 x hx with h | h
        · exact Nat.le_trans s1 (HO2.out x h)
        · omega)
      have HB4 := Lib.hid (show Below w.heap.size w w4 from Below.trans (Ext.trans HX2.out HX3.out) (ho4.below (by have := HX2.out.size; have := HX3.out.size; omega) (fun b hb => Nat.le_trans HX1.out.size (HO2.out b hb))))
      clear hown4 hp4 ho4 hn4 hv4
      obtain ⟨r, hr, hrn⟩ : ∃ r : Nat, (R : Int) % (n : Int) = r ∧ r < n := ⟨R % n, by rw [Int.natCast_emod], Nat.mod_lt _ (by omega)⟩
      have hn0 : ((n : Int) == 0) = false := by rw [beq_eq_false_iff_ne]; omega
      have hrI : r < I.length := by have := HN.out; omega
      have hcell := HIW.out.cellAt r (by omega)
      rw [List.getElem?_map, List.getElem?_eq_getElem hrI, Option.map_some] at hcell
      unfold iv at hcell
      have hmem := List.getElem_mem hrI
      obtain ⟨c, hc56, hsc⟩ := HHO.out.page I[r] hmem
      generalize I[r] = id at hcell hmem hsc
      have HSC := Lib.hid hsc
      have HC56 := Lib.hid hc56
      have HMEM := Lib.hid hmem
      have hid60 : id < s1.length := (List.getElem?_eq_some_iff.1 hsc).1
      have hs1l := HOK1.out.1
      have hid : id ≤ 4096 := by omega
      have HIDL := Lib.hid hid60
      obtain ⟨A, hA⟩ : ∃ A : Nat, (AT : Int) % 512 = A := ⟨AT % 512, by omega⟩
      have hA512 : A < 512 := by omega
      have HI0 := Lib.hid (show BInv w w4 w4 p O4 s1 id A W 0 c false from ⟨⟨O4, layP id c, by rw [set_same hsc]; exact HP4.out, by rw [set_same hsc]; exact HOK1.out, layP_length id c hc56, fun _ => rfl, fun j _ => by rw [decide_eq_false (by omega)]; simp, fun b hb => .inl hb⟩, by simp, OnlyS.refl _ _, HB4.out⟩)
      clear hrI hmem hsc hc56 hid60 hs1l
      go_wp2_with fail
      try rw [hA]
      try rw [hr]
      clear hA hr
      go_loopw [17, 66] (fun t i wr => ∃ (k : Nat) (tb : Bool), k ≤ 32 ∧ i = .int .i64 k ∧ t = .bool tb ∧ BInv w w4 wr p O4 s1 id A W k c tb) (fun _ i _ => 32 - (intOf i).toNat)
      case atStart => exact ⟨0, false, by omega, rfl, rfl, HI0.out⟩
      case round =>
        obtain ⟨k, tb, hk, rfl, rfl, hinv⟩ := hrel
        have HI := Lib.hid hinv
        clear hinv
        by_cases hlt : k < 32
        · have HAO := Lib.hid (and_one' W k hW)
          have HTE := Lib.hid (Nat.testBit_eq_decide_div_mod_eq (x := W) (i := k))
          by_cases hbt : W / 2 ^ k % 2 = 1
          · have hb1 : (bits BinOp.and IntKind.u32 ((W : Int) / 2 ^ k) 1 == 1) = true := by rw [HAO.out, hbt]; rfl
            have HBT := Lib.hid (show W.testBit k = true by rw [HTE.out, hbt]; rfl)
            clear hbt
            by_cases hin : A + k < 512
            · have hin2 : decide ((A : Int) + k < 512) = true := decide_eq_true (by omega)
              obtain ⟨O', pg, e1, e2, e3, e4, e5, e6⟩ := HI.out.ex
              obtain ⟨M, hM⟩ : ∃ M, M = A + k := ⟨_, rfl⟩
              have hM512 : M < 512 := by omega
              have hm8 : M % 8 < 8 := Nat.mod_lt _ (by decide)
              have hidl := HIDL.out
              have HFL := Lib.hid (pFlip_any (w := wr) (id : Int) ((M / 8 : Nat) : Int) (UInt8.ofNat (2 ^ (7 - M % 8))) e1 e2 (by omega) (by omega))
              have hok2 := flipS_ok e2 (id : Int) ((M / 8 : Nat) : Int) (UInt8.ofNat (2 ^ (7 - M % 8)))
              rw [flip_set hidl (by omega)] at hok2
              rw [flip_set hidl (by omega)] at HFL
              obtain ⟨c0, hc0⟩ : ∃ c0, pg[M / 8]? = some c0 := ⟨_, List.getElem?_eq_getElem (by omega)⟩
              have hT : turnB pg (M / 8) (UInt8.ofNat (2 ^ (7 - M % 8))) = pg.set (M / 8) (c0 ^^^ UInt8.ofNat (2 ^ (7 - M % 8))) := by
                unfold turnB
                rw [List.getD_eq_getElem?_getD, hc0]
                rfl
              rw [hT] at hok2 HFL
              have HNB := Lib.hid (fun j => turn_bit pg M c0 hc0 j)
              have HPL := Lib.hid (show (pg.set (M / 8) (c0 ^^^ UInt8.ofNat (2 ^ (7 - M % 8)))).length = 64 from by rw [List.length_set]; exact e3)
              generalize pg.set (M / 8) (c0 ^^^ UInt8.ofNat (2 ^ (7 - M % 8))) = pg2 at hok2 HFL HNB HPL
              have HOK2 := Lib.hid hok2
              have HE5 := Lib.hid e5
              have HE6 := Lib.hid e6
              have hmask : ((128 : Int) / 2 ^ ((A + k) % 8)) = (((UInt8.ofNat (2 ^ (7 - M % 8))).toNat : Nat) : Int) := by
                rw [← hM]
                have e : ∀ i : Nat, i < 8 → ((128 : Int) / 2 ^ i) = ((2 ^ (7 - i) : Nat) : Int) := fun i h => by
                  match i, h with
                  | 0, _ | 1, _ | 2, _ | 3, _ | 4, _ | 5, _ | 6, _ | 7, _ => rfl
                have h2 : 2 ^ (7 - M % 8) < 256 := Nat.pow_lt_pow_right (n := 8) (by decide) (by omega)
                rw [e _ hm8, UInt8.toNat_ofNat_of_lt' h2]
              have HMK := Lib.hid hmask
              have HM := Lib.hid hM
              have hdiv : (((A : Int) + k) / 8) = ((M / 8 : Nat) : Int) := by omega
              have HDV := Lib.hid hdiv
              clear e1 e2 e3 e4 e5 e6 hok2 hT hc0 hmask hdiv hM
              go_wp2_with fail
              rw [HMK.out, HDV.out]
              refine HFL.out.mono ?_
              rintro e w5 ⟨rfl, hst⟩
              obtain ⟨O'', q1, q2, q3, -, q5, -⟩ := pchain HI.out.only HE6.out hst
              have HQ1 := Lib.hid q1
              have HQ2 := Lib.hid q2
              have HQ3 := Lib.hid q3
              have HQB := Lib.hid (show Below w.heap.size w w5 from HI.out.below.trans (q5.below HI.out.below.size (fun b hb => by
                rcases HE6.out b hb with h | h
                · exact HOW4.out b h
                · exact Nat.le_trans HB4.out.size h)))
              clear hst q1 q2 q3 q5
              go_wp2_with fail
              go_roundw
              case rel =>
                have hm := HM.out
                refine ⟨k + 1, true, by omega, by go_num, rfl, ⟨O'', pg2, HQ1.out, HOK2.out, HPL.out, (by simp), fun j hj => ?_, HQ3.out⟩, ⟨fun _ => ⟨k, by omega, by omega, HBT.out⟩, fun _ => rfl⟩, HQ2.out, HQB.out⟩
                rw [HNB.out j, HE5.out j hj, turn_next' A k j W HBT.out, hm, Option.map_map]
                congr 1
                funext b
                simp
              case measure => simp [intOf]; omega
            · have hin2 : decide ((A : Int) + k < 512) = false := decide_eq_false (by omega)
              go_wp2_with fail
              go_roundw
              case rel =>
                obtain ⟨O', pg, e1, e2, e3, e4, e5, e6⟩ := HI.out.ex
                refine ⟨k + 1, tb, by omega, by go_num, rfl, ⟨O', pg, e1, e2, e3, e4, fun j hj => by rw [e5 j hj, turn_stay' A k j W (.inl (by omega))], e6⟩, ?_, HI.out.only, HI.out.below⟩
                rw [HI.out.told]
                exact ⟨fun ⟨i, h1, h2, h3⟩ => ⟨i, by omega, h2, h3⟩, fun ⟨i, h1, h2, h3⟩ => ⟨i, by omega, h2, h3⟩⟩
              case measure => simp [intOf]; omega
          · have hb1 : (bits BinOp.and IntKind.u32 ((W : Int) / 2 ^ k) 1 == 1) = false := by rw [HAO.out, beq_eq_false_iff_ne]; omega
            have HBT := Lib.hid (show W.testBit k = false by rw [HTE.out]; exact decide_eq_false hbt)
            clear hbt
            go_wp2_with fail
            go_roundw
            case rel =>
              obtain ⟨O', pg, e1, e2, e3, e4, e5, e6⟩ := HI.out.ex
              refine ⟨k + 1, tb, by omega, by go_num, rfl, ⟨O', pg, e1, e2, e3, e4, fun j hj => by rw [e5 j hj, turn_stay' A k j W (.inr HBT.out)], e6⟩, ?_, HI.out.only, HI.out.below⟩
              rw [HI.out.told]
              refine ⟨fun ⟨i, h1, h2, h3⟩ => ⟨i, by omega, h2, h3⟩, fun ⟨i, h1, h2, h3⟩ => ⟨i, ?_, h2, h3⟩⟩
              have : i ≠ k := fun e => by rw [e, HBT.out] at h3; cases h3
              omega
            case measure => simp [intOf]; omega
        · have hk32 : k = 32 := by omega
          subst hk32
          obtain ⟨O', pg, e1, e2, e3, e4, e5, e6⟩ := HI.out.ex
          have hRI : ∀ W, (∀ b, b < w4.heap.size → ¬ O4 b → W.heap[b]? = w4.heap[b]?) → RdV W (.slice (some ⟨g4, 0, none⟩) n cap4) ((I.map fun (i : Nat) => (i : Int)).map (Value.int .i64)) := fun W hW' => by
            have h := RdV.of_owns HIW.out
            rcases h with ⟨h1, _⟩ | ⟨x, cap', h1, h3, h4, h5⟩
            · cases h1
            · simp only [Value.slice.injEq] at h1
              obtain ⟨h1a, h1b, rfl⟩ := h1
              cases h1a
              refine .inr ⟨⟨g4, 0, none⟩, cap4, ?_, by simpa [iv] using h3, h4, fun i u hu => ?_⟩
              · rw [h1b]; simp
              · have hu2 : (I.map iv)[i]? = some u := by simpa [iv, Function.comp_def] using hu
                have := h5 i u hu2
                rw [add_at] at this ⊢
                rw [cell_of_same (hW' g4 hg42 (HV4.out g4 rfl))]
                exact this
          have hIb : ∀ i ∈ I.map (fun (i : Nat) => (i : Int)), -9223372036854775808 ≤ i ∧ i ≤ 9223372036854775807 := fun i hi => by
            obtain ⟨j, hj, rfl⟩ := List.mem_map.1 hi
            obtain ⟨c', _, h2⟩ := HHO.out.page j hj
            have := (List.getElem?_eq_some_iff.1 h2).1
            have := HOK1.out.1
            omega
          have hg4O : ¬ O' g4 := fun h => by
            rcases e6 g4 h with h | h
            · exact HV4.out g4 rfl h
            · omega
          have hmemI : (id : Int) ∈ I.map (fun (i : Nat) => (i : Int)) := List.mem_map.2 ⟨id, HMEM.out, rfl⟩
          have hO'w : ∀ b, O' b → w.heap.size ≤ b := fun b hb => by
            rcases e6 b hb with h | h
            · exact HOW4.out b h
            · exact Nat.le_trans HB4.out.size h
          have hx3O : ∀ k, (Value.slice a3 X.length cap3).ownBlock = some k → ¬ O' k := fun k hk h => by
            rcases e6 k h with h | h
            · exact HV3b.out k hk h
            · have := (HX4.out.lt k hk).2; omega
          have hpl : (I.map fun (i : Nat) => (i : Int)).length = n := by rw [List.length_map, HN.out]
          have HRI := Lib.hid hRI
          have HIB := Lib.hid hIb
          have HG4 := Lib.hid hg4O
          have HOWW := Lib.hid hO'w
          have HX3O := Lib.hid hx3O
          have HRE := Lib.hid (pRead_core (w := wr) (id : Int) e1 e2 (by omega))
          have HGE := Lib.hid (fun w5 (hx5 : Ext wr w5) => pGet_any (w := w5) (.slice (some ⟨g4, 0, none⟩) n cap4) (I.map fun (i : Nat) => (i : Int)) (X.length : Int) (e1.mono hx5) e2 (hRI w5 (fun b hb hO => (hx5.block b (Nat.lt_of_lt_of_le hb HI.out.only.size)).trans (HI.out.only.block b hb hO))) (fun _ k hk => by cases hk; exact hg4O) (by rw [hpl]; omega) hIb (by omega))
          have HXR := Lib.hid (own_onlyS HX4.out HI.out.only HV3b.out)
          cases tb with
          | true =>
            have hrd : readS (s1.set id (some pg)) (id : Int) = ([], 6) := read_turned (List.getElem?_set_self HIDL.out) HC56.out e3 (by omega) e5 (HI.out.told.1 rfl)
            have hgt : getS (s1.set id (some pg)) (I.map fun (i : Nat) => (i : Int)) (X.length : Int) = ([], 6) := get_bad (by rw [hpl, HN.out]; exact HCN.out) (fun i hi => by
              obtain ⟨j, hj, rfl⟩ := List.mem_map.1 hi
              by_cases hji : j = id
              · subst hji
                exact .inr (by rw [hrd])
              · obtain ⟨c', h1, h2⟩ := HHO.out.page j hj
                exact .inl (by rw [read_laid (b := c') (by rw [List.getElem?_set_ne (fun h => hji h.symm)]; exact h2) h1])) ⟨_, hmemI, by rw [hrd]⟩
            rw [hrd] at HRE
            simp only [hgt] at HGE
            clear e1 e2 e3 e4 e5 e6 hrd hgt hRI hIb hg4O hmemI hO'w hx3O hpl
            go_wp2_with fail
            refine HRE.out.mono ?_
            rintro e w5 ⟨v5, rfl, hov5, hx5, -⟩
            obtain ⟨a5, cap5, rfl, -, -⟩ := hov5.shape
            have HX5 := Lib.hid hx5
            simp only [List.length_nil]
            clear hov5 hx5
            go_wp2_with fail
            refine (HGE.out w5 HX5.out).mono ?_
            rintro e w6 ⟨v6, rfl, hov6, hst6⟩
            obtain ⟨a6, cap6, rfl, -, -⟩ := hov6.shape
            obtain ⟨O6, -, q2, -, -⟩ := hst6
            have HB6 := Lib.hid (show Below w.heap.size w w6 from (HI.out.below.trans (HX5.out.mono HI.out.below.size)).trans (q2.below (by have := HI.out.below.size; have := HX5.out.size; omega) HOWW.out))
            simp only [List.length_nil]
            clear hov6 q2
            go_wp2_with fail
            go_ret
            exact ⟨rfl, HB6.out⟩
          | false =>
            have hs' : s1.set id (some pg) = s1 := by rw [e4 rfl]; exact set_same HSC.out
            rw [hs'] at HRE
            simp only [hs', HHO.out.got] at HGE
            rw [read_laid HSC.out HC56.out] at HRE
            clear e1 e2 e3 e4 e5 e6 hs' hRI hIb hg4O hmemI hO'w hx3O hpl
            go_wp2_with fail
            refine HRE.out.mono ?_
            rintro e w5 ⟨v5, rfl, hov5, hx5, -⟩
            have HX5 := Lib.hid hx5
            clear hov5 hx5
            go_wp2_with fail
            refine (HGE.out w5 HX5.out).mono ?_
            rintro e w6 ⟨v6, rfl, hov6, hst6⟩
            obtain ⟨O6, -, q2, -, -⟩ := hst6
            have HB6 := Lib.hid (show Below w.heap.size w w6 from (HI.out.below.trans (HX5.out.mono HI.out.below.size)).trans (q2.below (by have := HI.out.below.size; have := HX5.out.size; omega) HOWW.out))
            have hcv6 := hov6.rd.string (P := Try.prog) 33 9 5 Try.underlying33 Try.underlying5 Try.underlying9
            have hcx6 := Rd.string (P := Try.prog) (RdV.of_owns (own_onlyS (owns_later HXR.out HX5.out) q2 HX3O.out) : Rd w6 (.slice a3 X.length cap3) X) 33 9 5 Try.underlying33 Try.underlying5 Try.underlying9
            clear hov6 q2
            go_wp2_with fail
            go_ret
            exact ⟨by simp, HB6.out⟩

    · have hd : decide (499 < (L : Int)) = false := decide_eq_false (by omega)
      have hmn : min L 499 = L := by omega
      have hsl : ∀ W, (Instr.slice 33 (.slice va L vc) none (some (.int .i64 (L : Int))) none).run Try.prog W = .ok (.slice va L vc) W := fun W => HSL.out L W (by omega)
      have HKL := Lib.hid (show L ≤ l.length ∧ L ≤ 499 from by have := HL.out; omega)
      have HXK := Lib.hid (show X = (1 : UInt8) :: l.take L from by rw [HX.out, ← HL.out, hmn])
      have HTK := Lib.hid (show ((l.take L).map bv).length = L from by rw [List.length_map, List.length_take]; have := HKL.out; omega)
      clear hmn
      go_wp2_with (at_builtin; go_must (refine wpList_append_rd rfl (.tmp 35) (.tmp 40) 33 rfl w2.heap.size 5 i0 (.int .u8 0) 1 Try.underlying33 hi hz0 hz1 hz2 rfl _ _ _ rfl HOW.out _ _ rfl (HRD.out L _ HKL.out.1 (Ext.trans HX2.out HB2.out)) (bv_oneCell _) (by rw [HTK.out]; unfold maxLen; have := HKL.out; omega) (by rw [HTK.out]; have := HKL.out; omega) (by simp) ?_); intro v3 w3 hown3 hgrow3; have HX3 := Lib.hid (show Ext w2 w3 from Below.grown (show Below w2.heap.size w2 (w2.alloc (.cells #[.int .u8 1] 5)) from HB2.out) hgrow3 (by simp) (fun k hk => by cases hk; exact Nat.le_refl _)); have HO3 := Lib.hid (show w3.ownsRow w2.heap.size 5 1 v3 X.length (X.map bv) from by have h1 := hown3; rw [HXK.out]; rw [List.length_map] at h1; rw [List.length_cons, List.map_cons, Nat.add_comm]; exact h1); clear hown3 hgrow3)
      obtain ⟨a3, cap3, rfl, hc31, hc32⟩ := own_shape HO3.out
      unfold maxLen at hc32
      have HRX := Lib.hid (show Rd w3 (.slice a3 X.length cap3) X from RdV.of_owns HO3.out)
      have HV3 := Lib.hid (show ∀ k, (Value.slice a3 X.length cap3).ownBlock = some k → ¬ O2 k from fun k hk h => by have := (HO3.out.lt k hk).1; have := HP2.out.lt k h; omega)
      refine (pPut_any (O := O2) (w := w3) _ X (HP2.out.mono HX3.out) HOK0.out HRX.out (fun _ => HV3.out) (by omega)).mono ?_
      rintro e w4 ⟨v4, rfl, hown4, O4, hp4, ho4, hn4, hv4⟩
      rw [HPUT.out] at hown4 hp4 ⊢
      simp only at hown4 hp4 ⊢
      rw [← HN.out] at hown4
      obtain ⟨g4, cap4, rfl, hg41, hg42, hc41, hc42⟩ := owns_shape hown4 (by omega)
      unfold maxLen at hc42
      have HIW := Lib.hid hown4
      have HP4 := Lib.hid hp4
      have HX4 := Lib.hid (own_onlyS HO3.out ho4 HV3.out)
      have HV4 := Lib.hid hv4
      have HV3b := Lib.hid (show ∀ k, (Value.slice a3 X.length cap3).ownBlock = some k → ¬ O4 k from fun k hk h => by
        rcases hn4 k h with h | h
        · exact HV3.out k hk h
        · have := (HO3.out.lt k hk).2; omega)
      have HOW4 := Lib.hid (show ∀ x, O4 x → w.heap.size ≤ x from fun x hx => by
        have s1 := HX1.out.size
        have s2 := HX2.out.size
        have s3 := HX3.out.size
        rcases hn4 x hx with h | h
        · exact Nat.le_trans s1 (HO2.out x h)
        · omega)
      have HB4 := Lib.hid (show Below w.heap.size w w4 from Below.trans (Ext.trans HX2.out HX3.out) (ho4.below (by have := HX2.out.size; have := HX3.out.size; omega) (fun b hb => Nat.le_trans HX1.out.size (HO2.out b hb))))
      clear hown4 hp4 ho4 hn4 hv4
      obtain ⟨r, hr, hrn⟩ : ∃ r : Nat, (R : Int) % (n : Int) = r ∧ r < n := ⟨R % n, by rw [Int.natCast_emod], Nat.mod_lt _ (by omega)⟩
      have hn0 : ((n : Int) == 0) = false := by rw [beq_eq_false_iff_ne]; omega
      have hrI : r < I.length := by have := HN.out; omega
      have hcell := HIW.out.cellAt r (by omega)
      rw [List.getElem?_map, List.getElem?_eq_getElem hrI, Option.map_some] at hcell
      unfold iv at hcell
      have hmem := List.getElem_mem hrI
      obtain ⟨c, hc56, hsc⟩ := HHO.out.page I[r] hmem
      generalize I[r] = id at hcell hmem hsc
      have HSC := Lib.hid hsc
      have HC56 := Lib.hid hc56
      have HMEM := Lib.hid hmem
      have hid60 : id < s1.length := (List.getElem?_eq_some_iff.1 hsc).1
      have hs1l := HOK1.out.1
      have hid : id ≤ 4096 := by omega
      have HIDL := Lib.hid hid60
      obtain ⟨A, hA⟩ : ∃ A : Nat, (AT : Int) % 512 = A := ⟨AT % 512, by omega⟩
      have hA512 : A < 512 := by omega
      have HI0 := Lib.hid (show BInv w w4 w4 p O4 s1 id A W 0 c false from ⟨⟨O4, layP id c, by rw [set_same hsc]; exact HP4.out, by rw [set_same hsc]; exact HOK1.out, layP_length id c hc56, fun _ => rfl, fun j _ => by rw [decide_eq_false (by omega)]; simp, fun b hb => .inl hb⟩, by simp, OnlyS.refl _ _, HB4.out⟩)
      clear hrI hmem hsc hc56 hid60 hs1l
      go_wp2_with fail
      try rw [hA]
      try rw [hr]
      clear hA hr
      go_loopw [17, 66] (fun t i wr => ∃ (k : Nat) (tb : Bool), k ≤ 32 ∧ i = .int .i64 k ∧ t = .bool tb ∧ BInv w w4 wr p O4 s1 id A W k c tb) (fun _ i _ => 32 - (intOf i).toNat)
      case atStart => exact ⟨0, false, by omega, rfl, rfl, HI0.out⟩
      case round =>
        obtain ⟨k, tb, hk, rfl, rfl, hinv⟩ := hrel
        have HI := Lib.hid hinv
        clear hinv
        by_cases hlt : k < 32
        · have HAO := Lib.hid (and_one' W k hW)
          have HTE := Lib.hid (Nat.testBit_eq_decide_div_mod_eq (x := W) (i := k))
          by_cases hbt : W / 2 ^ k % 2 = 1
          · have hb1 : (bits BinOp.and IntKind.u32 ((W : Int) / 2 ^ k) 1 == 1) = true := by rw [HAO.out, hbt]; rfl
            have HBT := Lib.hid (show W.testBit k = true by rw [HTE.out, hbt]; rfl)
            clear hbt
            by_cases hin : A + k < 512
            · have hin2 : decide ((A : Int) + k < 512) = true := decide_eq_true (by omega)
              obtain ⟨O', pg, e1, e2, e3, e4, e5, e6⟩ := HI.out.ex
              obtain ⟨M, hM⟩ : ∃ M, M = A + k := ⟨_, rfl⟩
              have hM512 : M < 512 := by omega
              have hm8 : M % 8 < 8 := Nat.mod_lt _ (by decide)
              have hidl := HIDL.out
              have HFL := Lib.hid (pFlip_any (w := wr) (id : Int) ((M / 8 : Nat) : Int) (UInt8.ofNat (2 ^ (7 - M % 8))) e1 e2 (by omega) (by omega))
              have hok2 := flipS_ok e2 (id : Int) ((M / 8 : Nat) : Int) (UInt8.ofNat (2 ^ (7 - M % 8)))
              rw [flip_set hidl (by omega)] at hok2
              rw [flip_set hidl (by omega)] at HFL
              obtain ⟨c0, hc0⟩ : ∃ c0, pg[M / 8]? = some c0 := ⟨_, List.getElem?_eq_getElem (by omega)⟩
              have hT : turnB pg (M / 8) (UInt8.ofNat (2 ^ (7 - M % 8))) = pg.set (M / 8) (c0 ^^^ UInt8.ofNat (2 ^ (7 - M % 8))) := by
                unfold turnB
                rw [List.getD_eq_getElem?_getD, hc0]
                rfl
              rw [hT] at hok2 HFL
              have HNB := Lib.hid (fun j => turn_bit pg M c0 hc0 j)
              have HPL := Lib.hid (show (pg.set (M / 8) (c0 ^^^ UInt8.ofNat (2 ^ (7 - M % 8)))).length = 64 from by rw [List.length_set]; exact e3)
              generalize pg.set (M / 8) (c0 ^^^ UInt8.ofNat (2 ^ (7 - M % 8))) = pg2 at hok2 HFL HNB HPL
              have HOK2 := Lib.hid hok2
              have HE5 := Lib.hid e5
              have HE6 := Lib.hid e6
              have hmask : ((128 : Int) / 2 ^ ((A + k) % 8)) = (((UInt8.ofNat (2 ^ (7 - M % 8))).toNat : Nat) : Int) := by
                rw [← hM]
                have e : ∀ i : Nat, i < 8 → ((128 : Int) / 2 ^ i) = ((2 ^ (7 - i) : Nat) : Int) := fun i h => by
                  match i, h with
                  | 0, _ | 1, _ | 2, _ | 3, _ | 4, _ | 5, _ | 6, _ | 7, _ => rfl
                have h2 : 2 ^ (7 - M % 8) < 256 := Nat.pow_lt_pow_right (n := 8) (by decide) (by omega)
                rw [e _ hm8, UInt8.toNat_ofNat_of_lt' h2]
              have HMK := Lib.hid hmask
              have HM := Lib.hid hM
              have hdiv : (((A : Int) + k) / 8) = ((M / 8 : Nat) : Int) := by omega
              have HDV := Lib.hid hdiv
              clear e1 e2 e3 e4 e5 e6 hok2 hT hc0 hmask hdiv hM
              go_wp2_with fail
              rw [HMK.out, HDV.out]
              refine HFL.out.mono ?_
              rintro e w5 ⟨rfl, hst⟩
              obtain ⟨O'', q1, q2, q3, -, q5, -⟩ := pchain HI.out.only HE6.out hst
              have HQ1 := Lib.hid q1
              have HQ2 := Lib.hid q2
              have HQ3 := Lib.hid q3
              have HQB := Lib.hid (show Below w.heap.size w w5 from HI.out.below.trans (q5.below HI.out.below.size (fun b hb => by
                rcases HE6.out b hb with h | h
                · exact HOW4.out b h
                · exact Nat.le_trans HB4.out.size h)))
              clear hst q1 q2 q3 q5
              go_wp2_with fail
              go_roundw
              case rel =>
                have hm := HM.out
                refine ⟨k + 1, true, by omega, by go_num, rfl, ⟨O'', pg2, HQ1.out, HOK2.out, HPL.out, (by simp), fun j hj => ?_, HQ3.out⟩, ⟨fun _ => ⟨k, by omega, by omega, HBT.out⟩, fun _ => rfl⟩, HQ2.out, HQB.out⟩
                rw [HNB.out j, HE5.out j hj, turn_next' A k j W HBT.out, hm, Option.map_map]
                congr 1
                funext b
                simp
              case measure => simp [intOf]; omega
            · have hin2 : decide ((A : Int) + k < 512) = false := decide_eq_false (by omega)
              go_wp2_with fail
              go_roundw
              case rel =>
                obtain ⟨O', pg, e1, e2, e3, e4, e5, e6⟩ := HI.out.ex
                refine ⟨k + 1, tb, by omega, by go_num, rfl, ⟨O', pg, e1, e2, e3, e4, fun j hj => by rw [e5 j hj, turn_stay' A k j W (.inl (by omega))], e6⟩, ?_, HI.out.only, HI.out.below⟩
                rw [HI.out.told]
                exact ⟨fun ⟨i, h1, h2, h3⟩ => ⟨i, by omega, h2, h3⟩, fun ⟨i, h1, h2, h3⟩ => ⟨i, by omega, h2, h3⟩⟩
              case measure => simp [intOf]; omega
          · have hb1 : (bits BinOp.and IntKind.u32 ((W : Int) / 2 ^ k) 1 == 1) = false := by rw [HAO.out, beq_eq_false_iff_ne]; omega
            have HBT := Lib.hid (show W.testBit k = false by rw [HTE.out]; exact decide_eq_false hbt)
            clear hbt
            go_wp2_with fail
            go_roundw
            case rel =>
              obtain ⟨O', pg, e1, e2, e3, e4, e5, e6⟩ := HI.out.ex
              refine ⟨k + 1, tb, by omega, by go_num, rfl, ⟨O', pg, e1, e2, e3, e4, fun j hj => by rw [e5 j hj, turn_stay' A k j W (.inr HBT.out)], e6⟩, ?_, HI.out.only, HI.out.below⟩
              rw [HI.out.told]
              refine ⟨fun ⟨i, h1, h2, h3⟩ => ⟨i, by omega, h2, h3⟩, fun ⟨i, h1, h2, h3⟩ => ⟨i, ?_, h2, h3⟩⟩
              have : i ≠ k := fun e => by rw [e, HBT.out] at h3; cases h3
              omega
            case measure => simp [intOf]; omega
        · have hk32 : k = 32 := by omega
          subst hk32
          obtain ⟨O', pg, e1, e2, e3, e4, e5, e6⟩ := HI.out.ex
          have hRI : ∀ W, (∀ b, b < w4.heap.size → ¬ O4 b → W.heap[b]? = w4.heap[b]?) → RdV W (.slice (some ⟨g4, 0, none⟩) n cap4) ((I.map fun (i : Nat) => (i : Int)).map (Value.int .i64)) := fun W hW' => by
            have h := RdV.of_owns HIW.out
            rcases h with ⟨h1, _⟩ | ⟨x, cap', h1, h3, h4, h5⟩
            · cases h1
            · simp only [Value.slice.injEq] at h1
              obtain ⟨h1a, h1b, rfl⟩ := h1
              cases h1a
              refine .inr ⟨⟨g4, 0, none⟩, cap4, ?_, by simpa [iv] using h3, h4, fun i u hu => ?_⟩
              · rw [h1b]; simp
              · have hu2 : (I.map iv)[i]? = some u := by simpa [iv, Function.comp_def] using hu
                have := h5 i u hu2
                rw [add_at] at this ⊢
                rw [cell_of_same (hW' g4 hg42 (HV4.out g4 rfl))]
                exact this
          have hIb : ∀ i ∈ I.map (fun (i : Nat) => (i : Int)), -9223372036854775808 ≤ i ∧ i ≤ 9223372036854775807 := fun i hi => by
            obtain ⟨j, hj, rfl⟩ := List.mem_map.1 hi
            obtain ⟨c', _, h2⟩ := HHO.out.page j hj
            have := (List.getElem?_eq_some_iff.1 h2).1
            have := HOK1.out.1
            omega
          have hg4O : ¬ O' g4 := fun h => by
            rcases e6 g4 h with h | h
            · exact HV4.out g4 rfl h
            · omega
          have hmemI : (id : Int) ∈ I.map (fun (i : Nat) => (i : Int)) := List.mem_map.2 ⟨id, HMEM.out, rfl⟩
          have hO'w : ∀ b, O' b → w.heap.size ≤ b := fun b hb => by
            rcases e6 b hb with h | h
            · exact HOW4.out b h
            · exact Nat.le_trans HB4.out.size h
          have hx3O : ∀ k, (Value.slice a3 X.length cap3).ownBlock = some k → ¬ O' k := fun k hk h => by
            rcases e6 k h with h | h
            · exact HV3b.out k hk h
            · have := (HX4.out.lt k hk).2; omega
          have hpl : (I.map fun (i : Nat) => (i : Int)).length = n := by rw [List.length_map, HN.out]
          have HRI := Lib.hid hRI
          have HIB := Lib.hid hIb
          have HG4 := Lib.hid hg4O
          have HOWW := Lib.hid hO'w
          have HX3O := Lib.hid hx3O
          have HRE := Lib.hid (pRead_core (w := wr) (id : Int) e1 e2 (by omega))
          have HGE := Lib.hid (fun w5 (hx5 : Ext wr w5) => pGet_any (w := w5) (.slice (some ⟨g4, 0, none⟩) n cap4) (I.map fun (i : Nat) => (i : Int)) (X.length : Int) (e1.mono hx5) e2 (hRI w5 (fun b hb hO => (hx5.block b (Nat.lt_of_lt_of_le hb HI.out.only.size)).trans (HI.out.only.block b hb hO))) (fun _ k hk => by cases hk; exact hg4O) (by rw [hpl]; omega) hIb (by omega))
          have HXR := Lib.hid (own_onlyS HX4.out HI.out.only HV3b.out)
          cases tb with
          | true =>
            have hrd : readS (s1.set id (some pg)) (id : Int) = ([], 6) := read_turned (List.getElem?_set_self HIDL.out) HC56.out e3 (by omega) e5 (HI.out.told.1 rfl)
            have hgt : getS (s1.set id (some pg)) (I.map fun (i : Nat) => (i : Int)) (X.length : Int) = ([], 6) := get_bad (by rw [hpl, HN.out]; exact HCN.out) (fun i hi => by
              obtain ⟨j, hj, rfl⟩ := List.mem_map.1 hi
              by_cases hji : j = id
              · subst hji
                exact .inr (by rw [hrd])
              · obtain ⟨c', h1, h2⟩ := HHO.out.page j hj
                exact .inl (by rw [read_laid (b := c') (by rw [List.getElem?_set_ne (fun h => hji h.symm)]; exact h2) h1])) ⟨_, hmemI, by rw [hrd]⟩
            rw [hrd] at HRE
            simp only [hgt] at HGE
            clear e1 e2 e3 e4 e5 e6 hrd hgt hRI hIb hg4O hmemI hO'w hx3O hpl
            go_wp2_with fail
            refine HRE.out.mono ?_
            rintro e w5 ⟨v5, rfl, hov5, hx5, -⟩
            obtain ⟨a5, cap5, rfl, -, -⟩ := hov5.shape
            have HX5 := Lib.hid hx5
            simp only [List.length_nil]
            clear hov5 hx5
            go_wp2_with fail
            refine (HGE.out w5 HX5.out).mono ?_
            rintro e w6 ⟨v6, rfl, hov6, hst6⟩
            obtain ⟨a6, cap6, rfl, -, -⟩ := hov6.shape
            obtain ⟨O6, -, q2, -, -⟩ := hst6
            have HB6 := Lib.hid (show Below w.heap.size w w6 from (HI.out.below.trans (HX5.out.mono HI.out.below.size)).trans (q2.below (by have := HI.out.below.size; have := HX5.out.size; omega) HOWW.out))
            simp only [List.length_nil]
            clear hov6 q2
            go_wp2_with fail
            go_ret
            exact ⟨rfl, HB6.out⟩
          | false =>
            have hs' : s1.set id (some pg) = s1 := by rw [e4 rfl]; exact set_same HSC.out
            rw [hs'] at HRE
            simp only [hs', HHO.out.got] at HGE
            rw [read_laid HSC.out HC56.out] at HRE
            clear e1 e2 e3 e4 e5 e6 hs' hRI hIb hg4O hmemI hO'w hx3O hpl
            go_wp2_with fail
            refine HRE.out.mono ?_
            rintro e w5 ⟨v5, rfl, hov5, hx5, -⟩
            have HX5 := Lib.hid hx5
            clear hov5 hx5
            go_wp2_with fail
            refine (HGE.out w5 HX5.out).mono ?_
            rintro e w6 ⟨v6, rfl, hov6, hst6⟩
            obtain ⟨O6, -, q2, -, -⟩ := hst6
            have HB6 := Lib.hid (show Below w.heap.size w w6 from (HI.out.below.trans (HX5.out.mono HI.out.below.size)).trans (q2.below (by have := HI.out.below.size; have := HX5.out.size; omega) HOWW.out))
            have hcv6 := hov6.rd.string (P := Try.prog) 33 9 5 Try.underlying33 Try.underlying5 Try.underlying9
            have hcx6 := Rd.string (P := Try.prog) (RdV.of_owns (own_onlyS (owns_later HXR.out HX5.out) q2 HX3O.out) : Rd w6 (.slice a3 X.length cap3) X) 33 9 5 Try.underlying33 Try.underlying5 Try.underlying9
            clear hov6 q2
            go_wp2_with fail
            go_ret
            exact ⟨by simp, HB6.out⟩

  · exact absurd (by decide) hbad

end Go.Proofs.Ythelgjoobckbaaa
