/-
  The walk of the law ZoneBack.
-/
import Derived.Test.YtlbilmmjcfiokaaZoneEx
import Derived.Test.YtlbilmmjcfiokaaZoneP6
namespace Go.Proofs.Ytlbilmmjcfiokaa
open Go.RowKit Go.BigFrame

theorem owns_extB {base n size : Nat} {e : TypeId} {w w' : World} {u : Value} {xs : List Value} (h : w.ownsRow base e size u n xs) (hx : Ext w w') : w'.ownsRow base e size u n xs :=
  h.kept (row := none) ⟨hx.os, hx.tape, hx.output, hx.size, fun k hk _ => hx.block k hk⟩ (by cases u.ownBlock <;> simp)
def keepB (k : Int) (l : List V) : List V := l.filter fun v => rightV v && (decide (v.k = 0) || decide (v.k = k))
theorem keepB_snoc (k : Int) (l : List V) (v : V) : keepB k (l ++ [v]) = keepB k l ++ (if (rightV v && (decide (v.k = 0) || decide (v.k = k))) = true then [v] else []) := by
  unfold keepB
  rw [List.filter_append, List.filter_cons]
  rfl
theorem keepB_mem {k : Int} {l : List V} {v : V} (h : v ∈ keepB k l) : v ∈ l ∧ rightV v = true ∧ (v.k = 0 ∨ v.k = k) := by
  obtain ⟨h1, h2⟩ := List.mem_filter.1 h
  simp only [Bool.and_eq_true, Bool.or_eq_true, decide_eq_true_eq] at h2
  exact ⟨h1, h2.1, h2.2⟩

set_option maxRecDepth 100000 in
set_option maxHeartbeats 8000000 in
theorem zoneBack_walk (k : Int) (u : Value) (l : List V) (w : World) (hk : 0 ≤ k ∧ k ≤ 255) (hu : RdVals w u l) (hf0 : ∀ v ∈ l, v.fits ∧ v.s.length ≤ maxLen) :
    Calls Try.prog 8 #[.int .u8 k, u] w fun e w' => e = .returned (.bool true) ∧ Below w.heap.size w w' := by
  have hf : ∀ v ∈ l, v.fits := fun v hv => (hf0 v hv).1
  have HU := Lib.hid hu
  have g1 : ∀ y ∈ fewZ l, y.fits ∧ y.s.length ≤ 1100 := fun y hy => ⟨hf y (fewZ_mem hy).1, (fewZ_mem hy).2⟩
  have n1 := fewZ_len l
  have HF1 := Lib.hid (fun W (h : RdVals W u l) => few13_any u l W h)
  generalize fewZ l = x at g1 n1 HF1
  have HG1 := Lib.hid g1
  have g2 : ∀ v ∈ keepB k x, v.fits ∧ v.s.length ≤ 5000 := fun v hv => ⟨(g1 v (keepB_mem hv).1).1, Nat.le_trans (g1 v (keepB_mem hv).1).2 (by decide)⟩
  have HKL := Lib.hid (show (keepB k x).length ≤ 300 from Nat.le_trans (List.length_filter_le _ _) n1)
  have HO := Lib.hid (fun v W (h : RdVals W v (keepB k x)) => pOfZ_any v (keepB k x) W h g2)
  have p1 : (ofZ (keepB k x)).fits ∧ (ofZ (keepB k x)).small 5000 := ⟨ofZ_fits fun v hv => (g2 v hv).1, ofZ_small fun v hv => (g2 v hv).2⟩
  have HR := Lib.hid (fun W => pRightZ_any k (ofZ (keepB k x)) W hk p1.1 p1.2)
  have HPT := Lib.hid (fun W => pPutZ_any (ofZ (keepB k x)) W p1.1 p1.2)
  have HTK := Lib.hid (fun v W (h : Rd W v (putZ (ofZ (keepB k x)))) => pTakeZ_any k v (putZ (ofZ (keepB k x))) W hk h (Nat.le_trans (putZ_len _) (by decide)))
  have HYES := Lib.hid (show 1 ≤ k ∧ k ≤ 3 → decide (rightZ k (ofZ (keepB k x))) = true ∧ takenZ k (putZ (ofZ (keepB k x))) = (ofZ (keepB k x), 0) from fun h => by
    have hr := rightZ_of (k := k) (l := keepB k x) h (by have := HKL.out; omega) (fun v hv => (keepB_mem hv).2)
    exact ⟨decide_eq_true hr, (if_neg (fun hn => hn h)).trans (takeZ_yes ⟨p1.1, hr, rfl⟩)⟩)
  have HNO := Lib.hid (show ¬ (1 ≤ k ∧ k ≤ 3) → decide (rightZ k (ofZ (keepB k x))) = false ∧ takenZ k (putZ (ofZ (keepB k x))) = (Zo.zero, 1) from fun h => ⟨decide_eq_false (fun hr => h hr.1), if_pos h⟩)
  generalize takenZ k (putZ (ofZ (keepB k x))) = T at HTK HYES HNO
  generalize putZ (ofZ (keepB k x)) = bs at HPT HTK
  generalize hrr : decide (rightZ k (ofZ (keepB k x))) = rr at HR HYES HNO
  generalize ofZ (keepB k x) = z at HO HR HPT HYES
  obtain ⟨⟨⟨yak, yan, yas⟩, ⟨ybk, ybn, ybs⟩, yn, ym⟩, E⟩ := T
  obtain ⟨⟨zak, zan, zas⟩, ⟨zbk, zbn, zbs⟩, zn, zm⟩ := z
  unfold Zo.val at HO HR HPT HTK
  simp only at HO HR HPT HTK
  have HQZ := Lib.hid (show ∀ W, (binOp .eql 26 (.agg #[.int .u8 zak, .int .i64 zan, .string ⟨zas.toArray⟩, .int .u8 zbk, .int .i64 zbn, .string ⟨zbs.toArray⟩, .int .i64 zn, .int .i64 zm]) (.agg #[.int .u8 zak, .int .i64 zan, .string ⟨zas.toArray⟩, .int .u8 zbk, .int .i64 zbn, .string ⟨zbs.toArray⟩, .int .i64 zn, .int .i64 zm])).run Try.prog W = .ok (.bool true) W from fun W => eq_zone_self ⟨⟨zak, zan, zas⟩, ⟨zbk, zbn, zbs⟩, zn, zm⟩ W)
  obtain ⟨N, hN⟩ : ∃ N, x.length = N := ⟨_, rfl⟩
  have HN := Lib.hid hN
  rw [hN] at n1
  clear hu hf hf0 g1 g2 p1 hN hrr hk
  go_enter Try.func8, Try.ntmps8
  go_wp2_with fail
  refine (shown13_any _).mono ?_
  rintro e w1 ⟨rfl, hx⟩
  have HX1 := Lib.hid hx
  clear hx
  go_wp2_with fail
  refine (HF1.out _ (HU.out.mono HX1.out)).mono ?_
  rintro e w' ⟨⟨v1, rfl, hv1, -⟩, rfl⟩
  obtain ⟨a1, c1, rfl, -, -⟩ := hv1.shape
  obtain ⟨-, hc1, hc2, hat⟩ := hv1.plain
  have HAT := Lib.hid hat
  unfold maxLen at hc2
  rw [HN.out] at hc1 ⊢
  clear hv1 hat
  go_wp2_with fail
  go_loopw [6, 16] (fun xv i wr => ∃ j : Nat, j ≤ N ∧ i = .int .i64 j ∧ wr.ownsRow w1.heap.size 24 3 xv (keepB k (x.take j)).length ((keepB k (x.take j)).flatMap V.cells) ∧ Ext w1 wr) (fun _ i _ => N - (intOf i).toNat)
  case atStart => exact ⟨0, Nat.zero_le _, rfl, owns_nil _ _ _ _, Ext.keeps.refl _⟩
  case round =>
    obtain ⟨j, hj, rfl, hown, hx⟩ := hrel
    have HOW := Lib.hid hown
    have HX := Lib.hid hx
    clear hown hx
    by_cases hlt : j < N
    · have hjl : j < x.length := by have := HN.out; omega
      obtain ⟨g, off, rfl, d0, d1, d2⟩ := HAT.out j hjl
      have x0 := (HX.out.cell (lt_of_cell d0)).trans d0
      have x1 := (HX.out.cell (lt_of_cell d1)).trans d1
      have x2 := (HX.out.cell (lt_of_cell d2)).trans d2
      have HT := Lib.hid (show keepB k (x.take (j + 1)) = _ by rw [List.take_succ_eq_append_getElem hjl, keepB_snoc])
      have HV := Lib.hid (HG1.out _ (List.getElem_mem hjl))
      have HKJ := Lib.hid (show (keepB k (x.take j)).length ≤ 300 from by have h1 := List.length_filter_le (fun v : V => rightV v && (decide (v.k = 0) || decide (v.k = k))) (x.take j); rw [List.length_take] at h1; unfold keepB; omega)
      generalize x[j] = v at x0 x1 x2 HT HV
      generalize keepB k (x.take j) = ps at HOW HT HKJ
      have HRV := Lib.hid (fun W => Right_any v HV.out.1 (Nat.le_trans HV.out.2 (by decide)) W)
      generalize hrv : rightV v = rv at HRV HT
      obtain ⟨vk, vn, vs'⟩ := v
      unfold V.val at HRV
      simp only at x0 x1 x2 HRV HT
      clear d0 d1 d2 hrv
      have HBV := Lib.hid (Blk.new wr [.int .u8 vk, .int .i64 vn, .string ⟨vs'.toArray⟩] 24)
      have HXV := Lib.hid (ext_new wr (.cells #[.int .u8 vk, .int .i64 vn, .string ⟨vs'.toArray⟩] 24))
      have HSZ := Lib.hid (show w1.heap.size ≤ wr.heap.size from HX.out.size)
      go_wp2_with fail
      refine (HRV.out _).mono ?_
      rintro e w2 ⟨rfl, hx⟩
      have HX2 := Lib.hid (Ext.trans HX.out (Ext.trans HXV.out hx))
      have HOW2 := Lib.hid (owns_extB (owns_extB HOW.out HXV.out) hx)
      have HBV2 := Lib.hid (HBV.out.ext hx)
      have HSZ2 := Lib.hid (show w1.heap.size ≤ w2.heap.size from HX2.out.size)
      clear hx
      have v0 : w2.cell? ⟨wr.heap.size, 0, none⟩ = some (.int .u8 vk) := HBV2.out.cell 0 _ rfl
      have v1 : w2.cell? ⟨wr.heap.size, 1, none⟩ = some (.int .i64 vn) := HBV2.out.cell 1 _ rfl
      have v2 : w2.cell? ⟨wr.heap.size, 2, none⟩ = some (.string ⟨vs'.toArray⟩) := HBV2.out.cell 2 _ rfl
      cases rv with
      | false =>
        go_wp2_with fail
        go_roundw
        case rel => exact ⟨j + 1, by omega, by go_num, by rw [HT.out]; simpa using HOW2.out, HX2.out⟩
        case measure => simp [intOf]; omega
      | true =>
        by_cases hv0 : vk = 0
        · subst hv0
          have HT2 := Lib.hid (show keepB k (x.take (j + 1)) = ps ++ [⟨0, vn, vs'⟩] by rw [HT.out]; simp)
          go_wp2_with (at_builtin; go_must (refine wpList_append_val rfl (.tmp 33) (.tmp 35) rfl w1.heap.size _ ps ⟨0, vn, vs'⟩ rfl HOW2.out rfl (by have := HKJ.out; omega) HSZ2.out ?_); intro v3 w3 hown3 hb3 _; have HO3 := Lib.hid hown3; have HX3 := Lib.hid (show Ext w1 w3 from Below.trans HX2.out hb3); clear hown3 hb3)
          go_roundw
          case rel => exact ⟨j + 1, by omega, by go_num, by rw [HT2.out]; exact HO3.out, HX3.out⟩
          case measure => simp [intOf]; omega
        · have q0 : (vk == (0 : Int)) = false := beq_eq_false_iff_ne.2 hv0
          by_cases hvk : vk = k
          · subst hvk
            have HT2 := Lib.hid (show keepB vk (x.take (j + 1)) = ps ++ [⟨vk, vn, vs'⟩] by rw [HT.out]; simp)
            go_wp2_with (at_builtin; go_must (refine wpList_append_val rfl (.tmp 33) (.tmp 35) rfl w1.heap.size _ ps ⟨vk, vn, vs'⟩ rfl HOW2.out rfl (by have := HKJ.out; omega) HSZ2.out ?_); intro v3 w3 hown3 hb3 _; have HO3 := Lib.hid hown3; have HX3 := Lib.hid (show Ext w1 w3 from Below.trans HX2.out hb3); clear hown3 hb3)
            go_roundw
            case rel => exact ⟨j + 1, by omega, by go_num, by rw [HT2.out]; exact HO3.out, HX3.out⟩
            case measure => simp [intOf]; omega
          · have q1 : (vk == k) = false := beq_eq_false_iff_ne.2 hvk
            have HT2 := Lib.hid (show keepB k (x.take (j + 1)) = ps by rw [HT.out]; simp [hv0, hvk])
            clear hv0 hvk
            go_wp2_with fail
            go_roundw
            case rel => exact ⟨j + 1, by omega, by go_num, by rw [HT2.out]; exact HOW2.out, HX2.out⟩
            case measure => simp [intOf]; omega
    · have hjN : N = j := by omega
      have HE := Lib.hid (show x.take j = x by rw [← hjN, ← HN.out]; exact List.take_of_length_le (Nat.le_refl _))
      rw [HE.out] at HOW
      subst hjN
      have HRV := Lib.hid (RdVals.of_owns HOW.out)
      go_wp2_with fail
      refine (HO.out _ _ HRV.out).mono ?_
      rintro e w2 ⟨rfl, hx⟩
      have HX2 := Lib.hid (Ext.trans HX.out hx)
      clear hx
      go_wp2_with fail
      have HNZ := Lib.hid (ext_new w2 (.cells #[.int .u8 zak, .int .i64 zan, .string ⟨zas.toArray⟩, .int .u8 zbk, .int .i64 zbn, .string ⟨zbs.toArray⟩, .int .i64 zn, .int .i64 zm] 26))
      have HBZ := Lib.hid (Blk.new w2 [.int .u8 zak, .int .i64 zan, .string ⟨zas.toArray⟩, .int .u8 zbk, .int .i64 zbn, .string ⟨zbs.toArray⟩, .int .i64 zn, .int .i64 zm] 26)
      refine (HPT.out _).mono ?_
      rintro e w3 ⟨r3, rfl, ho3, hx⟩
      have HR3 := Lib.hid (RdV.of_owns ho3)
      have HX3 := Lib.hid (Ext.trans HX2.out (Ext.trans HNZ.out hx))
      have HBZ3 := Lib.hid (HBZ.out.ext hx)
      clear ho3 hx
      go_wp2_with fail
      refine (HTK.out _ _ HR3.out).mono ?_
      rintro e w4 ⟨rfl, hx⟩
      have HX4 := Lib.hid (Ext.trans HX3.out hx)
      have HBZ4 := Lib.hid (HBZ3.out.ext hx)
      clear hx
      have HNY := Lib.hid (ext_new w4 (.cells #[.int .u8 yak, .int .i64 yan, .string ⟨yas.toArray⟩, .int .u8 ybk, .int .i64 ybn, .string ⟨ybs.toArray⟩, .int .i64 yn, .int .i64 ym] 26))
      have HBY := Lib.hid (Blk.new w4 [.int .u8 yak, .int .i64 yan, .string ⟨yas.toArray⟩, .int .u8 ybk, .int .i64 ybn, .string ⟨ybs.toArray⟩, .int .i64 yn, .int .i64 ym] 26)
      have HBZ5 := Lib.hid (HBZ4.out.ext HNY.out)
      have HX5 := Lib.hid (Ext.trans HX4.out HNY.out)
      have z0 : (w4.alloc (.cells #[.int .u8 yak, .int .i64 yan, .string ⟨yas.toArray⟩, .int .u8 ybk, .int .i64 ybn, .string ⟨ybs.toArray⟩, .int .i64 yn, .int .i64 ym] 26)).cell? ⟨w2.heap.size, 0, none⟩ = some (.int .u8 zak) := HBZ5.out.cell 0 _ rfl
      have z1 : (w4.alloc (.cells #[.int .u8 yak, .int .i64 yan, .string ⟨yas.toArray⟩, .int .u8 ybk, .int .i64 ybn, .string ⟨ybs.toArray⟩, .int .i64 yn, .int .i64 ym] 26)).cell? ⟨w2.heap.size, 1, none⟩ = some (.int .i64 zan) := HBZ5.out.cell 1 _ rfl
      have z2 : (w4.alloc (.cells #[.int .u8 yak, .int .i64 yan, .string ⟨yas.toArray⟩, .int .u8 ybk, .int .i64 ybn, .string ⟨ybs.toArray⟩, .int .i64 yn, .int .i64 ym] 26)).cell? ⟨w2.heap.size, 2, none⟩ = some (.string ⟨zas.toArray⟩) := HBZ5.out.cell 2 _ rfl
      have z3 : (w4.alloc (.cells #[.int .u8 yak, .int .i64 yan, .string ⟨yas.toArray⟩, .int .u8 ybk, .int .i64 ybn, .string ⟨ybs.toArray⟩, .int .i64 yn, .int .i64 ym] 26)).cell? ⟨w2.heap.size, 3, none⟩ = some (.int .u8 zbk) := HBZ5.out.cell 3 _ rfl
      have z4 : (w4.alloc (.cells #[.int .u8 yak, .int .i64 yan, .string ⟨yas.toArray⟩, .int .u8 ybk, .int .i64 ybn, .string ⟨ybs.toArray⟩, .int .i64 yn, .int .i64 ym] 26)).cell? ⟨w2.heap.size, 4, none⟩ = some (.int .i64 zbn) := HBZ5.out.cell 4 _ rfl
      have z5 : (w4.alloc (.cells #[.int .u8 yak, .int .i64 yan, .string ⟨yas.toArray⟩, .int .u8 ybk, .int .i64 ybn, .string ⟨ybs.toArray⟩, .int .i64 yn, .int .i64 ym] 26)).cell? ⟨w2.heap.size, 5, none⟩ = some (.string ⟨zbs.toArray⟩) := HBZ5.out.cell 5 _ rfl
      have z6 : (w4.alloc (.cells #[.int .u8 yak, .int .i64 yan, .string ⟨yas.toArray⟩, .int .u8 ybk, .int .i64 ybn, .string ⟨ybs.toArray⟩, .int .i64 yn, .int .i64 ym] 26)).cell? ⟨w2.heap.size, 6, none⟩ = some (.int .i64 zn) := HBZ5.out.cell 6 _ rfl
      have z7 : (w4.alloc (.cells #[.int .u8 yak, .int .i64 yan, .string ⟨yas.toArray⟩, .int .u8 ybk, .int .i64 ybn, .string ⟨ybs.toArray⟩, .int .i64 yn, .int .i64 ym] 26)).cell? ⟨w2.heap.size, 7, none⟩ = some (.int .i64 zm) := HBZ5.out.cell 7 _ rfl
      by_cases h1 : k < 1
      · have d1 : decide (k < 1) = true := decide_eq_true h1
        obtain ⟨e1, e2⟩ := HNO.out (by omega)
        have HRR := Lib.hid e1
        simp only [Prod.mk.injEq] at e2
        obtain ⟨-, rfl⟩ := e2
        clear h1 e1
        go_wp2_with fail
        refine (HR.out _).mono ?_
        rintro e w6 ⟨rfl, hx⟩
        rw [HRR.out]
        have HX6 := Lib.hid (Ext.trans HX5.out hx)
        clear hx
        go_wp2_with fail
        go_ret
        exact ⟨rfl, Ext.trans HX1.out HX6.out⟩
      · have d1 : decide (k < 1) = false := decide_eq_false h1
        by_cases h3 : 3 < k
        · have d3 : decide (3 < k) = true := decide_eq_true h3
          obtain ⟨e1, e2⟩ := HNO.out (by omega)
          have HRR := Lib.hid e1
          simp only [Prod.mk.injEq] at e2
          obtain ⟨-, rfl⟩ := e2
          clear h1 h3 e1
          go_wp2_with fail
          refine (HR.out _).mono ?_
          rintro e w6 ⟨rfl, hx⟩
          rw [HRR.out]
          have HX6 := Lib.hid (Ext.trans HX5.out hx)
          clear hx
          go_wp2_with fail
          go_ret
          exact ⟨rfl, Ext.trans HX1.out HX6.out⟩
        · have d3 : decide (3 < k) = false := decide_eq_false h3
          obtain ⟨e1, e2⟩ := HYES.out (by omega)
          have HRR := Lib.hid e1
          simp only [Prod.mk.injEq, Zo.mk.injEq, V.mk.injEq] at e2
          obtain ⟨⟨⟨rfl, rfl, rfl⟩, ⟨rfl, rfl, rfl⟩, rfl, rfl⟩, rfl⟩ := e2
          clear h1 h3 e1
          go_wp2_with fail
          refine (HR.out _).mono ?_
          rintro e w6 ⟨rfl, hx⟩
          rw [HRR.out]
          have HX6 := Lib.hid (Ext.trans HX5.out hx)
          have HBZ6 := Lib.hid (HBZ5.out.ext hx)
          have HBY6 := Lib.hid (HBY.out.ext hx)
          clear hx
          have hqz := HQZ.out
          have a0 : w6.cell? ⟨w2.heap.size, 0, none⟩ = some (.int .u8 yak) := HBZ6.out.cell 0 _ rfl
          have a1 : w6.cell? ⟨w2.heap.size, 1, none⟩ = some (.int .i64 yan) := HBZ6.out.cell 1 _ rfl
          have a2 : w6.cell? ⟨w2.heap.size, 2, none⟩ = some (.string ⟨yas.toArray⟩) := HBZ6.out.cell 2 _ rfl
          have a3 : w6.cell? ⟨w2.heap.size, 3, none⟩ = some (.int .u8 ybk) := HBZ6.out.cell 3 _ rfl
          have a4 : w6.cell? ⟨w2.heap.size, 4, none⟩ = some (.int .i64 ybn) := HBZ6.out.cell 4 _ rfl
          have a5 : w6.cell? ⟨w2.heap.size, 5, none⟩ = some (.string ⟨ybs.toArray⟩) := HBZ6.out.cell 5 _ rfl
          have a6 : w6.cell? ⟨w2.heap.size, 6, none⟩ = some (.int .i64 yn) := HBZ6.out.cell 6 _ rfl
          have a7 : w6.cell? ⟨w2.heap.size, 7, none⟩ = some (.int .i64 ym) := HBZ6.out.cell 7 _ rfl
          have b0 : w6.cell? ⟨w4.heap.size, 0, none⟩ = some (.int .u8 yak) := HBY6.out.cell 0 _ rfl
          have b1 : w6.cell? ⟨w4.heap.size, 1, none⟩ = some (.int .i64 yan) := HBY6.out.cell 1 _ rfl
          have b2 : w6.cell? ⟨w4.heap.size, 2, none⟩ = some (.string ⟨yas.toArray⟩) := HBY6.out.cell 2 _ rfl
          have b3 : w6.cell? ⟨w4.heap.size, 3, none⟩ = some (.int .u8 ybk) := HBY6.out.cell 3 _ rfl
          have b4 : w6.cell? ⟨w4.heap.size, 4, none⟩ = some (.int .i64 ybn) := HBY6.out.cell 4 _ rfl
          have b5 : w6.cell? ⟨w4.heap.size, 5, none⟩ = some (.string ⟨ybs.toArray⟩) := HBY6.out.cell 5 _ rfl
          have b6 : w6.cell? ⟨w4.heap.size, 6, none⟩ = some (.int .i64 yn) := HBY6.out.cell 6 _ rfl
          have b7 : w6.cell? ⟨w4.heap.size, 7, none⟩ = some (.int .i64 ym) := HBY6.out.cell 7 _ rfl
          go_wp2_with fail
          go_ret
          exact ⟨rfl, Ext.trans HX1.out HX6.out⟩

end Go.Proofs.Ytlbilmmjcfiokaa
