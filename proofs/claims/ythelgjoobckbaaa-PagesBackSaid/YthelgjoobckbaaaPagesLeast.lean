/-
  The walk of the law PagesLeast.
-/
import Derived.Test.YthelgjoobckbaaaPagesPlays
namespace Go.Proofs.Ythelgjoobckbaaa
open Go.RowKit Go.BigFrame

def OnB (w : World) (b : Nat) (l : List Bool) : Prop := w.heap[b]? = some (.cells (l.map Value.bool).toArray 52 (0, 0))
theorem OnB.cell {w : World} {b : Nat} {l : List Bool} (h : OnB w b l) {i : Nat} {x : Bool} (hi : l[i]? = some x) : w.cell? ⟨b, i, none⟩ = some (.bool x) := by
  rw [cell_of_row _ _ _ _ _ _ h]
  simp [hi]
theorem OnB.free {w : World} {b : Nat} {l : List Bool} (h : OnB w b l) (i : Nat) : w.frozen? ⟨b, i, none⟩ = false := by
  unfold World.frozen?
  rw [h]
  simp
theorem OnB.set {w : World} {b : Nat} {l : List Bool} (h : OnB w b l) (i : Nat) (x : Bool) : OnB (w.setCell ⟨b, i, none⟩ (.bool x)) b (l.set i x) := by
  have := heap_setCell_same w b i _ 52 (.bool x) h
  unfold OnB
  rw [this]
  simp [List.map_set]

/-- What holds between the rounds. -/
structure LInv (w wr : World) (p b : Nat) (O : Nat → Prop) (s : St) : Prop where
  prog : PSto O wr p s
  ok : okS s
  len : s.length = 50
  own : ∀ x, O x → w.heap.size ≤ x
  nb : ¬ O b
  b0 : w.heap.size ≤ b
  on : OnB wr b (s.map Option.isSome)
  below : Below w.heap.size w wr

theorem OnB.lt {w : World} {b : Nat} {l : List Bool} (h : OnB w b l) : b < w.heap.size := (Array.getElem?_eq_some_iff.1 h).1
/-- A call of the program's. -/
theorem LInv.step {w wr w2 : World} {p b : Nat} {O : Nat → Prop} {s s' : St} {v : Value} (h : LInv w wr p b O s) (hs : PStep O wr p s' w2 v) (hok : okS s') :
    ∃ O', PSto O' w2 p s' ∧ okS s' ∧ (∀ x, O' x → w.heap.size ≤ x) ∧ ¬ O' b ∧ OnB w2 b (s.map Option.isSome) ∧ Below w.heap.size w w2 ∧ (∀ x, O' x → O x ∨ wr.heap.size ≤ x) ∧ (∀ k, v.ownBlock = some k → ¬ O' k) := by
  obtain ⟨O', k1, k2, k3, k4⟩ := hs
  have hbl := h.on.lt
  refine ⟨O', k1, hok, fun x hx => ?_, fun hx => ?_, ?_, h.below.trans (k2.below h.below.size h.own), k3, k4⟩
  · rcases k3 x hx with h1 | h1
    · exact h.own x h1
    · exact Nat.le_trans h.below.size h1
  · rcases k3 b hx with h1 | h1
    · exact h.nb h1
    · omega
  · have h1 := h.on
    unfold OnB at h1 ⊢
    rw [k2.block b hbl h.nb]
    exact h1
theorem LInv.ext {w wr w2 : World} {p b : Nat} {O : Nat → Prop} {s : St} (h : LInv w wr p b O s) (hx : Ext wr w2) : LInv w w2 p b O s :=
  ⟨h.prog.mono hx, h.ok, h.len, h.own, h.nb, h.b0, by have h1 := h.on; unfold OnB at h1 ⊢; rw [hx.block b h.on.lt]; exact h1, h.below.trans (hx.mono h.below.size)⟩
/-- The list of the caller's own is changed. -/
theorem LInv.put {wr : World} {p b : Nat} {O : Nat → Prop} {s : St} (h1 : PSto O wr p s) (h2 : ¬ O b) (v : Value) (i : Nat) : PSto O (wr.setCell ⟨b, i, none⟩ v) p s :=
  h1.keep (fun x hx => Below.heap_setCell _ _ _ _ (fun e => h2 (by rw [← show x = b from e]; exact hx))) (by simp [World.setCell])

theorem takeS_used : ∀ (n i : Nat) (s : St), n + usedS s ≤ s.length → usedS (takeS i n s).2 = usedS s + n
  | 0, i, s, _ => by rw [takeS_zero]; rfl
  | n + 1, i, [], h => by simp at h
  | n + 1, i, none :: t, h => by
    have := takeS_used n (i + 1) t (by simp [usedS] at h ⊢; omega)
    simp only [takeS]
    unfold usedS at this ⊢
    rw [List.countP_cons, this, List.countP_cons]
    simp
    omega
  | n + 1, i, some q :: t, h => by
    have := takeS_used (n + 1) (i + 1) t (by simp [usedS] at h ⊢; omega)
    simp only [takeS]
    unfold usedS at this ⊢
    rw [List.countP_cons, this, List.countP_cons]
    simp
    omega
theorem used_none {s : St} {i : Nat} {q : List UInt8} (h : s[i]? = some (some q)) : usedS (s.set i none) + 1 = usedS s := by
  induction s generalizing i with
  | nil => simp at h
  | cons a t ih =>
    cases i with
    | zero =>
      simp only [List.getElem?_cons_zero, Option.some.injEq] at h
      subst h
      simp [usedS]
    | succ i =>
      simp only [List.getElem?_cons_succ] at h
      have := ih h
      simp only [usedS, List.set_cons_succ, List.countP_cons] at this ⊢
      omega
theorem used_le (s : St) : usedS s ≤ s.length := List.countP_le_length
theorem takeS_S2 (j n : Nat) (x : List UInt8) (t : St) : takeS j n (some x :: t) = ((takeS (j + 1) n t).1, some x :: (takeS (j + 1) n t).2) := by
  cases n with
  | zero => rw [takeS_zero, takeS_zero]
  | succ n => rfl

theorem Try.zeroB : (Try.prog.info? 52).map (fun i => (i.zero, i.size)) = some (some (.agg (Array.replicate 50 (.bool false))), 50) := by kernel_rfl
theorem bools_array (n : Nat) : ((List.replicate n false).map Value.bool).toArray = Array.replicate n (.bool false) := by simp
theorem zero50 : ∃ Z : List Bool, (∀ w : World, (zeroValue 52).run Try.prog w = .ok (.agg ((Z.map Value.bool).toArray)) w) ∧ Z = List.replicate 50 false := by
  refine ⟨List.replicate 50 false, fun w => ?_, rfl⟩
  have h := Try.zeroB
  cases hi : Try.prog.info? 52 with
  | none => rw [hi] at h; cases h
  | some i =>
    rw [hi] at h
    simp only [Option.map_some, Option.some.injEq, Prod.mk.injEq] at h
    have e := bools_array 50
    rw [e]
    simp [zeroValue, typeInfo, hi, h.1]


set_option maxRecDepth 100000 in
set_option maxHeartbeats 4000000 in
theorem pagesLeast_walk (u : Value) (l : List UInt8) (v : Value) (gl : List UInt8) (w : World) (hu : Rd w u l) (hv : Rd w v gl) :
    Calls Try.prog 6 #[u, v] w fun e w' => e = .returned (.bool true) ∧ Below w.heap.size w w' := by
  obtain ⟨ua, uc, rfl, hu1, hu2, hua⟩ := RdV.cellsAt hu
  obtain ⟨va, vc, rfl, hv1, hv2, hva⟩ := RdV.cellsAt hv
  rw [List.length_map] at hu1 hv1 ⊢
  rw [List.length_map]
  unfold maxLen at hu2 hv2
  have HUA := Lib.hid hua
  have HVA := Lib.hid hva
  obtain ⟨Z, hZ, hZ1⟩ := zero50
  have HZ1 := Lib.hid hZ1
  obtain ⟨N, hN⟩ : ∃ N, N = l.length := ⟨_, rfl⟩
  obtain ⟨G, hG⟩ : ∃ G, G = gl.length := ⟨_, rfl⟩
  rw [← hN] at hu1 ⊢
  rw [← hG] at hv1 ⊢
  have HN := Lib.hid hN
  have HG := Lib.hid hG
  clear hu hv hua hva hZ1 hN hG
  go_enter Try.func6, Try.ntmps6
  go_wp2_with fail
  refine (shown5_any _).mono ?_
  rintro e w1 ⟨rfl, hx1⟩
  have HX1 := Lib.hid hx1
  clear hx1
  go_wp2_with fail
  refine (pNew_any 50 (by decide)).mono ?_
  rintro e w2 hNew
  unfold PNewed at hNew
  rcases hNew with ⟨_, _, p, O2, rfl, hp2, ho2, hx2⟩ | ⟨hbad, _⟩
  · have HI2 := Lib.hid (show LInv w (w2.alloc (.cells (Z.map Value.bool).toArray 52)) p w2.heap.size O2 (List.replicate 50 none) from by
      have s1 := HX1.out.size
      have s2 := hx2.size
      refine ⟨hp2.mono (ext_new w2 _), ⟨by simp, fun q hq => by have := List.eq_of_mem_replicate hq; cases this⟩, by simp, fun x hx => Nat.le_trans s1 (ho2 x hx), fun h => by have := hp2.lt _ h; omega, by omega, ?_, ?_⟩
      · unfold OnB
        rw [heap_alloc_new, HZ1.out]
        simp
      · exact Ext.trans HX1.out (Ext.trans hx2 (ext_new w2 _)))
    clear hp2 ho2 hx2
    generalize hb : w2.heap.size = b at HI2
    go_wp2_with fail
    generalize w2.alloc (.cells (Z.map Value.bool).toArray 52) = W2 at HI2 ⊢
    clear hZ hb
    have HU2 := Lib.hid (show (List.replicate 50 (none : Option (List UInt8))).length = 50 ∧ usedS (List.replicate 50 none) = 0 from ⟨by simp, by simp [usedS]⟩)
    go_loopw [9, 31] (fun lf i wr => ∃ (j U : Nat) (O : Nat → Prop) (s : St), j ≤ N ∧ i = .int .i64 j ∧ U ≤ 50 ∧ usedS s = U ∧ lf = .int .i64 (50 - (U : Int)) ∧ LInv w wr p b O s) (fun _ i _ => N - (intOf i).toNat)
    case atStart => exact ⟨0, 0, O2, _, Nat.zero_le _, rfl, by omega, HU2.out.2, rfl, HI2.out⟩
    case round =>
      obtain ⟨j, U, O, s, hjN, rfl, hU50, hU, rfl, hinv⟩ := hrel
      have HI := Lib.hid hinv
      have HU := Lib.hid hU
      clear hinv hU
      by_cases hlt : j < N
      · by_cases h40 : j < 40
        · have hd40 : decide (40 ≤ (j : Int)) = false := decide_eq_false (by omega)
          have hjl : j < l.length := by have := HN.out; omega
          obtain ⟨x, rfl, hcx0⟩ := HUA.out j (bv l[j]) (by rw [List.getElem?_map, List.getElem?_eq_getElem hjl]; rfl)
          have hcx := (HI.out.below.cell (lt_of_cell hcx0)).trans hcx0
          unfold bv at hcx
          obtain ⟨C, hC⟩ : ∃ C : Nat, C = l[j].toNat := ⟨_, rfl⟩
          have hClt : C ≤ 255 := by have := l[j].toNat_lt; omega
          rw [← hC] at hcx
          clear hcx0 hC hjl
          have HAL := Lib.hid (pAlloc_any (w := wr) ((C : Int) % 10) HI.out.prog HI.out.ok (by omega))
          by_cases hfit : (50 - (U : Int)) < (C : Int) % 10
          · have hdf : decide ((50 - (U : Int)) < (C : Int) % 10) = true := decide_eq_true hfit
            rw [allocS_full (by omega) (by rw [HI.out.len, HU.out]; omega)] at HAL
            go_wp2_with fail
            refine HAL.out.mono ?_
            rintro e w3 ⟨v3, rfl, hown3, hst3⟩
            obtain ⟨O3, k1, k2, k3, k4, k5, k6, -, -⟩ := HI.out.step hst3 HI.out.ok
            have HI3 := Lib.hid (show LInv w w3 p b O3 s from ⟨k1, k2, HI.out.len, k3, k4, HI.out.b0, k5, k6⟩)
            obtain ⟨a3, cap3, rfl, hc31, hc32⟩ := own_shape hown3
            simp only [List.length_nil] at hown3 hc31 ⊢
            unfold maxLen at hc32
            clear hst3 hown3 k1 k2 k3 k4 k5 k6
            have HLF := Lib.hid (show (50 - (U : Int)) = 50 - (U : Int) from rfl)
            have hneX : ((U : Int) != 50 - (50 - (U : Int))) = false := by rw [bne_eq_false_iff_eq]; omega
            have HUSED := Lib.hid (fun W (hx : Ext w3 W) => pUsed_any (w := W) (HI3.out.prog.mono hx))
            by_cases hjG : j < G
            · have hjgl : j < gl.length := by have := HG.out; omega
              obtain ⟨y, rfl, hcy0⟩ := HVA.out j (bv gl[j]) (by rw [List.getElem?_map, List.getElem?_eq_getElem hjgl]; rfl)
              have hcy := (HI3.out.below.cell (lt_of_cell hcy0)).trans hcy0
              unfold bv at hcy
              obtain ⟨D, hD⟩ : ∃ D : Nat, D = gl[j].toNat := ⟨_, rfl⟩
              have hDlt : D ≤ 255 := by have := gl[j].toNat_lt; omega
              rw [← hD] at hcy
              clear hcy0 hD hjgl
              obtain ⟨q, hq⟩ : ∃ q : Nat, (D : Int) % 50 = q := ⟨D % 50, by omega⟩
              have hq50 : q < 50 := by omega
              have hqs : q < s.length := by have := HI3.out.len; omega
              have HFR := Lib.hid (fun W (hx : Ext w3 W) => pFree_any (w := W) ((D : Int) % 50) (HI3.out.prog.mono hx) HI3.out.ok (by omega))
              have HSQ := Lib.hid (show s[q]? = some s[q] from List.getElem?_eq_getElem hqs)
              have hps : pageS s ((D : Int) % 50) = s[q] := by unfold pageS; rw [if_pos (by omega), hq, Int.toNat_natCast, HSQ.out]; rfl
              have hcell0 := HI3.out.on.cell (i := q) (x := (s[q]).isSome) (by rw [List.getElem?_map, HSQ.out]; rfl)
              have hcz0 : ∀ z : Later (OnlyS O3) w3.drew, z.val.cell? ⟨b, q, none⟩ = some (.bool (s[q]).isSome) := fun z => z.ext.cell (a := ⟨b, q, none⟩) (by rw [← hcell0]; rfl) HI3.out.nb
              generalize s[q] = o at hps hcell0 hcz0 HSQ
              have HQ := Lib.hid hq
              cases o with
              | none =>
                have hfs : freeS s ((D : Int) % 50) = (2, s) := by unfold freeS; rw [hps]
                rw [hfs] at HFR
                simp only [Option.isSome_none] at hcz0 hcell0
                clear hfs hps hqs
                have hq2 := hq
                rw [hq] at HFR
                go_wp2_with fail
                refine wp_region_segs (OnlyS O3) (OnlyS.keeps _) [([0, 1, 4, 5, 6], some 2), ([3, 7], none)] (by kernel_rfl) (by kernel_rfl) (fun c a a' w e h => (by exact ⟨e ▸ h.1, h.2⟩)) ?_
                simp only [pickSegs, pickOps, List.map_cons, List.map_nil, Option.map_some, Option.map_none, Option.getD_some, List.getElem?_toArray, List.getElem?_cons_zero, List.getElem?_cons_succ]
                refine wpSegs_some fun K hK => ?_
                repeat go_big_quiet_step (fail)
                refine wpQuiet_nil ?_
                clear hcz0
                go_wp2_with fail
                refine (HFR.out _ (Ext.drew w3)).mono ?_
                rintro e w5 ⟨rfl, hst5⟩
                obtain ⟨O5, k1, k2, k3, k4, k5, k6, k7, -⟩ := LInv.step (HI3.out.ext (Ext.drew w3)) hst5 HI3.out.ok
                have HI5 := Lib.hid (show LInv w w5 p b O5 s from ⟨k1, k2, HI3.out.len, k3, k4, HI3.out.b0, k5, k6⟩)
                have hoS := hst5.choose_spec.2.1
                have HOS := Lib.hid hoS
                clear hst5 hoS k1 k2 k3 k4 k5 k6 k7
                go_wp2_with fail
                refine ⟨HOS.out, hK _ _ ?_⟩
                clear hK K
                refine wpSegs_none ?_
                repeat go_big_quiet_step (fail)
                refine wpQuiet_nil (wpSegs_nil ?_)
                have hcell5 := HI5.out.on.cell (i := q) (x := false) (by rw [List.getElem?_map, HSQ.out]; rfl)
                have HUSED5 := Lib.hid (pUsed_any (w := w5) HI5.out.prog)
                rw [HU.out] at HUSED5
                go_wp2_with fail
                refine HUSED5.out.mono ?_
                rintro e w6 ⟨rfl, hx6⟩
                have HI6 := Lib.hid (HI5.out.ext hx6)
                clear hx6
                go_wp2_with fail
                go_roundw
                case rel => exact ⟨j + 1, U, O5, s, by omega, by go_num, by omega, HU.out, by first | rfl | rw [HLF.out], HI6.out⟩
                case measure => simp [intOf]; omega
              | some pg =>
                have hfs : freeS s ((D : Int) % 50) = (0, s.set q none) := by unfold freeS setS; rw [hps]; simp only; rw [hq, Int.toNat_natCast]
                rw [hfs] at HFR
                simp only [Option.isSome_some] at hcz0 hcell0
                have HOK5 := Lib.hid (HI3.out.ok.set q none (fun _ h => by cases h))
                have HUN := Lib.hid (used_none HSQ.out)
                clear hfs hps hqs
                have hq2 := hq
                rw [hq] at HFR
                go_wp2_with fail
                refine wp_region_segs (OnlyS O3) (OnlyS.keeps _) [([0, 1, 4, 5, 6], some 2), ([3, 7], none)] (by kernel_rfl) (by kernel_rfl) (fun c a a' w e h => (by exact ⟨e ▸ h.1, h.2⟩)) ?_
                simp only [pickSegs, pickOps, List.map_cons, List.map_nil, Option.map_some, Option.map_none, Option.getD_some, List.getElem?_toArray, List.getElem?_cons_zero, List.getElem?_cons_succ]
                refine wpSegs_some fun K hK => ?_
                repeat go_big_quiet_step (fail)
                refine wpQuiet_nil ?_
                clear hcz0
                go_wp2_with fail
                refine (HFR.out _ (Ext.drew w3)).mono ?_
                rintro e w5 ⟨rfl, hst5⟩
                obtain ⟨O5, k1, k2, k3, k4, k5, k6, k7, -⟩ := LInv.step (HI3.out.ext (Ext.drew w3)) hst5 HOK5.out
                have HP5 := Lib.hid k1
                have HO5 := Lib.hid k3
                have HNB5 := Lib.hid k4
                have HON5 := Lib.hid k5
                have HB5 := Lib.hid k6
                have hoS := hst5.choose_spec.2.1
                have HOS := Lib.hid hoS
                clear hst5 hoS k1 k2 k3 k4 k5 k6 k7
                go_wp2_with fail
                refine ⟨HOS.out, hK _ _ ?_⟩
                clear hK K
                refine wpSegs_none ?_
                repeat go_big_quiet_step (fail)
                refine wpQuiet_nil (wpSegs_nil ?_)
                have hcell5 := HON5.out.cell (i := q) (x := true) (by rw [List.getElem?_map, HSQ.out]; rfl)
                have hfree5 := HON5.out.free q
                have HI5 := Lib.hid (show LInv w (w5.setCell ⟨b, q, none⟩ (.bool false)) p b O5 (s.set q none) from ⟨LInv.put HP5.out HNB5.out _ _, HOK5.out, by rw [List.length_set]; exact HI3.out.len, HO5.out, HNB5.out, HI3.out.b0, by
                  have h1 := HON5.out.set q false
                  rw [List.map_set]
                  exact h1, Below.setCell HB5.out (p := ⟨b, q, none⟩) HI3.out.b0 _⟩)
                have HUSED5 := Lib.hid (pUsed_any (w := w5.setCell ⟨b, q, none⟩ (.bool false)) HI5.out.prog)
                have hun := HUN.out
                rw [HU.out] at hun
                obtain ⟨U5, hU5⟩ : ∃ U5, U5 = usedS (s.set q none) := ⟨_, rfl⟩
                rw [← hU5] at HUSED5 hun
                have HU5 := Lib.hid hU5.symm
                have hlf5 : 50 - (U : Int) + 1 = 50 - (U5 : Int) := by omega
                have HLF5 := Lib.hid hlf5
                clear hU5 hlf5
                go_wp2_with fail
                refine HUSED5.out.mono ?_
                rintro e w6 ⟨rfl, hx6⟩
                have HI6 := Lib.hid (HI5.out.ext hx6)
                clear hx6
                have hneU : ((U5 : Int) != 50 - (50 - (U : Int) + 1)) = false := by rw [bne_eq_false_iff_eq]; omega
                go_wp2_with fail
                go_roundw
                case rel => exact ⟨j + 1, U5, O5, _, by omega, by go_num, by omega, HU5.out, by rw [HLF5.out], HI6.out⟩
                case measure => simp [intOf]; omega
            · have HUSED5 := Lib.hid (HUSED.out _ (Below.refl _ _))
              rw [HU.out] at HUSED5
              go_wp2_with fail
              refine HUSED5.out.mono ?_
              rintro e w6 ⟨rfl, hx6⟩
              have HI6 := Lib.hid (HI3.out.ext hx6)
              clear hx6
              go_wp2_with fail
              go_roundw
              case rel => exact ⟨j + 1, U, O3, s, by omega, by go_num, by omega, HU.out, by first | rfl | rw [HLF.out], HI6.out⟩
              case measure => simp [intOf]; omega
          · have hdf : decide ((50 - (U : Int)) < (C : Int) % 10) = false := decide_eq_false hfit
            rw [allocS_fits _ (by omega) (by rw [HI.out.len, HU.out]; exact hfit)] at HAL
            obtain ⟨M, hM⟩ : ∃ M : Nat, (C : Int) % 10 = M := ⟨C % 10, by omega⟩
            have HM := Lib.hid hM
            have hM9 : M ≤ 9 := by omega
            have hMfit : U + M ≤ 50 := by omega
            rw [show ((C : Int) % 10).toNat = M by omega] at HAL
            have hcnt := takeS_count M 0 s (by rw [HU.out, HI.out.len]; omega)
            have hokA := allocS_ok HI.out.ok ((C : Int) % 10)
            rw [allocS_fits _ (by omega) (by rw [HI.out.len, HU.out]; exact hfit)] at hokA
            rw [show ((C : Int) % 10).toNat = M by omega] at hokA
            have HUS := Lib.hid (show usedS (takeS 0 M s).2 = U + M from by rw [takeS_used M 0 s (by rw [HU.out, HI.out.len]; omega), HU.out])
            have HLE := Lib.hid ((takeS_length M 0 s).trans HI.out.len)
            obtain ⟨T, hT⟩ : ∃ T, T = (takeS 0 M s).1 := ⟨_, rfl⟩
            obtain ⟨S2, hS2⟩ : ∃ S2, S2 = (takeS 0 M s).2 := ⟨_, rfl⟩
            simp only at HAL hokA
            rw [← hT] at HAL hcnt
            rw [← hS2] at HAL hokA HUS HLE
            have HTT := Lib.hid hT
            have HSS := Lib.hid hS2
            rw [hcnt] at HAL
            have HCN := Lib.hid hcnt
            have HOKA := Lib.hid hokA
            have hneM : ((M : Int) != (C : Int) % 10) = false := by rw [bne_eq_false_iff_eq]; omega
            clear hT hS2 hcnt hokA hM
            go_wp2_with fail
            refine HAL.out.mono ?_
            rintro e w3 ⟨v3, rfl, hown3, hst3⟩
            obtain ⟨O3, k1, k2, k3, k4, k5, k6, k7, k8⟩ := HI.out.step hst3 HOKA.out
            obtain ⟨a3, cap3, rfl, hc31, hc32⟩ := own_shape hown3
            unfold maxLen at hc32
            have HP3 := Lib.hid k1
            have HO3 := Lib.hid k3
            have HNB3 := Lib.hid k4
            have HON3 := Lib.hid k5
            have HB3 := Lib.hid k6
            have HOW3 := Lib.hid hown3
            have HV3 := Lib.hid k8
            have HSZ3 := Lib.hid (show b < wr.heap.size from HI.out.on.lt)
            clear hst3 hown3 k1 k2 k3 k4 k5 k6 k7 k8
            go_wp2_with fail
            go_loopw [14, 60] (fun k i wl => ∃ (m c : Nat) (pre rest : St) (done : List Nat), m ≤ M ∧ i = .int .i64 m ∧ k = .int .i64 c ∧ c ≤ 50 ∧ pre.length = c ∧ c + rest.length = 50 ∧ done.length = m ∧ T = done ++ (takeS c (M - m) rest).1 ∧ S2 = pre ++ (takeS c (M - m) rest).2 ∧ OnB wl b ((pre ++ rest).map Option.isSome) ∧ PSto O3 wl p S2 ∧ Below w.heap.size w wl ∧ OnlyP b w3 wl) (fun _ i _ => M - (intOf i).toNat)
            case atStart => exact ⟨0, 0, [], s, [], Nat.zero_le _, rfl, rfl, by omega, rfl, by rw [Nat.zero_add]; exact HI.out.len, rfl, by rw [HTT.out]; rfl, by rw [HSS.out]; rfl, HON3.out, HP3.out, HB3.out, OnlyP.refl _ _⟩
            case round =>
              obtain ⟨m, c, pre, rest, done, hm, rfl, rfl, hc50, hpre, hrest, hdone, hTe, hSe, hon, hps, hbel, hop⟩ := hrel
              have HPRE := Lib.hid hpre
              have HREST := Lib.hid hrest
              have HDONE := Lib.hid hdone
              have HTE := Lib.hid hTe
              have HSE := Lib.hid hSe
              have HON := Lib.hid hon
              have HPS := Lib.hid hps
              have HBEL := Lib.hid hbel
              have HOP := Lib.hid hop
              clear hpre hrest hdone hTe hSe hon hps hbel hop
              by_cases hmM : m < M
              · have hmT : m < T.length := by have := HCN.out; omega
                obtain ⟨g3, cap3', he, -⟩ := owns_shape HOW3.out (by omega)
                simp only [Value.slice.injEq] at he
                obtain ⟨rfl, -, -⟩ := he
                have hgb : g3 ≠ b := by have := (HOW3.out.lt g3 rfl).1; have := HSZ3.out; omega
                have hcT0 := HOW3.out.cellAt m (by omega)
                rw [List.getElem?_map, List.getElem?_eq_getElem hmT, Option.map_some] at hcT0
                unfold iv at hcT0
                have HTM := Lib.hid (show T[m]? = some T[m] from List.getElem?_eq_getElem hmT)
                generalize T[m] = id at hcT0 HTM
                have hcT : wr.cell? ⟨g3, m, none⟩ = some (.int .i64 (id : Int)) := World.grownBy.cell HOP.out hcT0 (fun hh => hgb (by simpa using hh))
                clear hcT0
                go_wp2_with fail
                go_loopw [14] (fun k wz => ∃ (c' : Nat) (pre' rest' : St), k = .int .i64 c' ∧ c' ≤ 50 ∧ pre'.length = c' ∧ c' + rest'.length = 50 ∧ T = done ++ (takeS c' (M - m) rest').1 ∧ S2 = pre' ++ (takeS c' (M - m) rest').2 ∧ OnB wr b ((pre' ++ rest').map Option.isSome) ∧ wz = wr) (fun k _ => 50 - (intOf k).toNat)
                case atStart => exact ⟨c, pre, rest, rfl, hc50, HPRE.out, HREST.out, HTE.out, HSE.out, HON.out, rfl⟩
                case round =>
                  obtain ⟨c', pre', rest', rfl, hc', hpre', hrest', hTe', hSe', hon', rfl⟩ := hrel
                  have HPRE' := Lib.hid hpre'
                  have HREST' := Lib.hid hrest'
                  have HTE' := Lib.hid hTe'
                  have HSE' := Lib.hid hSe'
                  have HON' := Lib.hid hon'
                  clear hpre' hrest' hTe' hSe' hon'
                  cases rest' with
                  | nil =>
                    exfalso
                    have h1 := HTE'.out
                    rw [takeS_nil] at h1
                    have h2 := congrArg List.length h1
                    simp only [List.append_nil] at h2
                    have := HDONE.out
                    omega
                  | cons o t =>
                    have hlt50 : c' < 50 := by have := HREST'.out; simp only [List.length_cons] at this; omega
                    have hat : ((pre' ++ o :: t).map Option.isSome)[c']? = some o.isSome := by
                      rw [List.getElem?_map, List.getElem?_append_right (by have := HPRE'.out; omega), HPRE'.out, Nat.sub_self]
                      rfl
                    have hcell := HON'.out.cell hat
                    have hfree := HON'.out.free c'
                    clear hat
                    cases o with
                    | some q =>
                      simp only [Option.isSome_some] at hcell
                      go_wp2_with fail
                      go_roundw
                      case rel => exact ⟨c' + 1, pre' ++ [some q], t, by go_num, by omega, by rw [List.length_append, HPRE'.out]; rfl, by have := HREST'.out; simp only [List.length_cons] at this; omega, by rw [HTE'.out, takeS_S2], by rw [HSE'.out, takeS_S2]; simp, by have := HON'.out; simpa using this, trivial⟩
                      case measure => simp [intOf]; omega
                    | none =>
                      simp only [Option.isSome_none] at hcell
                      have hMm : 0 < M - m := by omega
                      have hid : id = c' := by
                        have h1 := HTM.out
                        rw [HTE'.out, takeS_none _ _ _ hMm, List.getElem?_append_right (by have := HDONE.out; omega), HDONE.out, Nat.sub_self] at h1
                        simpa using h1.symm
                      subst hid
                      have hne50 : ((id : Int) == 50) = false := by rw [beq_eq_false_iff_ne]; omega
                      go_wp2_with fail
                      go_roundw
                      case rel =>
                        refine ⟨m + 1, id, pre', some (layP id []) :: t, done ++ [id], by omega, by go_num, rfl, hc', HPRE'.out, by have := HREST'.out; simpa using this, by rw [List.length_append, HDONE.out]; rfl, ?_, ?_, ?_, ?_, ?_, ?_⟩
                        · rw [HTE'.out, takeS_none _ _ _ hMm, takeS_S2]
                          simp [Nat.sub_sub]
                        · rw [HSE'.out, takeS_none _ _ _ hMm, takeS_S2]
                          simp [Nat.sub_sub]
                        · have h1 := HON'.out.set id true
                          have h2 : ((pre' ++ none :: t).map Option.isSome).set id true = (pre' ++ some (layP id []) :: t).map Option.isSome := by
                            rw [List.map_append, List.map_append, List.set_append_right _ _ (by rw [List.length_map, HPRE'.out]; exact Nat.le_refl _), List.length_map, HPRE'.out, Nat.sub_self]
                            rfl
                          rw [h2] at h1
                          exact h1
                        · exact LInv.put HPS.out HNB3.out _ _
                        · exact Below.setCell HBEL.out (p := ⟨b, id, none⟩) HI.out.b0 _
                        · exact OnlyP.trans HOP.out (OnlyP.set b id _ _)
                      case measure => simp [intOf]; omega
              · have hmM2 : m = M := by omega
                subst hmM2
                have hSF : S2 = pre ++ rest := by rw [HSE.out, Nat.sub_self, takeS_zero]
                have HI3 := Lib.hid (show LInv w wr p b O3 S2 from ⟨HPS.out, HOKA.out, HLE.out, HO3.out, HNB3.out, HI.out.b0, by rw [hSF]; exact HON.out, HBEL.out⟩)
                clear hSF
                obtain ⟨U2, hU2⟩ : ∃ U2, U2 = U + m := ⟨_, rfl⟩
                rw [← hU2] at HUS
                have hlf : (50 - (U : Int)) - (m : Int) = 50 - (U2 : Int) := by omega
                have hU250 : U2 ≤ 50 := by omega
                have HLF := Lib.hid hlf
                have hU2a : U2 ≤ U + m := by omega
                have hU2b : U + m ≤ U2 := by omega
                clear hU2 hlf
                have hneX : ((U2 : Int) != 50 - (50 - (U : Int) - (m : Int))) = false := by rw [bne_eq_false_iff_eq]; omega
                have HUSED := Lib.hid (fun W (hx : Ext wr W) => pUsed_any (w := W) (HI3.out.prog.mono hx))
                by_cases hjG : j < G
                · have hjgl : j < gl.length := by have := HG.out; omega
                  obtain ⟨y, rfl, hcy0⟩ := HVA.out j (bv gl[j]) (by rw [List.getElem?_map, List.getElem?_eq_getElem hjgl]; rfl)
                  have hcy := (HI3.out.below.cell (lt_of_cell hcy0)).trans hcy0
                  unfold bv at hcy
                  obtain ⟨D, hD⟩ : ∃ D : Nat, D = gl[j].toNat := ⟨_, rfl⟩
                  have hDlt : D ≤ 255 := by have := gl[j].toNat_lt; omega
                  rw [← hD] at hcy
                  clear hcy0 hD hjgl
                  obtain ⟨q, hq⟩ : ∃ q : Nat, (D : Int) % 50 = q := ⟨D % 50, by omega⟩
                  have hq50 : q < 50 := by omega
                  have hqs : q < S2.length := by have := HI3.out.len; omega
                  have HFR := Lib.hid (fun W (hx : Ext wr W) => pFree_any (w := W) ((D : Int) % 50) (HI3.out.prog.mono hx) HI3.out.ok (by omega))
                  have HSQ := Lib.hid (show S2[q]? = some S2[q] from List.getElem?_eq_getElem hqs)
                  have hps : pageS S2 ((D : Int) % 50) = S2[q] := by unfold pageS; rw [if_pos (by omega), hq, Int.toNat_natCast, HSQ.out]; rfl
                  have hcell0 := HI3.out.on.cell (i := q) (x := (S2[q]).isSome) (by rw [List.getElem?_map, HSQ.out]; rfl)
                  have hcz0 : ∀ z : Later (OnlyS O3) wr.drew, z.val.cell? ⟨b, q, none⟩ = some (.bool (S2[q]).isSome) := fun z => z.ext.cell (a := ⟨b, q, none⟩) (by rw [← hcell0]; rfl) HI3.out.nb
                  generalize S2[q] = o at hps hcell0 hcz0 HSQ
                  have HQ := Lib.hid hq
                  cases o with
                  | none =>
                    have hfs : freeS S2 ((D : Int) % 50) = (2, S2) := by unfold freeS; rw [hps]
                    rw [hfs] at HFR
                    simp only [Option.isSome_none] at hcz0 hcell0
                    clear hfs hps hqs
                    have hq2 := hq
                    rw [hq] at HFR
                    go_wp2_with fail
                    refine wp_region_segs (OnlyS O3) (OnlyS.keeps _) [([0, 1, 4, 5, 6], some 2), ([3, 7], none)] (by kernel_rfl) (by kernel_rfl) (fun c a a' w e h => (by exact ⟨e ▸ h.1, h.2⟩)) ?_
                    simp only [pickSegs, pickOps, List.map_cons, List.map_nil, Option.map_some, Option.map_none, Option.getD_some, List.getElem?_toArray, List.getElem?_cons_zero, List.getElem?_cons_succ]
                    refine wpSegs_some fun K hK => ?_
                    repeat go_big_quiet_step (fail)
                    refine wpQuiet_nil ?_
                    clear hcz0
                    go_wp2_with fail
                    refine (HFR.out _ (Ext.drew wr)).mono ?_
                    rintro e w5 ⟨rfl, hst5⟩
                    obtain ⟨O5, k1, k2, k3, k4, k5, k6, k7, -⟩ := LInv.step (HI3.out.ext (Ext.drew wr)) hst5 HI3.out.ok
                    have HI5 := Lib.hid (show LInv w w5 p b O5 S2 from ⟨k1, k2, HI3.out.len, k3, k4, HI3.out.b0, k5, k6⟩)
                    have hoS := hst5.choose_spec.2.1
                    have HOS := Lib.hid hoS
                    clear hst5 hoS k1 k2 k3 k4 k5 k6 k7
                    go_wp2_with fail
                    refine ⟨HOS.out, hK _ _ ?_⟩
                    clear hK K
                    refine wpSegs_none ?_
                    repeat go_big_quiet_step (fail)
                    refine wpQuiet_nil (wpSegs_nil ?_)
                    have hcell5 := HI5.out.on.cell (i := q) (x := false) (by rw [List.getElem?_map, HSQ.out]; rfl)
                    have HUSED5 := Lib.hid (pUsed_any (w := w5) HI5.out.prog)
                    rw [HUS.out] at HUSED5
                    go_wp2_with fail
                    refine HUSED5.out.mono ?_
                    rintro e w6 ⟨rfl, hx6⟩
                    have HI6 := Lib.hid (HI5.out.ext hx6)
                    clear hx6
                    go_wp2_with fail
                    go_roundw
                    case rel => exact ⟨j + 1, U2, O5, S2, by omega, by go_num, by omega, HUS.out, by first | rfl | rw [HLF.out], HI6.out⟩
                    case measure => simp [intOf]; omega
                  | some pg =>
                    have hfs : freeS S2 ((D : Int) % 50) = (0, S2.set q none) := by unfold freeS setS; rw [hps]; simp only; rw [hq, Int.toNat_natCast]
                    rw [hfs] at HFR
                    simp only [Option.isSome_some] at hcz0 hcell0
                    have HOK5 := Lib.hid (HI3.out.ok.set q none (fun _ h => by cases h))
                    have HUN := Lib.hid (used_none HSQ.out)
                    clear hfs hps hqs
                    have hq2 := hq
                    rw [hq] at HFR
                    go_wp2_with fail
                    refine wp_region_segs (OnlyS O3) (OnlyS.keeps _) [([0, 1, 4, 5, 6], some 2), ([3, 7], none)] (by kernel_rfl) (by kernel_rfl) (fun c a a' w e h => (by exact ⟨e ▸ h.1, h.2⟩)) ?_
                    simp only [pickSegs, pickOps, List.map_cons, List.map_nil, Option.map_some, Option.map_none, Option.getD_some, List.getElem?_toArray, List.getElem?_cons_zero, List.getElem?_cons_succ]
                    refine wpSegs_some fun K hK => ?_
                    repeat go_big_quiet_step (fail)
                    refine wpQuiet_nil ?_
                    clear hcz0
                    go_wp2_with fail
                    refine (HFR.out _ (Ext.drew wr)).mono ?_
                    rintro e w5 ⟨rfl, hst5⟩
                    obtain ⟨O5, k1, k2, k3, k4, k5, k6, k7, -⟩ := LInv.step (HI3.out.ext (Ext.drew wr)) hst5 HOK5.out
                    have HP5 := Lib.hid k1
                    have HO5 := Lib.hid k3
                    have HNB5 := Lib.hid k4
                    have HON5 := Lib.hid k5
                    have HB5 := Lib.hid k6
                    have hoS := hst5.choose_spec.2.1
                    have HOS := Lib.hid hoS
                    clear hst5 hoS k1 k2 k3 k4 k5 k6 k7
                    go_wp2_with fail
                    refine ⟨HOS.out, hK _ _ ?_⟩
                    clear hK K
                    refine wpSegs_none ?_
                    repeat go_big_quiet_step (fail)
                    refine wpQuiet_nil (wpSegs_nil ?_)
                    have hcell5 := HON5.out.cell (i := q) (x := true) (by rw [List.getElem?_map, HSQ.out]; rfl)
                    have hfree5 := HON5.out.free q
                    have HI5 := Lib.hid (show LInv w (w5.setCell ⟨b, q, none⟩ (.bool false)) p b O5 (S2.set q none) from ⟨LInv.put HP5.out HNB5.out _ _, HOK5.out, by rw [List.length_set]; exact HI3.out.len, HO5.out, HNB5.out, HI3.out.b0, by
                      have h1 := HON5.out.set q false
                      rw [List.map_set]
                      exact h1, Below.setCell HB5.out (p := ⟨b, q, none⟩) HI3.out.b0 _⟩)
                    have HUSED5 := Lib.hid (pUsed_any (w := w5.setCell ⟨b, q, none⟩ (.bool false)) HI5.out.prog)
                    have hun := HUN.out
                    rw [HUS.out] at hun
                    obtain ⟨U5, hU5⟩ : ∃ U5, U5 = usedS (S2.set q none) := ⟨_, rfl⟩
                    rw [← hU5] at HUSED5 hun
                    have HU5 := Lib.hid hU5.symm
                    have hlf5 : 50 - (U : Int) - (m : Int) + 1 = 50 - (U5 : Int) := by omega
                    have HLF5 := Lib.hid hlf5
                    clear hU5 hlf5
                    go_wp2_with fail
                    refine HUSED5.out.mono ?_
                    rintro e w6 ⟨rfl, hx6⟩
                    have HI6 := Lib.hid (HI5.out.ext hx6)
                    clear hx6
                    have hneU : ((U5 : Int) != 50 - (50 - (U : Int) - (m : Int) + 1)) = false := by rw [bne_eq_false_iff_eq]; omega
                    go_wp2_with fail
                    go_roundw
                    case rel => exact ⟨j + 1, U5, O5, _, by omega, by go_num, by omega, HU5.out, by rw [HLF5.out], HI6.out⟩
                    case measure => simp [intOf]; omega
                · have HUSED5 := Lib.hid (HUSED.out _ (Below.refl _ _))
                  rw [HUS.out] at HUSED5
                  go_wp2_with fail
                  refine HUSED5.out.mono ?_
                  rintro e w6 ⟨rfl, hx6⟩
                  have HI6 := Lib.hid (HI3.out.ext hx6)
                  clear hx6
                  go_wp2_with fail
                  go_roundw
                  case rel => exact ⟨j + 1, U2, O3, S2, by omega, by go_num, by omega, HUS.out, by first | rfl | rw [HLF.out], HI6.out⟩
                  case measure => simp [intOf]; omega
        · have hd40 : decide (40 ≤ (j : Int)) = true := decide_eq_true (by omega)
          have hjl : j < l.length := by have := HN.out; omega
          obtain ⟨x, rfl, hcx0⟩ := HUA.out j (bv l[j]) (by rw [List.getElem?_map, List.getElem?_eq_getElem hjl]; rfl)
          have hcx := (HI.out.below.cell (lt_of_cell hcx0)).trans hcx0
          unfold bv at hcx
          generalize (l[j].toNat : Int) = C at hcx
          clear hcx0
          go_wp2_with fail
          go_ret
          exact ⟨rfl, HI.out.below⟩
      · go_wp2_with fail
        go_ret
        exact ⟨rfl, HI.out.below⟩
  · exact absurd (by decide) hbad

end Go.Proofs.Ythelgjoobckbaaa
