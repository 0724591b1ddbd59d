/-
  The program's contracts of zones: rightBounds, Right, Put.
-/
import Derived.Test.YtlbilmmjcfiokaaZoneP2
import Derived.Test.YtlbilmmjcfiokaaZoneRef4
namespace Go.Proofs.Ytlbilmmjcfiokaa
section
open Go.RowKit Go.BigFrame

theorem pIsKindZ_any (k : Int) (w : World) (_hk : 0 ≤ k ∧ k ≤ 255) :
    Calls Try.prog 35 #[.int .u8 k] w fun e w' => e = .returned (.bool (decide (1 ≤ k ∧ k ≤ 3))) ∧ w = w' := by
  by_cases h1 : k = 1
  · subst h1
    go_enter Try.func35, Try.ntmps35
    go_wp2_with fail
    go_ret
    exact ⟨rfl, rfl⟩
  · have q1 : (k == (1 : Int)) = false := beq_eq_false_iff_ne.2 h1
    by_cases h2 : k = 2
    · subst h2
      go_enter Try.func35, Try.ntmps35
      go_wp2_with fail
      go_ret
      exact ⟨rfl, rfl⟩
    · have q2 : (k == (2 : Int)) = false := beq_eq_false_iff_ne.2 h2
      by_cases h3 : k = 3
      · subst h3
        go_enter Try.func35, Try.ntmps35
        go_wp2_with fail
        go_ret
        exact ⟨rfl, rfl⟩
      · have q3 : (k == (3 : Int)) = false := beq_eq_false_iff_ne.2 h3
        have HD := Lib.hid (show decide (1 ≤ k ∧ k ≤ 3) = false from decide_eq_false (by omega))
        rw [HD.out]
        clear h1 h2 h3
        go_enter Try.func35, Try.ntmps35
        go_wp2_with fail
        go_ret
        exact ⟨rfl, rfl⟩

theorem pCountsZ_any (z : Zo) (w : World) :
    Calls Try.prog 41 #[z.val] w fun e w' => e = .returned (.bool (decide (0 ≤ z.n ∧ z.n ≤ z.m ∧ z.m ≤ 4096))) ∧ Ext w w' := by
  obtain ⟨⟨ak, an, as'⟩, ⟨bk, bn, bs⟩, pn, pm⟩ := z
  unfold Zo.val
  simp only
  have HX := Lib.hid (ext_new w (.cells #[.int .u8 ak, .int .i64 an, .string ⟨as'.toArray⟩, .int .u8 bk, .int .i64 bn, .string ⟨bs.toArray⟩, .int .i64 pn, .int .i64 pm] 26))
  by_cases h1 : 0 ≤ pn
  · have d1 : decide (0 ≤ pn) = true := decide_eq_true h1
    by_cases h2 : pn ≤ pm
    · have d2 : decide (pn ≤ pm) = true := decide_eq_true h2
      have HD := Lib.hid (show decide (0 ≤ pn ∧ pn ≤ pm ∧ pm ≤ 4096) = decide (pm ≤ 4096) from decide_eq_decide.2 ⟨fun h => h.2.2, fun h => ⟨h1, h2, h⟩⟩)
      rw [HD.out]
      clear h1 h2
      go_enter Try.func41, Try.ntmps41
      go_wp2_with fail
      go_ret
      exact ⟨rfl, HX.out⟩
    · have d2 : decide (pn ≤ pm) = false := decide_eq_false h2
      have HD := Lib.hid (show decide (0 ≤ pn ∧ pn ≤ pm ∧ pm ≤ 4096) = false from decide_eq_false (fun h => h2 h.2.1))
      rw [HD.out]
      clear h1 h2
      go_enter Try.func41, Try.ntmps41
      go_wp2_with fail
      go_ret
      exact ⟨rfl, HX.out⟩
  · have d1 : decide (0 ≤ pn) = false := decide_eq_false h1
    have HD := Lib.hid (show decide (0 ≤ pn ∧ pn ≤ pm ∧ pm ≤ 4096) = false from decide_eq_false (fun h => h1 h.1))
    rw [HD.out]
    clear h1
    go_enter Try.func41, Try.ntmps41
    go_wp2_with fail
    go_ret
    exact ⟨rfl, HX.out⟩

theorem enters_wrongZ : ∀ args w, (callFunc 64 args).run Try.prog w = .ok (.enter 64 args) w := enters_of Try.func64 (by kernel_rfl) rfl

set_option maxRecDepth 100000 in
theorem pWrongZ_any (v : V) (k : Int) (kb : Nat) (w : World) (hv : v.fits) (hl : v.s.length ≤ 5000) (hkb : w.cell? ⟨kb, 0, none⟩ = some (.int .u8 k)) :
    Calls Try.prog 64 #[v.val, .pointer (some ⟨kb, 0, none⟩)] w fun e w' => e = .returned (.bool (!decide (someV k v))) ∧ Ext w w' := by
  have HR := Lib.hid (fun W => Right_any v hv hl W)
  have hd : decide (someV k v) = (rightV v && decide (v.k = k)) := by unfold someV; by_cases h1 : rightV v = true <;> by_cases h2 : v.k = k <;> simp [h1, h2]
  rw [hd]
  generalize rightV v = c at HR
  obtain ⟨vk, vn, vs⟩ := v
  unfold V.val at HR ⊢
  simp only at HR ⊢
  have HB := Lib.hid (Blk.new w [.int .u8 vk, .int .i64 vn, .string ⟨vs.toArray⟩] 24)
  have HK := Lib.hid hkb
  clear hv hl hd hkb
  go_enter Try.func64, Try.ntmps64
  go_wp2_with fail
  refine (HR.out _).mono ?_
  rintro e w1 ⟨rfl, hx⟩
  have k0 : w1.cell? ⟨w.heap.size, 0, none⟩ = some (.int .u8 vk) := (HB.out.ext hx).cell 0 _ rfl
  have HX := Lib.hid (Ext.trans (ext_new w _) hx)
  have k1 : w1.cell? ⟨kb, 0, none⟩ = some (.int .u8 k) := (HX.out.cell (lt_of_cell HK.out)).trans HK.out
  clear hx HR
  cases c with
  | false =>
    go_wp2_with fail
    go_ret
    exact ⟨by simp, HX.out⟩
  | true =>
    by_cases hq : vk = k
    · have q1 : (vk != k) = false := by simp [hq]
      have HN := Lib.hid hq
      clear hq
      go_wp2_with fail
      go_ret
      exact ⟨by simp [HN.out], HX.out⟩
    · have q1 : (vk != k) = true := bne_iff_ne.2 hq
      have HN := Lib.hid hq
      clear hq
      go_wp2_with fail
      go_ret
      exact ⟨by simp [HN.out], HX.out⟩

set_option maxRecDepth 100000 in
theorem indexFuncV_any (G : Nat) (p : Value) (B : V → Bool) (u : Value) (ws : List V) (w : World) (hu : RdVals w u ws) (he : ∀ args w, (callFunc G args).run Try.prog w = .ok (.enter G args) w)
    (hf : ∀ v ∈ ws, ∀ W, Ext w W → Calls Try.prog G #[v.val, p] W fun e w' => e = .returned (.bool (B v)) ∧ Ext W w') :
    Calls Try.prog 86 #[u, .func (.func G) #[] #[p]] w fun e w' => (∃ k : Int, e = .returned (.int .i64 k) ∧ -1 ≤ k ∧ k ≤ 9223372036854775807 ∧ decide (0 ≤ k) = ws.any B) ∧ Ext w w' := by
  obtain ⟨ao, cap, rfl, -, -⟩ := hu.shape
  obtain ⟨-, h1, h2, hc⟩ := hu.plain
  have HC := Lib.hid hc
  have HF := Lib.hid hf
  unfold maxLen at h2
  obtain ⟨N, hN⟩ : ∃ N, ws.length = N := ⟨_, rfl⟩
  have HN := Lib.hid hN
  rw [hN] at h1 ⊢
  clear hu hc hf hN
  go_enter Try.func86, Try.ntmps86
  go_wp2_with fail
  go_loopw [5, 8] (fun _ i wr => ∃ j : Nat, j ≤ N ∧ i = .int .i64 j ∧ (ws.take j).any B = false ∧ Ext w wr) (fun _ i _ => N - (intOf i).toNat)
  case atStart => exact ⟨0, Nat.zero_le _, rfl, rfl, Ext.keeps.refl _⟩
  case round =>
    obtain ⟨j, hj, rfl, hb, hx⟩ := hrel
    have HB := Lib.hid hb
    have HX := Lib.hid hx
    clear hb hx
    by_cases hlt : j < N
    · have hjl : j < ws.length := by have := HN.out; omega
      obtain ⟨g, off, rfl, c0, c1, c2⟩ := HC.out j hjl
      have x0 := (HX.out.cell (lt_of_cell c0)).trans c0
      have x1 := (HX.out.cell (lt_of_cell c1)).trans c1
      have x2 := (HX.out.cell (lt_of_cell c2)).trans c2
      have HS := Lib.hid (List.take_succ_eq_append_getElem hjl)
      have HM := Lib.hid (List.getElem_mem hjl)
      have HFC := Lib.hid (HF.out _ HM.out wr HX.out)
      generalize ws[j] = v at x0 x1 x2 HS HFC HM
      have HEN := he
      obtain ⟨k, n, s⟩ := v
      unfold V.val at HFC
      simp only at x0 x1 x2 HFC
      clear c0 c1 c2
      cases hb : B ⟨k, n, s⟩ with
      | true =>
        rw [hb] at HFC
        have HB1 := Lib.hid hb
        clear hb
        go_wp2_with fail
        refine HFC.out.mono ?_
        rintro e w2 ⟨rfl, hx⟩
        have HX2 := Lib.hid (Ext.trans HX.out hx)
        clear hx
        go_wp2_with fail
        go_ret
        exact ⟨⟨_, rfl, by omega, by omega, by rw [List.any_eq_true.2 ⟨_, HM.out, HB1.out⟩]; exact decide_eq_true (by omega)⟩, HX2.out⟩
      | false =>
        rw [hb] at HFC
        have HB1 := Lib.hid hb
        clear hb
        go_wp2_with fail
        refine HFC.out.mono ?_
        rintro e w2 ⟨rfl, hx⟩
        have HX2 := Lib.hid (Ext.trans HX.out hx)
        clear hx
        go_wp2_with fail
        go_roundw
        case rel => exact ⟨j + 1, by omega, by go_num, by rw [HS.out, List.any_append, HB.out]; simp [HB1.out], HX2.out⟩
        case measure => simp [intOf]; omega
    · have HNO := Lib.hid (show ws.any B = false by have h := HB.out; rwa [List.take_of_length_le (by have := HN.out; omega)] at h)
      go_wp2_with fail
      go_ret
      exact ⟨⟨-1, rfl, by omega, by omega, by rw [HNO.out]; decide⟩, HX.out⟩

set_option maxRecDepth 100000 in
theorem containsFuncV_any (G : Nat) (p : Value) (B : V → Bool) (u : Value) (ws : List V) (w : World) (hu : RdVals w u ws) (he : ∀ args w, (callFunc G args).run Try.prog w = .ok (.enter G args) w)
    (hf : ∀ v ∈ ws, ∀ W, Ext w W → Calls Try.prog G #[v.val, p] W fun e w' => e = .returned (.bool (B v)) ∧ Ext W w') :
    Calls Try.prog 65 #[u, .func (.func G) #[] #[p]] w fun e w' => e = .returned (.bool (ws.any B)) ∧ Ext w w' := by
  have HI := Lib.hid (indexFuncV_any G p B u ws w hu he hf)
  clear hf
  go_enter Try.func65, Try.ntmps65
  go_wp2_with fail
  refine HI.out.mono ?_
  rintro e w2 ⟨⟨k, rfl, hk1, hk2, hk⟩, hx⟩
  go_wp2_with fail
  go_ret
  exact ⟨by rw [← hk]; rfl, hx⟩
end
section
open Go.RowKit Go.BigFrame

/-- Where rightBounds stands. -/
structure BZ (w : World) (k : Int) (xs : List Value) (W : World) : Prop where
  k : Blk W w.heap.size [.int .u8 k] 5
  z : Blk W (w.heap.size + 1) xs 26
  x : Ext w W
theorem BZ.ext {w : World} {k : Int} {xs : List Value} {W W' : World} (h : BZ w k xs W) (hx : Ext W W') : BZ w k xs W' := ⟨h.k.ext hx, h.z.ext hx, Ext.trans h.x hx⟩
theorem BZ.start (w : World) (k : Int) (xs : List Value) (o : Obj) : BZ w k xs (((w.alloc (.cells #[.int .u8 k] 5)).alloc (.cells xs.toArray 26)).alloc o) :=
  ⟨((Blk.new w [.int .u8 k] 5).ext (ext_new _ _)).ext (ext_new _ _), blk31 w _ _ _ _, ext3 w _ _ _⟩

def boundsZ (k : Int) (z : Zo) : Prop := (z.n = z.m ∧ z.a = V.zero ∧ z.b = V.zero) ∨ (z.n ≠ z.m ∧ someV k z.a ∧ someV k z.b ∧ cmpV z.a z.b ≤ 0 ∧ (z.n + 1 < z.m ∨ z.a = z.b))
instance (k : Int) (z : Zo) : Decidable (boundsZ k z) := by unfold boundsZ; exact inferInstance
theorem boundsZ_0 {k : Int} {z : Zo} (h : z.n = z.m) : decide (boundsZ k z) = (decide (z.a = V.zero) && decide (z.b = V.zero)) := by
  unfold boundsZ
  by_cases h1 : z.a = V.zero <;> by_cases h2 : z.b = V.zero <;> simp [h, h1, h2]
theorem boundsZ_1 {k : Int} {z : Zo} (h : z.m = z.n + 1) : decide (boundsZ k z) = (decide (z.a = z.b) && decide (someV k z.a)) := by
  unfold boundsZ
  have h0 : z.n ≠ z.m := by omega
  have h1 : ¬ z.n + 1 < z.m := by omega
  by_cases h2 : z.a = z.b
  · have h3 : cmpV z.b z.b = 0 := cmpV_zero.2 rfl
    by_cases h4 : someV k z.b <;> simp [h0, h1, h2, h3, h4]
  · simp [h0, h1, h2]
theorem boundsZ_2 {k : Int} {z : Zo} (h : z.n + 1 < z.m) : decide (boundsZ k z) = ((decide (someV k z.a) && decide (someV k z.b)) && decide (cmpV z.a z.b ≤ 0)) := by
  unfold boundsZ
  have h0 : z.n ≠ z.m := by omega
  by_cases h2 : someV k z.a <;> by_cases h3 : someV k z.b <;> by_cases h4 : cmpV z.a z.b ≤ 0 <;> simp [h0, h, h2, h3, h4]

theorem dec3 (A B C : Prop) [Decidable A] [Decidable B] [Decidable C] : decide (A ∧ B ∧ C) = (decide A && (decide B && decide C)) := by
  by_cases h1 : A <;> by_cases h2 : B <;> by_cases h3 : C <;> simp [h1, h2, h3]
theorem rdVals_new {W : World} {b : Nat} {l : List V} {t : TypeId} (h : Blk W b (l.flatMap V.cells) t) (hl : l.length ≤ 100000) : RdVals W (.slice (some ⟨b, 0, none⟩) l.length l.length) l :=
  ⟨_, _, rfl, Nat.le_refl _, by unfold maxLen; omega, fun j hj => ⟨b, 0, rfl, fun i y hy => by
    have hi : i < 3 := (List.getElem?_eq_some_iff.1 hy).1
    rw [Nat.zero_add]
    exact h.cell _ _ ((valCells l j hj i hi).trans hy)⟩⟩
theorem blk4 (w : World) (o o' o2 : Obj) (xs : List Value) (t : TypeId) : Blk ((((w.alloc o).alloc o').alloc o2).alloc (.cells xs.toArray t)) (w.heap.size + 1 + 1 + 1) xs t := by
  have h := Blk.new (((w.alloc o).alloc o').alloc o2) xs t
  simp only [World.alloc, Array.size_push] at h
  exact h

set_option maxRecDepth 100000 in
set_option maxHeartbeats 4000000 in
theorem pBoundsZ_any (k : Int) (z : Zo) (w : World) (_hk : 0 ≤ k ∧ k ≤ 255) (hz : z.fits) (hs : z.small 5000) (hc : 0 ≤ z.n ∧ z.n ≤ z.m ∧ z.m ≤ 4096) :
    Calls Try.prog 42 #[.int .u8 k, z.val] w fun e w' => e = .returned (.bool (decide (boundsZ k z))) ∧ Ext w w' := by
  have HWA := Lib.hid (fun W h => pWrongZ_any z.a k w.heap.size W hz.a hs.1 h)
  have HWB := Lib.hid (fun W h => pWrongZ_any z.b k w.heap.size W hz.b hs.2 h)
  have HCM := Lib.hid (fun W => Compare_any z.a z.b hz.a hz.b hs.1 hs.2 W)
  have HNE := Lib.hid (fun W => eq_val z.a z.b W)
  have HB0 := Lib.hid (boundsZ_0 (k := k) (z := z))
  have HB1 := Lib.hid (boundsZ_1 (k := k) (z := z))
  have HB2 := Lib.hid (boundsZ_2 (k := k) (z := z))
  generalize decide (boundsZ k z) = x at HB0 HB1 HB2 ⊢
  obtain ⟨⟨ak, an, as'⟩, ⟨bk, bn, bs⟩, pn, pm⟩ := z
  have HS := Lib.hid (BZ.start w k [.int .u8 ak, .int .i64 an, .string ⟨as'.toArray⟩, .int .u8 bk, .int .i64 bn, .string ⟨bs.toArray⟩, .int .i64 pn, .int .i64 pm])
  have HNA := Lib.hid (show ∀ W, (binOp .eql 24 (.agg #[.int .u8 ak, .int .i64 an, .string ⟨as'.toArray⟩]) (.agg #[.int .u8 0, .int .i64 0, .string ⟨#[]⟩])).run Try.prog W = .ok (.bool (decide ((⟨ak, an, as'⟩ : V) = V.zero))) W from fun W => eq_val ⟨ak, an, as'⟩ V.zero W)
  have HNB := Lib.hid (show ∀ W, (binOp .eql 24 (.agg #[.int .u8 bk, .int .i64 bn, .string ⟨bs.toArray⟩]) (.agg #[.int .u8 0, .int .i64 0, .string ⟨#[]⟩])).run Try.prog W = .ok (.bool (decide ((⟨bk, bn, bs⟩ : V) = V.zero))) W from fun W => eq_val ⟨bk, bn, bs⟩ V.zero W)
  unfold V.val at HWA HWB HCM HNE
  unfold Zo.val
  simp only at HWA HWB HCM HNE HB0 HB1 HB2 hc ⊢
  obtain ⟨hn, hnm, hm⟩ := hc
  have HEN := enters_wrongZ
  clear hz hs
  by_cases h0 : pn = pm
  · have HQ := Lib.hid (HB0.out h0)
    have q0 : ((pm - pn : Int) == 0) = true := beq_iff_eq.2 (by omega)
    have na := HNA.out
    have nb := HNB.out
    generalize decide ((⟨ak, an, as'⟩ : V) = V.zero) = NA at na HQ
    generalize decide ((⟨bk, bn, bs⟩ : V) = V.zero) = NB at nb HQ
    clear HB0 HB1 HB2 h0
    have hX := fun o => (HS.out o).x
    have HXX := Lib.hid hX
    clear hX
    go_enter Try.func42, Try.ntmps42
    cases NA with
    | false =>
      go_wp2_with fail
      go_ret
      exact ⟨by rw [HQ.out]; rfl, HXX.out _⟩
    | true =>
      go_wp2_with fail
      go_ret
      exact ⟨by rw [HQ.out]; rfl, HXX.out _⟩
  · have q0 : ((pm - pn : Int) == 0) = false := beq_eq_false_iff_ne.2 (by omega)
    by_cases h1 : pm = pn + 1
    · have HQ := Lib.hid (HB1.out h1)
      have q1 : ((pm - pn : Int) == 1) = true := beq_iff_eq.2 (by omega)
      have ne := HNE.out
      generalize decide ((⟨ak, an, as'⟩ : V) = ⟨bk, bn, bs⟩) = NE at ne HQ
      generalize decide (someV k ⟨ak, an, as'⟩) = SA at HWA HQ
      clear HB0 HB1 HB2 h0 h1 HNA HNB
      go_enter Try.func42, Try.ntmps42
      cases NE with
      | false =>
        go_wp2_with fail
        go_ret
        exact ⟨by rw [HQ.out]; rfl, (HS.out _).x⟩
      | true =>
        have HWK := Lib.hid (HWA.out _ ((HS.out (.cells #[.int .u8 0, .int .i64 0, .string ⟨#[]⟩] 24)).k.cell 0 _ rfl))
        have HXX := Lib.hid (HS.out (.cells #[.int .u8 0, .int .i64 0, .string ⟨#[]⟩] 24)).x
        go_wp2_with fail
        refine HWK.out.mono ?_
        rintro e w1 ⟨rfl, hx⟩
        have HX1 := Lib.hid (Ext.trans HXX.out hx)
        clear hx
        go_wp2_with fail
        go_ret
        exact ⟨by rw [HQ.out]; simp, HX1.out⟩
    · have HQ := Lib.hid (HB2.out (by omega))
      have q1 : ((pm - pn : Int) == 1) = false := beq_eq_false_iff_ne.2 (by omega)
      have HS0 := Lib.hid (HS.out (.cells #[.int .u8 0, .int .i64 0, .string ⟨#[]⟩] 24))
      have HCF := Lib.hid (fun u W (hW : BZ w k [.int .u8 ak, .int .i64 an, .string ⟨as'.toArray⟩, .int .u8 bk, .int .i64 bn, .string ⟨bs.toArray⟩, .int .i64 pn, .int .i64 pm] W) (hu : RdVals W u [⟨ak, an, as'⟩, ⟨bk, bn, bs⟩]) => containsFuncV_any 64 (.pointer (some ⟨w.heap.size, 0, none⟩)) (fun v => !decide (someV k v)) u [⟨ak, an, as'⟩, ⟨bk, bn, bs⟩] W hu enters_wrongZ (fun v hv W' hx => by
        have hcell := (hW.ext hx).k.cell 0 _ rfl
        rcases List.mem_cons.1 hv with rfl | hv
        · exact HWA.out W' hcell
        · rw [List.mem_singleton.1 hv]
          exact HWB.out W' hcell))
      simp only [List.any_cons, List.any_nil, Bool.or_false] at HCF
      generalize decide (someV k ⟨ak, an, as'⟩) = SA at HCF HQ
      generalize decide (someV k ⟨bk, bn, bs⟩) = SB at HCF HQ
      generalize cmpV ⟨ak, an, as'⟩ ⟨bk, bn, bs⟩ = CA at HCM HQ
      clear HB0 HB1 HB2 h0 h1 HNA HNB HNE HWA HWB
      go_enter Try.func42, Try.ntmps42
      go_wp2_with fail
      have HS1 := Lib.hid (HS0.out.ext (ext_new _ (.cells #[.int .u8 ak, .int .i64 an, .string ⟨as'.toArray⟩, .int .u8 bk, .int .i64 bn, .string ⟨bs.toArray⟩] 24)))
      have HRV := Lib.hid (rdVals_new (l := [⟨ak, an, as'⟩, ⟨bk, bn, bs⟩]) (blk4 w (.cells #[.int .u8 k] 5) (.cells #[.int .u8 ak, .int .i64 an, .string ⟨as'.toArray⟩, .int .u8 bk, .int .i64 bn, .string ⟨bs.toArray⟩, .int .i64 pn, .int .i64 pm] 26) (.cells #[.int .u8 0, .int .i64 0, .string ⟨#[]⟩] 24) [.int .u8 ak, .int .i64 an, .string ⟨as'.toArray⟩, .int .u8 bk, .int .i64 bn, .string ⟨bs.toArray⟩] 24) (by simp))
      refine (HCF.out _ _ HS1.out HRV.out).mono ?_
      rintro e w1 ⟨rfl, hx⟩
      have HS2 := Lib.hid (HS1.out.ext hx)
      clear hx
      have e0 : w1.cell? ⟨w.heap.size + 1, 0, none⟩ = some (.int .u8 ak) := HS2.out.z.cell 0 _ rfl
      have e1 : w1.cell? ⟨w.heap.size + 1, 1, none⟩ = some (.int .i64 an) := HS2.out.z.cell 1 _ rfl
      have e2 : w1.cell? ⟨w.heap.size + 1, 2, none⟩ = some (.string ⟨as'.toArray⟩) := HS2.out.z.cell 2 _ rfl
      have e3 : w1.cell? ⟨w.heap.size + 1, 3, none⟩ = some (.int .u8 bk) := HS2.out.z.cell 3 _ rfl
      have e4 : w1.cell? ⟨w.heap.size + 1, 4, none⟩ = some (.int .i64 bn) := HS2.out.z.cell 4 _ rfl
      have e5 : w1.cell? ⟨w.heap.size + 1, 5, none⟩ = some (.string ⟨bs.toArray⟩) := HS2.out.z.cell 5 _ rfl
      cases SA with
      | false =>
        go_wp2_with fail
        go_ret
        exact ⟨by rw [HQ.out]; simp, HS2.out.x⟩
      | true =>
        cases SB with
        | false =>
          go_wp2_with fail
          go_ret
          exact ⟨by rw [HQ.out]; simp, HS2.out.x⟩
        | true =>
          go_wp2_with fail
          refine (HCM.out _).mono ?_
          rintro e w2 ⟨rfl, hx⟩
          have HS3 := Lib.hid (HS2.out.ext hx)
          clear hx
          go_wp2_with fail
          go_ret
          exact ⟨by rw [HQ.out]; simp, HS3.out.x⟩

set_option maxRecDepth 100000 in
set_option maxHeartbeats 4000000 in
theorem pRightZ_any (k : Int) (z : Zo) (w : World) (hk : 0 ≤ k ∧ k ≤ 255) (hz : z.fits) (hs : z.small 5000) :
    Calls Try.prog 18 #[.int .u8 k, z.val] w fun e w' => e = .returned (.bool (decide (rightZ k z))) ∧ Ext w w' := by
  have HK := Lib.hid (fun W => pIsKindZ_any k W hk)
  have HC := Lib.hid (pCountsZ_any z)
  have HBD := Lib.hid (fun W h => pBoundsZ_any k z W hk hz hs h)
  have hR : decide (rightZ k z) = (decide (1 ≤ k ∧ k ≤ 3) && (decide (0 ≤ z.n ∧ z.n ≤ z.m ∧ z.m ≤ 4096) && decide (boundsZ k z))) := by
    have e : rightZ k z ↔ (1 ≤ k ∧ k ≤ 3) ∧ (0 ≤ z.n ∧ z.n ≤ z.m ∧ z.m ≤ 4096) ∧ boundsZ k z := ⟨fun h => ⟨h.1, ⟨h.2.2.1.1, h.2.2.1.2, h.2.1.2⟩, h.2.2.2⟩, fun h => ⟨h.1, ⟨by omega, h.2.1.2.2⟩, ⟨h.2.1.1, h.2.1.2.1⟩, h.2.2⟩⟩
    exact (decide_eq_decide.2 e).trans (dec3 _ _ _)
  rw [hR]
  generalize decide (boundsZ k z) = c3 at HBD
  by_cases hcc : 0 ≤ z.n ∧ z.n ≤ z.m ∧ z.m ≤ 4096
  · rw [decide_eq_true hcc] at HC ⊢
    replace HBD := Lib.hid (fun W => HBD.out W hcc)
    generalize decide (1 ≤ k ∧ k ≤ 3) = c1 at HK
    obtain ⟨⟨ak, an, as'⟩, ⟨bk, bn, bs⟩, pn, pm⟩ := z
    have HB := Lib.hid (Blk.new w [.int .u8 ak, .int .i64 an, .string ⟨as'.toArray⟩, .int .u8 bk, .int .i64 bn, .string ⟨bs.toArray⟩, .int .i64 pn, .int .i64 pm] 26)
    have HX := Lib.hid (ext_new w (.cells #[.int .u8 ak, .int .i64 an, .string ⟨as'.toArray⟩, .int .u8 bk, .int .i64 bn, .string ⟨bs.toArray⟩, .int .i64 pn, .int .i64 pm] 26))
    unfold Zo.val at HC HBD ⊢
    simp only at HC HBD ⊢
    clear hR hcc hz hs hk
    go_enter Try.func18, Try.ntmps18
    go_wp2_with fail
    refine (HK.out _).mono ?_
    rintro e w1 ⟨rfl, rfl⟩
    cases c1 with
    | false =>
      go_wp2_with fail
      go_ret
      exact ⟨by simp, HX.out⟩
    | true =>
      go_wp2_with fail
      refine (HC.out _).mono ?_
      rintro e w2 ⟨rfl, hx⟩
      have HB2 := Lib.hid (HB.out.ext hx)
      have HX2 := Lib.hid (Ext.trans HX.out hx)
      clear hx
      have e0 : w2.cell? ⟨w.heap.size, 0, none⟩ = some (.int .u8 ak) := HB2.out.cell 0 _ rfl
      have e1 : w2.cell? ⟨w.heap.size, 1, none⟩ = some (.int .i64 an) := HB2.out.cell 1 _ rfl
      have e2 : w2.cell? ⟨w.heap.size, 2, none⟩ = some (.string ⟨as'.toArray⟩) := HB2.out.cell 2 _ rfl
      have e3 : w2.cell? ⟨w.heap.size, 3, none⟩ = some (.int .u8 bk) := HB2.out.cell 3 _ rfl
      have e4 : w2.cell? ⟨w.heap.size, 4, none⟩ = some (.int .i64 bn) := HB2.out.cell 4 _ rfl
      have e5 : w2.cell? ⟨w.heap.size, 5, none⟩ = some (.string ⟨bs.toArray⟩) := HB2.out.cell 5 _ rfl
      have e6 : w2.cell? ⟨w.heap.size, 6, none⟩ = some (.int .i64 pn) := HB2.out.cell 6 _ rfl
      have e7 : w2.cell? ⟨w.heap.size, 7, none⟩ = some (.int .i64 pm) := HB2.out.cell 7 _ rfl
      go_wp2_with fail
      refine (HBD.out _).mono ?_
      rintro e w3 ⟨rfl, hx⟩
      have HX3 := Lib.hid (Ext.trans HX2.out hx)
      clear hx
      go_wp2_with fail
      go_ret
      exact ⟨by simp, HX3.out⟩
  · rw [decide_eq_false hcc] at HC ⊢
    generalize decide (1 ≤ k ∧ k ≤ 3) = c1 at HK
    obtain ⟨⟨ak, an, as'⟩, ⟨bk, bn, bs⟩, pn, pm⟩ := z
    have HX := Lib.hid (ext_new w (.cells #[.int .u8 ak, .int .i64 an, .string ⟨as'.toArray⟩, .int .u8 bk, .int .i64 bn, .string ⟨bs.toArray⟩, .int .i64 pn, .int .i64 pm] 26))
    unfold Zo.val at HC ⊢
    simp only at HC ⊢
    clear hR hcc hz hs hk HBD
    go_enter Try.func18, Try.ntmps18
    go_wp2_with fail
    refine (HK.out _).mono ?_
    rintro e w1 ⟨rfl, rfl⟩
    cases c1 with
    | false =>
      go_wp2_with fail
      go_ret
      exact ⟨by simp, HX.out⟩
    | true =>
      go_wp2_with fail
      refine (HC.out _).mono ?_
      rintro e w2 ⟨rfl, hx⟩
      have HX2 := Lib.hid (Ext.trans HX.out hx)
      clear hx
      go_wp2_with fail
      go_ret
      exact ⟨by simp, HX2.out⟩

set_option maxRecDepth 100000 in
set_option maxHeartbeats 4000000 in
theorem pPutZ_any (z : Zo) (w : World) (hz : z.fits) (hs : z.small 5000) :
    Calls Try.prog 20 #[z.val] w (Fresh 5 w ((putZ z).map bv)) := by
  have HP1 := Lib.hid (fun b l W hr hl => Put_any b l z.a W hr hl hz.a hs.1)
  have HP2 := Lib.hid (fun b l W hr hl => Put_any b l z.b W hr hl hz.b hs.2)
  have HI1 := Lib.hid (fun v l W hr hl => Int_any v l z.n W hr hl hz.n0 hz.n1)
  have HI2 := Lib.hid (fun v l W hr hl => Int_any v l z.m W hr hl hz.m0 hz.m1)
  have HE1 := Lib.hid (encV_le z.a)
  have HE2 := Lib.hid (encV_le z.b)
  have HE3 := Lib.hid (enc_length (zig z.n))
  unfold putZ
  obtain ⟨⟨ak, an, as'⟩, ⟨bk, bn, bs⟩, pn, pm⟩ := z
  have HB := Lib.hid (Blk.new w [.int .u8 ak, .int .i64 an, .string ⟨as'.toArray⟩, .int .u8 bk, .int .i64 bn, .string ⟨bs.toArray⟩, .int .i64 pn, .int .i64 pm] 26)
  have HX := Lib.hid (ext_new w (.cells #[.int .u8 ak, .int .i64 an, .string ⟨as'.toArray⟩, .int .u8 bk, .int .i64 bn, .string ⟨bs.toArray⟩, .int .i64 pn, .int .i64 pm] 26))
  unfold V.val at HP1 HP2
  unfold Zo.val
  simp only at HP1 HP2 HI1 HI2 HE1 HE2 HE3 ⊢
  generalize encV ⟨ak, an, as'⟩ = A at HP1 HE1 ⊢
  generalize encV ⟨bk, bn, bs⟩ = B at HP2 HE2 ⊢
  generalize enc (zig pn) = C at HI1 HE3 ⊢
  generalize enc (zig pm) = D at HI2 ⊢
  clear hz hs
  go_enter Try.func20, Try.ntmps20
  go_upto_region 1 with fail
  rw [show ((.cells #[.int .u8 ak, .int .i64 an, .string ⟨as'.toArray⟩, .int .u8 bk, .int .i64 bn, .string ⟨bs.toArray⟩, .int .i64 pn, .int .i64 pm] 26) : Obj) = .cells ([.int .u8 ak, .int .i64 an, .string ⟨as'.toArray⟩, .int .u8 bk, .int .i64 bn, .string ⟨bs.toArray⟩, .int .i64 pn, .int .i64 pm] : List Value).toArray 26 from rfl] at HX
  try rw [show ((.cells #[.int .u8 ak, .int .i64 an, .string ⟨as'.toArray⟩, .int .u8 bk, .int .i64 bn, .string ⟨bs.toArray⟩, .int .i64 pn, .int .i64 pm] 26) : Obj) = .cells ([.int .u8 ak, .int .i64 an, .string ⟨as'.toArray⟩, .int .u8 bk, .int .i64 bn, .string ⟨bs.toArray⟩, .int .i64 pn, .int .i64 pm] : List Value).toArray 26 from rfl]
  generalize w.alloc (.cells ([.int .u8 ak, .int .i64 an, .string ⟨as'.toArray⟩, .int .u8 bk, .int .i64 bn, .string ⟨bs.toArray⟩, .int .i64 pn, .int .i64 pm] : List Value).toArray 26) = W at HX HB ⊢
  have e0 := later_cell (w := W) (b := w.heap.size) (fun j u hj => HB.out.cell j u hj) 0 (.int .u8 ak) rfl
  have e1 := later_cell (w := W) (b := w.heap.size) (fun j u hj => HB.out.cell j u hj) 1 (.int .i64 an) rfl
  have e2 := later_cell (w := W) (b := w.heap.size) (fun j u hj => HB.out.cell j u hj) 2 (.string ⟨as'.toArray⟩) rfl
  have e3 := later_cell (w := W) (b := w.heap.size) (fun j u hj => HB.out.cell j u hj) 3 (.int .u8 bk) rfl
  have e4 := later_cell (w := W) (b := w.heap.size) (fun j u hj => HB.out.cell j u hj) 4 (.int .i64 bn) rfl
  have e5 := later_cell (w := W) (b := w.heap.size) (fun j u hj => HB.out.cell j u hj) 5 (.string ⟨bs.toArray⟩) rfl
  refine wp_region_segs Ext Ext.keeps [([0, 1, 3, 4], some 2), ([], some 5), ([6], none)] (by kernel_rfl) (by kernel_rfl) (fun c a a' w e h => (by exact ⟨e ▸ h.1, h.2⟩)) ?_
  simp only [pickSegs, pickOps, List.map_cons, List.map_nil, Option.map_some, Option.map_none, Option.getD_some, List.getElem?_toArray, List.getElem?_cons_zero, List.getElem?_cons_succ]
  refine wpSegs_some fun K hK => ?_
  repeat go_big_quiet_step (fail)
  refine wpQuiet_nil ?_
  clear e0 e1 e2 e3 e4 e5
  go_wp2_with fail
  refine (HP1.out _ [] _ (Rd.nil _) (Nat.zero_le _)).mono ?_
  rintro e w1 ⟨r1, rfl, ho1, hb1⟩
  rw [List.nil_append] at ho1
  have HR1 := Lib.hid (RdV.of_owns ho1)
  have HX1 := Lib.hid hb1
  clear ho1 hb1
  go_wp2_with fail
  refine ⟨HX1.out, hK _ _ ?_⟩
  clear hK K
  refine wpSegs_some fun K hK => ?_
  refine wpQuiet_nil ?_
  go_wp2_with fail
  refine (HP2.out _ A _ HR1.out (by have := HE1.out; omega)).mono ?_
  rintro e w2 ⟨r2, rfl, ho2, hb2⟩
  have HR2 := Lib.hid (RdV.of_owns ho2)
  have HX2 := Lib.hid hb2
  clear ho2 hb2
  go_wp2_with fail
  refine ⟨HX2.out, hK _ _ ?_⟩
  clear hK K
  refine wpSegs_none ?_
  repeat go_big_quiet_step (fail)
  refine wpQuiet_nil (wpSegs_nil ?_)
  have HXW := Lib.hid (Ext.trans (Ext.trans (Ext.drew W) HX1.out) HX2.out)
  have HB2 := Lib.hid (HB.out.ext HXW.out)
  have HW2 := Lib.hid (Ext.trans HX.out HXW.out)
  have e6 := later_cell (w := w2) (b := w.heap.size) (fun j u hj => HB2.out.cell j u hj) 6 (.int .i64 pn) rfl
  have e7 := later_cell (w := w2) (b := w.heap.size) (fun j u hj => HB2.out.cell j u hj) 7 (.int .i64 pm) rfl
  go_upto_region 2 with fail
  refine wp_region_segs Ext Ext.keeps [([0, 1, 2, 4, 5], some 3), ([], some 6), ([7], none)] (by kernel_rfl) (by kernel_rfl) (fun c a a' w e h => (by exact ⟨e ▸ h.1, h.2⟩)) ?_
  simp only [pickSegs, pickOps, List.map_cons, List.map_nil, Option.map_some, Option.map_none, Option.getD_some, List.getElem?_toArray, List.getElem?_cons_zero, List.getElem?_cons_succ]
  refine wpSegs_some fun K hK => ?_
  repeat go_big_quiet_step (fail)
  refine wpQuiet_nil ?_
  clear e6 e7
  go_wp2_with fail
  refine (HI1.out _ (A ++ B) _ (HR2.out.mono (Ext.drew w2)) (by have := HE1.out; have := HE2.out; rw [List.length_append]; omega)).mono ?_
  rintro e w3 ⟨r3, rfl, ho3, hb3⟩
  have HR3 := Lib.hid (RdV.of_owns ho3)
  have HX3 := Lib.hid hb3
  clear ho3 hb3
  go_wp2_with fail
  refine ⟨HX3.out, hK _ _ ?_⟩
  clear hK K
  refine wpSegs_some fun K hK => ?_
  refine wpQuiet_nil ?_
  go_wp2_with fail
  refine (HI2.out _ (A ++ B ++ C) _ HR3.out (by have := HE1.out; have := HE2.out; have := HE3.out; simp only [List.length_append]; omega)).mono ?_
  rintro e w4 ⟨r4, rfl, ho4, hb4⟩
  have HO4 := Lib.hid ho4
  have HX4 := Lib.hid hb4
  have HW3 := Lib.hid (Ext.trans (Ext.trans HW2.out (Ext.drew w2)) HX3.out)
  have HS3 := Lib.hid HW3.out.size
  clear ho4 hb4
  go_wp2_with fail
  refine ⟨HX4.out, hK _ _ ?_⟩
  clear hK K
  refine wpSegs_none ?_
  repeat go_big_quiet_step (fail)
  refine wpQuiet_nil (wpSegs_nil ?_)
  go_wp2_with fail
  go_ret
  exact ⟨_, rfl, owns_base HO4.out HS3.out, Ext.trans HW3.out HX4.out⟩
end
end Go.Proofs.Ytlbilmmjcfiokaa
