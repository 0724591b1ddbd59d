/-
  The walk of the law PagesBack, itself.
-/
import Derived.Test.YthelgjoobckbaaaPagesBack
namespace Go.Proofs.Ythelgjoobckbaaa
open Go.RowKit Go.BigFrame

theorem empty_ints (w : World) : (w.alloc (.cells #[] 3)).ownsRow w.heap.size 3 1 (.slice (some ⟨w.heap.size, 0, none⟩) 0 0) 0 [] := World.ownsRow_made w #[] 0 (Nat.le_refl _) (by simp [maxLen]) rfl
theorem iv_oneCell (l : List Nat) : ∀ u ∈ l.map iv, u.oneCell' = true := by
  intro u hu
  obtain ⟨c, _, rfl⟩ := List.mem_map.1 hu
  rfl

/-- What holds between the acts. -/
structure BInv (w W : World) (p q g M : Nat) (O : Nat → Prop) (s t : St) (vi vk : Value) (I K : List Nat) (X Y : List UInt8) : Prop where
  apart : Apart O W p q g s t
  own : ∀ b, O b → w.heap.size ≤ b
  g0 : w.heap.size ≤ g
  m0 : w.heap.size ≤ M
  below : Below w.heap.size w W
  hx : Holds s I X
  hy : Holds s K Y
  ri : RdV W vi (I.map iv)
  rk : RdV W vk (K.map iv)
  oi : ∀ k, vi.ownBlock = some k → ¬ O k ∧ k ≠ g ∧ w.heap.size ≤ k ∧ k < W.heap.size
  ok : ∀ k, vk.ownBlock = some k → ¬ O k ∧ k ≠ g ∧ w.heap.size ≤ k ∧ k < W.heap.size
  set : MSet W M ((I ++ K).map fun (i : Nat) => (i : Int))
  om : ¬ O M ∧ M ≠ g

theorem BInv.ext {w W W' : World} {p q g M : Nat} {O : Nat → Prop} {s t : St} {vi vk : Value} {I K : List Nat} {X Y : List UInt8} (h : BInv w W p q g M O s t vi vk I K X Y) (hx : Ext W W') : BInv w W' p q g M O s t vi vk I K X Y :=
  ⟨⟨h.apart.prog.mono hx, h.apart.ref.mono hx, h.apart.ok, h.apart.okr, h.apart.nq, h.apart.ng⟩, h.own, h.g0, h.m0, h.below.trans (hx.mono h.below.size), h.hx, h.hy, h.ri.mono hx, h.rk.mono hx,
    fun k hk => ⟨(h.oi k hk).1, (h.oi k hk).2.1, (h.oi k hk).2.2.1, Nat.lt_of_lt_of_le (h.oi k hk).2.2.2 hx.size⟩, fun k hk => ⟨(h.ok k hk).1, (h.ok k hk).2.1, (h.ok k hk).2.2.1, Nat.lt_of_lt_of_le (h.ok k hk).2.2.2 hx.size⟩,
    h.set.onlyS (OnlyS.of_ext (X := fun _ => False) hx) (fun h => h), h.om⟩
theorem BInv.step {w W W' : World} {p q g M : Nat} {O O' : Nat → Prop} {s s' t t' : St} {vi vk : Value} {I K : List Nat} {X Y : List UInt8} (h : BInv w W p q g M O s t vi vk I K X Y)
    (ha : Apart O' W' p q g s' t') (ho : OnlyS (fun b => O b ∨ b = g) W W') (hn : ∀ b, O' b → O b ∨ W.heap.size ≤ b) (hs : ∀ i ∈ I ++ K, ∀ c, s[i]? = some (some c) → s'[i]? = some (some c)) : BInv w W' p q g M O' s' t' vi vk I K X Y :=
  ⟨ha, fun b hb => (hn b hb).elim (h.own b) (Nat.le_trans h.below.size), h.g0, h.m0, h.below.trans (ho.below h.below.size (fun b hb => hb.elim (h.own b) (fun e => by rw [e]; exact h.g0))),
    h.hx.keep (fun i hi => hs i (List.mem_append_left _ hi)), h.hy.keep (fun i hi => hs i (List.mem_append_right _ hi)),
    h.ri.onlyS ho (fun _ k hk hx => hx.elim (h.oi k hk).1 (h.oi k hk).2.1), h.rk.onlyS ho (fun _ k hk hx => hx.elim (h.ok k hk).1 (h.ok k hk).2.1),
    fun k hk => ⟨fun hx => (hn k hx).elim (h.oi k hk).1 (fun hx => absurd (h.oi k hk).2.2.2 (by omega)), (h.oi k hk).2.1, (h.oi k hk).2.2.1, Nat.lt_of_lt_of_le (h.oi k hk).2.2.2 ho.size⟩,
    fun k hk => ⟨fun hx => (hn k hx).elim (h.ok k hk).1 (fun hx => absurd (h.ok k hk).2.2.2 (by omega)), (h.ok k hk).2.1, (h.ok k hk).2.2.1, Nat.lt_of_lt_of_le (h.ok k hk).2.2.2 ho.size⟩,
    h.set.onlyS ho (fun hx => hx.elim h.om.1 h.om.2), ⟨fun hx => (hn M hx).elim h.om.1 (fun hx => absurd h.set.lt (by omega)), h.om.2⟩⟩

theorem BInv.same {w W W' : World} {p q g M : Nat} {O : Nat → Prop} {s t : St} {vi vk v : Value} {I K : List Nat} {X Y : List UInt8} (h : BInv w W p q g M O s t vi vk I K X Y) (hs : PStep O W p s W' v) :
    ∃ O', BInv w W' p q g M O' s t vi vk I K X Y ∧ OnlyS O W W' ∧ ∀ k, v.ownBlock = some k → ¬ O' k := by
  obtain ⟨O', hp, ho, hn, hv⟩ := hs
  have hq := lt_of_cell h.apart.ref.top
  have hg := h.apart.ref.lt
  refine ⟨O', h.step ⟨hp, h.apart.ref.onlyS ho h.apart.nq h.apart.ng, h.apart.ok, h.apart.okr, fun hx => ?_, fun hx => ?_⟩ (ho.mono (fun _ _ hx => .inl hx)) hn (fun _ _ _ hc => hc), ho, hv⟩
  · rcases hn q hx with hx | hx
    · exact h.apart.nq hx
    · have : q < W.heap.size := hq
      omega
  · rcases hn g hx with hx | hx
    · exact h.apart.ng hx
    · omega

set_option maxRecDepth 100000 in
set_option maxHeartbeats 4000000 in
theorem pagesBack_walk (v1 : Value) (l1 : List UInt8) (v2 : Value) (l2 : List UInt8) (u : Value) (ls : List Act5) (w : World) (hr1 : Rd w v1 l1) (hr2 : Rd w v2 l2) (hu : RdActs w u ls) (hf : ∀ a ∈ ls, a.fits) :
    Calls Try.prog 4 #[v1, v2, u] w fun e w' => e = .returned (.bool true) ∧ Below w.heap.size w w' := by
  obtain ⟨a1, c1, rfl, hc11, hc12⟩ := hr1.shape
  obtain ⟨a2, c2, rfl, hc21, hc22⟩ := hr2.shape
  unfold maxLen at hc12 hc22
  have HU := Lib.hid hu
  have HFIT := Lib.hid hf
  obtain ⟨K1, hK1, hK1a, hK1b⟩ : ∃ K1 : Nat, (if (500 : Int) < (l1.length : Int) then 500 else (l1.length : Int)) = (K1 : Int) ∧ K1 ≤ l1.length ∧ K1 ≤ 500 := ⟨min l1.length 500, by split <;> omega, by omega, by omega⟩
  obtain ⟨K2, hK2, hK2a, hK2b⟩ : ∃ K2 : Nat, (if (500 : Int) < (l2.length : Int) then 500 else (l2.length : Int)) = (K2 : Int) ∧ K2 ≤ l2.length ∧ K2 ≤ 500 := ⟨min l2.length 500, by split <;> omega, by omega, by omega⟩
  have hsl1 : ∀ W, (Instr.slice 33 (.slice a1 l1.length c1) none (some (.int .i64 (if (500 : Int) < (l1.length : Int) then 500 else (l1.length : Int)))) none).run Try.prog W = .ok (.slice a1 K1 c1) W := fun W => by rw [hK1]; exact head_slice hr1 K1 hK1a W
  have hsl2 : ∀ W, (Instr.slice 33 (.slice a2 l2.length c2) none (some (.int .i64 (if (500 : Int) < (l2.length : Int) then 500 else (l2.length : Int)))) none).run Try.prog W = .ok (.slice a2 K2 c2) W := fun W => by rw [hK2]; exact head_slice hr2 K2 hK2a W
  have HR1 := Lib.hid (head_rd hr1 K1 hK1a)
  have HR2 := Lib.hid (head_rd hr2 K2 hK2a)
  have hX1 : (l1.take K1).length = K1 := by rw [List.length_take]; omega
  have hX2 : (l2.take K2).length = K2 := by rw [List.length_take]; omega
  generalize l1.take K1 = X at HR1 hX1
  generalize l2.take K2 = Y at HR2 hX2
  generalize l1.length = L1 at hsl1 hc11 hK1 ⊢
  generalize l2.length = L2 at hsl2 hc21 hK2 ⊢
  have HKE1 := Lib.hid hK1
  have HKE2 := Lib.hid hK2
  -- the store behind both
  have hok0 : okS (List.replicate 60 none) := ⟨by simp, fun q hq => by have := List.eq_of_mem_replicate hq; cases this⟩
  obtain ⟨hz1, hz2, hz3, hz4⟩ := put_room (s := List.replicate 60 none) (x := X) (by omega) (by simp [usedS])
  have hu0 : usedS (List.replicate 60 none) = 0 := by simp [usedS]
  have hl0 : (List.replicate 60 (none : Option (List UInt8))).length = 60 := List.length_replicate
  have hh1 := putS_holds hz1
  have hok1 := putS_ok hok0 X
  have hp1 : putS (List.replicate 60 none) X = (((putS (List.replicate 60 none) X).1.1, 0), (putS (List.replicate 60 none) X).2) := by rw [← hz1]
  rw [hu0] at hz3
  rw [hl0] at hz4
  generalize (putS (List.replicate 60 none) X).1.1 = I at hp1 hh1 hz2
  generalize (putS (List.replicate 60 none) X).2 = s1 at hp1 hh1 hz3 hz4 hok1
  obtain ⟨hy1, hy2, hy3, hy4⟩ := put_room (s := s1) (x := Y) (by omega) (by omega)
  have hh2 := putS_holds hy1
  have hok2 := putS_ok hok1 Y
  have hkp2 : ∀ i q, s1[i]? = some (some q) → (putS s1 Y).2[i]? = some (some q) := fun i q h => putS_keeps h
  have hp2 : putS s1 Y = (((putS s1 Y).1.1, 0), (putS s1 Y).2) := by rw [← hy1]
  generalize (putS s1 Y).1.1 = K at hp2 hh2 hy2
  generalize (putS s1 Y).2 = s2 at hp2 hh2 hy3 hy4 hok2 hkp2
  have HPX := Lib.hid hp1
  have HPY := Lib.hid hp2
  have HOK0 := Lib.hid hok0
  have HOK1 := Lib.hid hok1
  have HOK2 := Lib.hid hok2
  have HHX := Lib.hid (show Holds s2 I X from hh1.1.keep (fun i _ q h => hkp2 i q h))
  have HHY := Lib.hid hh2.1
  have HND := Lib.hid (show (I ++ K).Nodup from List.nodup_append.2 ⟨hh1.2.1, hh2.2.1, fun a ha b hb e => by
    subst e
    have h1 := hh2.2.2.1 a hb
    obtain ⟨c, _, h2⟩ := hh1.1.page a ha
    rw [h1] at h2
    cases h2⟩)
  have HLT := Lib.hid (show ∀ i ∈ I ++ K, i < 60 from fun i hi => by
    rcases List.mem_append.1 hi with hi | hi
    · obtain ⟨c, _, h⟩ := hh1.1.page i hi
      have := (List.getElem?_eq_some_iff.1 h).1
      omega
    · obtain ⟨c, _, h⟩ := hh2.1.page i hi
      have := (List.getElem?_eq_some_iff.1 h).1
      omega)
  clear hr1 hr2 hu hf hz1 hz3 hz4 hh1 hh2 hok0 hok1 hok2 hkp2 hy1 hy3 hy4 hu0 hl0 hp1 hp2 hK1 hK2
  have hmm := @run_makeMap Try.prog
  go_enter Try.func4, Try.ntmps4
  go_wp2_with fail
  refine (shown5_any _).mono ?_
  rintro e w1 ⟨rfl, hx1⟩
  have HX1 := Lib.hid hx1
  clear hx1
  go_wp2_with fail
  refine (pNew_any 60 (by decide)).mono ?_
  rintro e w2 hNew
  unfold PNewed at hNew
  rcases hNew with ⟨_, _, p, O2, rfl, hp2, ho2, hx2⟩ | ⟨hbad, _⟩
  · have HP2 := Lib.hid (show PSto O2 w2 p (List.replicate 60 none) from hp2)
    have HO2 := Lib.hid ho2
    have HX2 := Lib.hid (Ext.trans HX1.out hx2)
    clear hp2 ho2 hx2
    go_wp2_with fail
    refine (refNew_any 60 w2 (by decide) (by decide)).mono ?_
    rintro e w3 hN
    unfold Newed at hN
    rcases hN with ⟨_, _, q, g, rfl, hq3, hg3, hr3, hx3⟩ | ⟨hbad, _⟩
    · have HP3 := Lib.hid (show PSto O2 w3 p (List.replicate 60 none) from HP2.out.mono hx3)
      have HQ3 := Lib.hid (show RSto w3 q g (List.replicate 60 none) from hr3)
      have HX3 := Lib.hid (Ext.trans HX2.out hx3)
      have HG3 := Lib.hid hg3
      have HQ4 := Lib.hid hq3
      have HS23 := Lib.hid hx3.size
      clear hq3 hg3 hr3 hx3
      go_wp2_with fail
      refine wp_region_segs Ext Ext.keeps [([0, 1, 2, 3, 4, 5, 6, 7, 8, 9, 10, 11], none)] (by kernel_rfl) (by kernel_rfl) (fun c a a' w e h => (by exact ⟨e ▸ h.1, h.2⟩)) ?_
      simp only [pickSegs, pickOps, List.map_cons, List.map_nil, Option.map_none, Option.getD_some, List.getElem?_toArray, List.getElem?_cons_zero, List.getElem?_cons_succ]
      refine wpSegs_none ?_
      repeat go_big_quiet_step (fail)
      refine wpQuiet_nil (wpSegs_nil ?_)
      clear hsl1 hsl2
      rw [HKE1.out, HKE2.out]
      have HD3 := Lib.hid (Ext.drew w3)
      have HXD := Lib.hid (Ext.trans HX3.out HD3.out)
      have HRX := Lib.hid (HR1.out.mono HXD.out)
      have HB1 := Lib.hid (show X ≠ [] → ∀ k, (Value.slice a1 K1 c1).ownBlock = some k → k < w.heap.size from fun hne k hk => block_lt HR1.out (fun e => hne (by simpa using e)) k hk)
      have HB2 := Lib.hid (show Y ≠ [] → ∀ k, (Value.slice a2 K2 c2).ownBlock = some k → k < w.heap.size from fun hne k hk => block_lt HR2.out (fun e => hne (by simpa using e)) k hk)
      have HOW2 := Lib.hid (show ∀ b, O2 b → w.heap.size ≤ b from fun b hb => Nat.le_trans HX1.out.size (HO2.out b hb))
      go_wp2_with fail
      refine (pPut_any (O := O2) (.slice a1 K1 c1) X (HP3.out.mono HD3.out) HOK0.out HRX.out (fun hne k hk h => by have h1 := HB1.out hne k hk; have h2 := HOW2.out k h; omega) (by omega)).mono ?_
      rintro e w4 ⟨v4, rfl, hown4, O4, hp4, ho4, hn4, hv4⟩
      rw [HPX.out] at hown4 hp4 ⊢
      have HW4 := Lib.hid hown4
      have HP4 := Lib.hid hp4
      have HO4 := Lib.hid ho4
      have HN4 := Lib.hid hn4
      have HV4 := Lib.hid hv4
      have HOW4 := Lib.hid (show ∀ b, O4 b → w.heap.size ≤ b from fun b hb => by
        rcases HN4.out b hb with h | h
        · exact HOW2.out b h
        · exact Nat.le_trans HXD.out.size h)
      have HRY := Lib.hid ((HR2.out.mono HXD.out).onlyS HO4.out (fun hne k hk h => by have h1 := HB2.out (by simpa using hne) k hk; have h2 := HOW2.out k h; omega))
      have hs4 := own_shape hown4
      obtain ⟨vi, vic, rfl, hvi1, hvi2⟩ := hs4
      simp only
      clear hown4 hp4 ho4 hn4 hv4
      go_wp2_with fail
      refine (pPut_any (O := O4) (.slice a2 K2 c2) Y HP4.out HOK1.out HRY.out (fun hne k hk h => by have h1 := HB2.out hne k hk; have h2 := HOW4.out k h; omega) (by omega)).mono ?_
      rintro e w5 ⟨v5, rfl, hown5, O5, hp5, ho5, hn5, hv5⟩
      rw [HPY.out] at hown5 hp5 ⊢
      have HW5 := Lib.hid hown5
      have HP5 := Lib.hid hp5
      have HO5 := Lib.hid ho5
      have HN5 := Lib.hid hn5
      have HV5 := Lib.hid hv5
      have hs5 := own_shape hown5
      obtain ⟨vk, vkc, rfl, hvk1, hvk2⟩ := hs5
      simp only
      clear hown5 hp5 ho5 hn5 hv5
      unfold maxLen at hvi2 hvk2
      obtain ⟨i0, hi, hz0, hz1, hz2⟩ := info_parts Try.info_int
      obtain ⟨M, hM⟩ : ∃ M, M = w5.heap.size := ⟨_, rfl⟩
      have HMD := Lib.hid hM
      have HE6 := Lib.hid (show Ext w5 ((w5.alloc (.map #[] 0)).alloc (.cells #[] 3)) from Ext.trans (ext_new w5 (.map #[] 0)) (ext_new _ (.cells #[] 3)))
      have HA6 := Lib.hid (show Below (w5.heap.size + 1) (w5.alloc (.map #[] 0)) ((w5.alloc (.map #[] 0)).alloc (.cells #[] 3)) from (Below.refl _ _).alloc (by simp) _)
      have HOW6 := Lib.hid (show ((w5.alloc (.map #[] 0)).alloc (.cells #[] 3)).ownsRow (w5.heap.size + 1) 3 1 (.slice (some ⟨w5.heap.size + 1, 0, none⟩) 0 0) 0 [] from by
        have h := empty_ints (w5.alloc (.map #[] 0))
        rwa [show (w5.alloc (.map #[] 0)).heap.size = w5.heap.size + 1 from by simp] at h)
      have HV4b := Lib.hid (show ∀ k, (Value.slice vi I.length vic).ownBlock = some k → ¬ O5 k ∧ w3.heap.size ≤ k ∧ k < w4.heap.size from fun k hk => by
        have h1 := HW4.out.lt k hk
        refine ⟨fun h => ?_, h1.1, h1.2⟩
        rcases HN5.out k h with h | h
        · exact HV4.out k hk h
        · omega)
      have HW45 := Lib.hid (own_onlyS HW4.out HO5.out HV4.out)
      have HV5b := Lib.hid (show ∀ k, (Value.slice vk K.length vkc).ownBlock = some k → ¬ O5 k ∧ w4.heap.size ≤ k ∧ k < w5.heap.size from fun k hk => ⟨HV5.out k hk, HW5.out.lt k hk⟩)
      have HI6 := Lib.hid ((RdV.of_owns HW45.out).mono HE6.out)
      have HK6 := Lib.hid ((RdV.of_owns HW5.out).mono HE6.out)
      have HIL := Lib.hid (show (I.map iv).length = I.length from List.length_map ..)
      have HKL := Lib.hid (show (K.map iv).length = K.length from List.length_map ..)
      have HI1 := Lib.hid (iv_oneCell I)
      have HK1 := Lib.hid (iv_oneCell K)
      have HS5 := Lib.hid (show w3.heap.size ≤ w4.heap.size ∧ w4.heap.size ≤ w5.heap.size from ⟨HO4.out.size, HO5.out.size⟩)
      go_wp2_with (at_builtin; go_must (first
        | (refine wpList_append_rd rfl (.tmp 78) (.tmp 79) 34 rfl (w5.heap.size + 1) 3 i0 (.int .i64 0) 8 Try.underlying34 hi hz0 hz1 hz2 rfl _ _ _ rfl HOW6.out _ _ rfl HI6.out HI1.out (by rw [HIL.out]; unfold maxLen; omega) (by rw [HIL.out]; omega) (by simp) ?_
           intro v7 w7 hown7 hgrow7
           rw [HIL.out, Nat.zero_add, List.nil_append] at hown7
           have HW7 := Lib.hid hown7
           have HB7 := Lib.hid (show Below (w5.heap.size + 1) (w5.alloc (.map #[] 0)) w7 from HA6.out.grown hgrow7 (by simp) (fun k hk => by cases hk; exact Nat.le_refl _))
           have HK7 := Lib.hid ((RdV.of_owns HW5.out).mono (Ext.trans (ext_new w5 (.map #[] 0)) (show Ext (w5.alloc (.map #[] 0)) w7 from HB7.out.mono (by simp))))
           have HS7 := Lib.hid (show w5.heap.size + 1 ≤ w7.heap.size from by have h9 := HB7.out.size; rwa [World.size_alloc] at h9)
           obtain ⟨a7, c7, rfl, hc71, hc72⟩ := own_shape hown7
           clear hown7 hgrow7)
        | (refine wpList_append_rd rfl (.tmp 80) (.tmp 81) 34 rfl (w5.heap.size + 1) 3 i0 (.int .i64 0) 8 Try.underlying34 hi hz0 hz1 hz2 rfl _ _ _ rfl HW7.out _ _ rfl HK7.out HK1.out (by rw [HKL.out]; unfold maxLen; omega) (by rw [HKL.out]; omega) HS7.out ?_
           intro v8 w8 hown8 hgrow8
           rw [HKL.out, ← List.map_append] at hown8
           have HW8 := Lib.hid hown8
           have HB8 := Lib.hid (show Below (w5.heap.size + 1) (w5.alloc (.map #[] 0)) w8 from HB7.out.grown hgrow8 HS7.out (fun k hk => (HW7.out.lt k hk).1))
           obtain ⟨a8, c8, rfl, hc81, hc82⟩ := own_shape hown8
           clear hown8 hgrow8)))
      obtain ⟨N, hN⟩ : ∃ N, I.length + K.length = N := ⟨_, rfl⟩
      have hDN : (I ++ K).length = N := by rw [← hN, List.length_append]
      have hNi : (I.length : Int) + (K.length : Int) = (N : Int) := by omega
      rw [hN] at HW8 ⊢
      rw [hNi]
      clear hNi
      have hN18 : N ≤ 18 := by omega
      have HX8 := Lib.hid (show Ext (w5.alloc (.map #[] 0)) w8 from HB8.out.mono (by simp))
      have HX58 := Lib.hid (show Ext w5 w8 from Ext.trans (ext_new w5 (.map #[] 0)) HX8.out)
      have HM8 := Lib.hid ((MSet.made w5).onlyS (OnlyS.of_ext (X := fun _ => False) HX8.out) (fun h => h))
      have HS8 := Lib.hid (show ∀ k, (Value.slice a8 N c8).ownBlock = some k → w5.heap.size + 1 ≤ k ∧ k < w8.heap.size from fun k hk => HW8.out.lt k hk)
      obtain ⟨a8', c8', h8v, h81, h82, h8c⟩ := RdV.cellsAt (RdV.of_owns HW8.out)
      rw [List.length_map, hDN] at h8v
      simp only [Value.slice.injEq] at h8v
      obtain ⟨rfl, -, rfl⟩ := h8v
      have HC8 := Lib.hid h8c
      clear h81 h82 h8c hN
      unfold maxLen at hc82
      obtain ⟨D, hD⟩ : ∃ D, D = I ++ K := ⟨_, rfl⟩
      have HDD := Lib.hid hD
      rw [← hD] at HC8 HND HLT hDN
      have HDN := Lib.hid hDN
      clear hD hDN
      go_loopw [20, 84] (fun _ i wr => ∃ j : Nat, j ≤ N ∧ i = .int .i64 j ∧ MSet wr w5.heap.size ((D.take j).map fun (i : Nat) => (i : Int)) ∧ OnlyS (fun b => b = w5.heap.size) w8 wr) (fun _ i _ => N - (intOf i).toNat)
      case atStart => exact ⟨0, Nat.zero_le _, rfl, HM8.out, OnlyS.refl _ _⟩
      case round =>
        obtain ⟨j, hj, rfl, hm, ho⟩ := hrel
        have HO := Lib.hid ho
        have HMJ := Lib.hid hm
        clear hm ho
        by_cases hlt : j < N
        · have hjd : j < D.length := by rw [HDN.out]; exact hlt
          obtain ⟨x, rfl, hcx0⟩ := HC8.out j (iv D[j]) (by rw [List.getElem?_map, List.getElem?_eq_getElem hjd]; rfl)
          have hxb := HS8.out x.block rfl
          have hcx : wr.cell? (x.add j) = some (.int .i64 (D[j] : Nat)) := HO.out.cell hcx0 (by rw [add_block]; omega)
          have h60 := HLT.out D[j] (List.getElem_mem hjd)
          have hlk := HMJ.out.look (D[j] : Nat) (by omega)
          rw [decide_eq_false (fun hmem => by
            obtain ⟨y, hy, he⟩ := List.mem_map.1 hmem
            obtain rfl : y = D[j] := by omega
            obtain ⟨i, hi, he⟩ := List.mem_take_iff_getElem.1 hy
            have := (List.getElem_inj HND.out).1 he
            omega)] at hlk
          obtain ⟨w9, hup, hm9, ho9⟩ := HMJ.out.add (D[j] : Nat) (by omega) (by rw [List.length_map, List.length_take]; unfold maxLen; omega)
          have HM9 := Lib.hid (show MSet w9 w5.heap.size ((D.take (j + 1)).map fun (i : Nat) => (i : Int)) from by
            rw [List.take_succ_eq_append_getElem hjd, List.map_append]
            exact hm9)
          have HO9 := Lib.hid ho9
          clear hm9 ho9 hcx0 hxb
          generalize D[j] = x0 at *
          go_wp2_with fail
          go_roundw
          case rel => exact ⟨j + 1, by omega, by go_num, HM9.out, HO.out.trans HO9.out (fun _ _ h => h)⟩
          case measure => simp [intOf]; omega
        · have hjN : j = N := by omega
          have HQN := Lib.hid (show ¬ O2 q ∧ ¬ O2 g ∧ q < w3.heap.size ∧ g < w3.heap.size from ⟨fun h => by have := HP2.out.lt q h; have := HQ4.out; omega, fun h => by have := HP2.out.lt g h; have := HG3.out; omega, lt_of_cell HQ3.out.top, HQ3.out.lt⟩)
          have HQ4N := Lib.hid (show ¬ O4 q ∧ ¬ O4 g from ⟨fun h => by
            have h1 := HQN.out
            rcases HN4.out q h with h | h
            · exact h1.1 h
            · have : w3.drew.heap.size = w3.heap.size := rfl
              omega, fun h => by
            have h1 := HQN.out
            rcases HN4.out g h with h | h
            · exact h1.2.1 h
            · have : w3.drew.heap.size = w3.heap.size := rfl
              omega⟩)
          have HQ5N := Lib.hid (show ¬ O5 q ∧ ¬ O5 g from ⟨fun h => by
            have h1 := HQN.out
            have h2 := HS5.out
            rcases HN5.out q h with h | h
            · exact HQ4N.out.1 h
            · omega, fun h => by
            have h1 := HQN.out
            have h2 := HS5.out
            rcases HN5.out g h with h | h
            · exact HQ4N.out.2 h
            · omega⟩)
          have HI := Lib.hid (show BInv w wr p q g w5.heap.size O5 s2 (List.replicate 60 none) (.slice vi I.length vic) (.slice vk K.length vkc) I K X Y from by
            have e1 := HS5.out
            have e2 := HXD.out.size
            have e3 : w3.drew.heap.size = w3.heap.size := rfl
            have e4 := HX58.out.size
            have e5 := HO.out.size
            have e6 := HS23.out
            have e7 := HG3.out
            have e8 := HX2.out.size
            have e9 := HQN.out
            have e10 := HX1.out.size
            refine ⟨⟨?_, ?_, HOK2.out, HOK0.out, HQ5N.out.1, HQ5N.out.2⟩, fun b hb => ?_, by omega, by omega, ?_, HHX.out, HHY.out, ?_, ?_, fun k hk => ?_, fun k hk => ?_, ?_, ?_, by omega⟩
            · exact (HP5.out.mono HX58.out).onlyS HO.out (fun b hb he => by have := HP5.out.lt b hb; omega)
            · exact (((((HQ3.out.mono HD3.out).onlyS HO4.out HQN.out.1 HQN.out.2.1).onlyS HO5.out HQ4N.out.1 HQ4N.out.2).mono HX58.out).onlyS HO.out (by omega) (by omega))
            · rcases HN5.out b hb with h | h
              · exact HOW4.out b h
              · omega
            · refine Below.trans ?_ (HO.out.below (by omega) (fun b hb => by omega))
              refine Below.trans ?_ (HX58.out.mono (by omega))
              refine Below.trans ?_ (HO5.out.below (by omega) HOW4.out)
              exact Below.trans HXD.out (HO4.out.below (by omega) HOW2.out)
            · exact ((RdV.of_owns HW45.out).mono HX58.out).onlyS HO.out (fun _ k hk he => by have := HV4b.out k hk; omega)
            · exact ((RdV.of_owns HW5.out).mono HX58.out).onlyS HO.out (fun _ k hk he => by have := HV5b.out k hk; omega)
            · have h := HV4b.out k hk
              exact ⟨h.1, by omega, by omega, by omega⟩
            · have h := HV5b.out k hk
              exact ⟨h.1, by omega, by omega, by omega⟩
            · have h := HMJ.out
              rw [hjN, List.take_of_length_le (Nat.le_of_eq HDN.out), HDD.out] at h
              exact h
            · intro h
              have := HP5.out.lt _ h
              omega)
          have HCX := Lib.hid (show K1 = X.length ∧ K2 = Y.length from ⟨hX1.symm, hX2.symm⟩)
          clear hj hjN
          go_wp2_with fail
          refine (few5_any u ls wr (HU.out.mono HI.out.below)).mono ?_
          rintro e w10 ⟨m, ao, cap, rfl, rfl, hml, hm80, hsm, rfl⟩
          have HSM := Lib.hid hsm
          clear hsm
          go_wp2_with fail
          have hcap : m ≤ cap ∧ cap ≤ 9223372036854775807 := by
            obtain ⟨ao', cap', h1, h2, h3, _⟩ := HU.out
            simp only [Value.slice.injEq] at h1
            unfold maxLen at h3
            omega
          go_loopw [97] (fun i wy => ∃ (j : Nat) (O : Nat → Prop) (s t : St), j ≤ m ∧ i = .int .i64 j ∧ BInv w wy p q g w5.heap.size O s t (.slice vi I.length vic) (.slice vk K.length vkc) I K X Y) (fun i _ => m - (intOf i).toNat)
          case atStart => exact ⟨0, O5, s2, _, Nat.zero_le _, rfl, HI.out⟩
          case round =>
            obtain ⟨j, O, s, t, hj, rfl, hinv⟩ := hrel
            have HJ := Lib.hid hinv
            clear hinv
            by_cases hlt2 : j < m
            · obtain ⟨ao', cap', h1, h2, h3, hat⟩ := HU.out
              simp only [Value.slice.injEq] at h1
              obtain ⟨rfl, -, rfl⟩ := h1
              have hjl : j < ls.length := by omega
              obtain ⟨gg, off, cs, rfl, hact, hcs⟩ := hat j hjl
              have hsmall := HSM.out j hjl hlt2
              have hfit := HFIT.out ls[j] (List.getElem_mem hjl)
              generalize ls[j] = a at hact hsmall hfit
              obtain ⟨vb, vl, rfl, hrb, hrl⟩ := id hact
              obtain ⟨ab, cb, rfl, -, -⟩ := hrb.shape
              obtain ⟨al, cl, rfl, -, -, hal⟩ := RdV.cellsAt hrl
              obtain ⟨nl, hnl⟩ : ∃ nl, a.l.length = nl := ⟨_, rfl⟩
              rw [List.length_map, hnl] at hact hcs
              have HAL := Lib.hid hal
              have HNL := Lib.hid hnl
              have hnl20 : nl ≤ 20 := by rw [← hnl]; exact hsmall.2
              clear hrb hrl hal hnl
              generalize a.b.length = nb at hact hcs
              have hk := fun i y hy => (HJ.out.below.cell (lt_of_cell (hcs i y hy))).trans (hcs i y hy)
              have c0 := hk 0 _ rfl
              rw [Nat.add_zero] at c0
              have c1 := hk 1 _ rfl
              have c2 := hk 2 _ rfl
              have c3 := hk 3 _ rfl
              have c4 := hk 4 _ rfl
              have c5 := hk 5 _ rfl
              have HACT := Lib.hid hact
              have HSMA := Lib.hid hsmall
              have HFA := Lib.hid hfit
              have HJA := Lib.hid (HJ.out.ext (ext_new wr (.cells #[.int .u8 a.k, .int .i64 a.at', .int .i64 a.n, .slice ab nb cb, .slice al nl cl, .int .u8 a.m.toNat] 36)))
              have hnw := fun j u hj => row_new wr [.int .u8 a.k, .int .i64 a.at', .int .i64 a.n, .slice ab nb cb, .slice al nl cl, .int .u8 a.m.toNat] 36 j u hj
              simp only [add_at, Nat.zero_add] at hnw
              have n0 := hnw 0 _ rfl
              have n1 := hnw 1 _ rfl
              have n2 := hnw 2 _ rfl
              have n3 := hnw 3 _ rfl
              have n4 := hnw 4 _ rfl
              have n5 := hnw 5 _ rfl
              have hka := hfit.k
              obtain ⟨B, hB⟩ : ∃ B, decide (a.at' ∈ (I ++ K).map fun (i : Nat) => (i : Int)) = B := ⟨_, rfl⟩
              have hlk := HJA.out.set.look a.at' hfit.at'
              rw [hB] at hlk
              obtain ⟨d1, hd1⟩ : ∃ d1, decide (0 < a.k % 7) = d1 := ⟨_, rfl⟩
              obtain ⟨d2, hd2⟩ : ∃ d2, decide (a.k % 7 < 4) = d2 := ⟨_, rfl⟩
              have HC0 := Lib.hid (show (B && d1 && d2) = false → 0 < a.k % 7 → a.k % 7 < 4 → ∀ i ∈ I ++ K, a.at' ≠ (i : Int) from fun h h1 h2 i hi he => by
                rw [← hd1, ← hd2, decide_eq_true h1, decide_eq_true h2, ← hB, decide_eq_true (List.mem_map.2 ⟨i, hi, he.symm⟩)] at h
                cases h)
              have hcase : (B = false) ∨ (B = true ∧ d1 = false) ∨ (B = true ∧ d1 = true ∧ d2 = false) ∨ (B = true ∧ d1 = true ∧ d2 = true) := by cases B <;> cases d1 <;> cases d2 <;> simp
              clear hact hsmall hfit hat hcs hk h2 h3 hnw hB
              rcases hcase with rfl | ⟨rfl, rfl⟩ | ⟨rfl, rfl, rfl⟩ | ⟨rfl, rfl, rfl⟩
              all_goals
                go_wp2_with fail
                clear hlk hd1 hd2 c0 c1 c2 c3 c4 c5
                generalize wr.alloc (.cells #[.int .u8 a.k, .int .i64 a.at', .int .i64 a.n, .slice ab nb cb, .slice al nl cl, .int .u8 a.m.toNat] 36) = wA at n0 n1 n2 n3 n4 n5 HJA ⊢
                go_loopw [23, 25, 120] (fun c _ i wz => ∃ (z : Nat) (e : Bool), z ≤ nl ∧ c = .bool e ∧ i = .int .i64 z ∧ wA = wz ∧ (e = false → (0 < a.k % 7 → a.k % 7 < 4 → ∀ i ∈ I ++ K, a.at' ≠ (i : Int)) ∧ ∀ y ∈ a.l.take z, ∀ i ∈ I ++ K, y ≠ (i : Int))) (fun _ _ i _ => nl - (intOf i).toNat)
                case atStart => exact ⟨0, _, Nat.zero_le _, rfl, rfl, rfl, fun h => ⟨HC0.out h, fun y hy => by simp at hy⟩⟩
                case round =>
                  obtain ⟨z, e, hz, rfl, rfl, rfl, hel⟩ := hrel
                  have HEL := Lib.hid hel
                  clear hel
                  by_cases hlt3 : z < nl
                  · have hzl : z < a.l.length := by rw [HNL.out]; exact hlt3
                    obtain ⟨x, rfl, hcx0⟩ := HAL.out z (.int .i64 a.l[z]) (by rw [List.getElem?_map, List.getElem?_eq_getElem hzl]; rfl)
                    have hcx : wA.cell? (x.add z) = some (.int .i64 a.l[z]) := (HJA.out.below.cell (lt_of_cell hcx0)).trans hcx0
                    obtain ⟨C, hC⟩ : ∃ C, decide (a.l[z] ∈ (I ++ K).map fun (i : Nat) => (i : Int)) = C := ⟨_, rfl⟩
                    have hlk2 := HJA.out.set.look a.l[z] (HFA.out.l a.l[z] (List.getElem_mem hzl))
                    rw [hC] at hlk2
                    have HNX := Lib.hid (show e = false → C = false → (0 < a.k % 7 → a.k % 7 < 4 → ∀ i ∈ I ++ K, a.at' ≠ (i : Int)) ∧ ∀ y ∈ a.l.take (z + 1), ∀ i ∈ I ++ K, y ≠ (i : Int) from fun he hc => ⟨(HEL.out he).1, fun y hy i hi => by
                      rw [List.take_succ_eq_append_getElem hzl] at hy
                      rcases List.mem_append.1 hy with hy | hy
                      · exact (HEL.out he).2 y hy i hi
                      · obtain rfl : y = a.l[z] := by simpa using hy
                        intro hyi
                        rw [hc] at hC
                        exact of_decide_eq_false hC (List.mem_map.2 ⟨i, hi, hyi.symm⟩)⟩)
                    clear hcx0 hC
                    generalize a.l[z] = id at hcx hlk2
                    rcases e with _ | _
                    · rcases C with _ | _
                      · go_wp2_with fail
                        go_roundw
                        case rel => exact ⟨z + 1, false, by omega, rfl, by go_num, trivial, fun _ => HNX.out rfl rfl⟩
                        case measure => simp [intOf]; omega
                      · go_wp2_with fail
                        go_roundw
                        case rel => exact ⟨z + 1, true, by omega, rfl, by go_num, trivial, fun h => by cases h⟩
                        case measure => simp [intOf]; omega
                    · go_wp2_with fail
                      go_roundw
                      case rel => exact ⟨z + 1, true, by omega, rfl, by go_num, trivial, fun h => by cases h⟩
                      case measure => simp [intOf]; omega
                  · rcases e with _ | _
                    · have hfin := HEL.out rfl
                      rw [List.take_of_length_le (by rw [HNL.out]; omega)] at hfin
                      have HFIN := Lib.hid hfin
                      clear hfin
                      go_wp2_with fail
                      refine (doesB_any O p q g s t [.int .u8 a.k, .int .i64 a.at', .int .i64 a.n, .slice ab nb cb, .slice al nl cl, .int .u8 a.m.toNat] a w wA HJA.out.apart HACT.out HFA.out HSMA.out HJA.out.below HJA.out.own HJA.out.g0).mono ?_
                      rintro e w6 ⟨⟨r, rfl⟩, O6, ha6, ho6, hn6⟩
                      have HJ6 := Lib.hid (HJA.out.step ha6 ho6 hn6 (fun i hi c h => actS_keeps h (fun h1 h2 => HFIN.out.1 h1 h2 i hi) (fun y hy => HFIN.out.2 y hy i hi)))
                      clear ha6 ho6 hn6
                      go_wp2_with fail
                      go_roundw
                      case rel => exact ⟨j + 1, O6, _, _, by omega, by go_num, HJ6.out⟩
                      case measure => simp [intOf]; omega
                    · go_wp2_with fail
                      go_roundw
                      case rel => exact ⟨j + 1, O, s, t, by omega, by go_num, HJA.out⟩
                      case measure => simp [intOf]; omega
            · have hg1 : getS s (I.map fun (i : Nat) => (i : Int)) (K1 : Int) = (X, 0) := by rw [← hX1]; exact HJ.out.hx.got
              have hg2 : getS s (K.map fun (i : Nat) => (i : Int)) (K2 : Int) = (Y, 0) := by rw [← hX2]; exact HJ.out.hy.got
              have HG1 := Lib.hid hg1
              have HG2 := Lib.hid hg2
              have HB1n := Lib.hid (show ∀ (T : List Nat), (∀ i ∈ T, i ∈ D) → ∀ i ∈ T.map (fun (i : Nat) => (i : Int)), -9223372036854775808 ≤ i ∧ i ≤ 9223372036854775807 from fun T hT i hi => by
                obtain ⟨y, hy, rfl⟩ := List.mem_map.1 hi
                have := HLT.out y (hT y hy)
                omega)
              clear hg1 hg2
              go_wp2_with fail
              refine (pGet_any (.slice vi I.length vic) (I.map fun (i : Nat) => (i : Int)) (K1 : Int) HJ.out.apart.prog HJ.out.apart.ok (by have h := HJ.out.ri; rw [iv_ints] at h; exact h) (fun _ k hk => (HJ.out.oi k hk).1) (by rw [List.length_map]; omega) (HB1n.out I (fun i hi => by rw [HDD.out]; exact List.mem_append_left _ hi)) (by omega)).mono ?_
              rintro e w11 ⟨v11, rfl, hov11, hst11⟩
              rw [HG1.out] at hov11 ⊢
              obtain ⟨O11, hJ11, ho11, hv11⟩ := HJ.out.same hst11
              have HJ11 := Lib.hid hJ11
              have HV11 := Lib.hid hv11
              have HOV11 := Lib.hid hov11
              obtain ⟨a11, cap11, rfl, hp11, hp12⟩ := hov11.shape
              simp only
              clear hst11 hJ11 ho11 hv11 hov11
              go_wp2_with fail
              refine (pGet_any (.slice vk K.length vkc) (K.map fun (i : Nat) => (i : Int)) (K2 : Int) HJ11.out.apart.prog HJ11.out.apart.ok (by have h := HJ11.out.rk; rw [iv_ints] at h; exact h) (fun _ k hk => (HJ11.out.ok k hk).1) (by rw [List.length_map]; omega) (HB1n.out K (fun i hi => by rw [HDD.out]; exact List.mem_append_right _ hi)) (by omega)).mono ?_
              rintro e w12 ⟨v12, rfl, hov12, hst12⟩
              rw [HG2.out] at hov12 ⊢
              obtain ⟨O12, hJ12, ho12, hv12⟩ := HJ11.out.same hst12
              have HJ12 := Lib.hid hJ12
              obtain ⟨a12, cap12, rfl, hp21, hp22⟩ := hov12.shape
              have hc11 := ((HOV11.out.onlyS ho12 HV11.out).rd).string (P := Try.prog) 33 9 5 Try.underlying33 Try.underlying5 Try.underlying9
              have hc12 := hov12.rd.string (P := Try.prog) 33 9 5 Try.underlying33 Try.underlying5 Try.underlying9
              have hcx := (HR1.out.mono HJ12.out.below).string (P := Try.prog) 33 9 5 Try.underlying33 Try.underlying5 Try.underlying9
              have hcy := (HR2.out.mono HJ12.out.below).string (P := Try.prog) 33 9 5 Try.underlying33 Try.underlying5 Try.underlying9
              simp only
              rw [hX1] at hc11
              rw [hX2] at hc12
              clear hst12 hJ12 ho12 hv12 hov12
              go_wp2_with fail
              go_ret
              exact ⟨by simp, HJ12.out.below⟩
    · exact absurd (by decide) hbad
  · exact absurd (by decide) hbad

end Go.Proofs.Ythelgjoobckbaaa
