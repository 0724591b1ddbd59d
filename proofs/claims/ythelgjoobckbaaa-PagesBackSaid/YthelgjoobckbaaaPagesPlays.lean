/-
  The walk of the law PagesPlays.
-/
import Derived.Test.YthelgjoobckbaaaPagesShown
namespace Go.Proofs.Ythelgjoobckbaaa
open Go.RowKit Go.BigFrame

/-- What holds between the acts. -/
structure Inv (w w' : World) (p q g n : Nat) (O : Nat → Prop) (s : St) : Prop where
  both : Both O w' p q g s
  len : s.length = n
  own : ∀ b, O b → w.heap.size ≤ b
  q0 : w.heap.size ≤ q
  g0 : w.heap.size ≤ g
  below : Below w.heap.size w w'

theorem Inv.step {w w' w2 : World} {p q g n : Nat} {O O' : Nat → Prop} {s s' : St} (h : Inv w w' p q g n O s) (hb : Both O' w2 p q g s') (hl : s'.length = s.length) (ho : OnlyS (fun b => O b ∨ b = g) w' w2) (hn : ∀ b, O' b → O b ∨ w'.heap.size ≤ b) : Inv w w2 p q g n O' s' :=
  ⟨hb, hl.trans h.len, fun b hb' => by
    rcases hn b hb' with h1 | h1
    · exact h.own b h1
    · exact Nat.le_trans h.below.size h1, h.q0, h.g0, h.below.trans (ho.below h.below.size (fun b hx => by
      rcases hx with hx | hx
      · exact h.own b hx
      · rw [hx]; exact h.g0))⟩
theorem Both.ext {O : Nat → Prop} {w w' : World} {p q g : Nat} {s : St} (h : Both O w p q g s) (hx : Ext w w') : Both O w' p q g s :=
  ⟨h.prog.onlyS (OnlyS.of_ext (X := fun _ => False) hx) (fun _ _ h => h), h.ref.mono hx, h.ok, h.nq, h.ng⟩
theorem Inv.ext {w w' w2 : World} {p q g n : Nat} {O : Nat → Prop} {s : St} (h : Inv w w' p q g n O s) (hx : Ext w' w2) : Inv w w2 p q g n O s :=
  ⟨h.both.ext hx, h.len, h.own, h.q0, h.g0, h.below.trans (hx.mono h.below.size)⟩

theorem ActAt.mono {w w' : World} {cs : List Value} {a : Act5} (h : ActAt w cs a) (hb : Below w.heap.size w w') : ActAt w' cs a := by
  obtain ⟨vb, vl, h1, h2, h3⟩ := h
  exact ⟨vb, vl, h1, h2.mono hb, h3.mono hb⟩
theorem RdActs.mono {w w' : World} {u : Value} {ls : List Act5} (h : RdActs w u ls) (hb : Below w.heap.size w w') : RdActs w' u ls := by
  obtain ⟨ao, cap, h1, h2, h3, h4⟩ := h
  refine ⟨ao, cap, h1, h2, h3, fun j hj => ?_⟩
  obtain ⟨g, off, cs, h5, h6, h7⟩ := h4 j hj
  exact ⟨g, off, cs, h5, h6.mono hb, fun i y hy => (hb.cell (lt_of_cell (h7 i y hy))).trans (h7 i y hy)⟩
theorem act_cells {w : World} {cs : List Value} {a : Act5} (h : ActAt w cs a) : ∃ c0 c1 c2 c3 c4 c5, cs = [c0, c1, c2, c3, c4, c5] := by
  obtain ⟨vb, vl, rfl, _, _⟩ := h
  exact ⟨_, _, _, _, _, _, rfl⟩

/-- A call of the program that leaves the pages as they are. -/
theorem Both.same {O : Nat → Prop} {w w' : World} {p q g : Nat} {s : St} {v : Value} (h : Both O w p q g s) (hs : PStep O w p s w' v) :
    ∃ O', Both O' w' p q g s ∧ OnlyS (fun b => O b ∨ b = g) w w' ∧ (∀ b, O' b → O b ∨ w.heap.size ≤ b) ∧ ∀ k, v.ownBlock = some k → ¬ O' k := by
  obtain ⟨O', hp, ho, hn, hv⟩ := hs
  have hq := lt_of_cell h.ref.top
  have hg := h.ref.lt
  refine ⟨O', ⟨hp, h.ref.onlyS ho h.nq h.ng, h.ok, fun hx => ?_, fun hx => ?_⟩, ho.mono (fun _ _ hx => .inl hx), hn, hv⟩
  · rcases hn q hx with hx | hx
    · exact h.nq hx
    · have : q < w.heap.size := hq
      omega
  · rcases hn g hx with hx | hx
    · exact h.ng hx
    · omega
/-- What changes others alone. -/
theorem Inv.apart {w w' w2 : World} {p q g n : Nat} {O X : Nat → Prop} {s : St} (h : Inv w w' p q g n O s) (ho : OnlyS X w' w2) (hx : ∀ b, X b → w.heap.size ≤ b ∧ ¬ O b ∧ b ≠ q ∧ b ≠ g) : Inv w w2 p q g n O s :=
  ⟨⟨h.both.prog.onlyS ho (fun b hb hb' => (hx b hb').2.1 hb), h.both.ref.onlyS ho (fun hq => (hx q hq).2.2.1 rfl) (fun hg => (hx g hg).2.2.2 rfl), h.both.ok, h.both.nq, h.both.ng⟩, h.len, h.own, h.q0, h.g0, h.below.trans (ho.below h.below.size (fun b hb => (hx b hb).1))⟩
/-- The block of bytes of one's own. -/
def InRow (v : Value) (n : Nat) (b : Nat) : Prop := 0 < n ∧ v.ownBlock = some b
theorem OwnP.row {base : Nat} {w : World} {v : Value} {l : List UInt8} (h : OwnP base w v l) : ∀ b, InRow v l.length b → base ≤ b ∧ b < w.heap.size := fun b hb => by
  obtain ⟨h0, h1⟩ := hb
  rcases h with ⟨rfl, rfl⟩ | ⟨g, off, cap, rfl, h2, h3, h4, h5, h6⟩
  · simp at h0
  · cases h1
    exact ⟨h2, lt_of_cell (h5 0 (bv (l[0]'h0)) (by rw [List.getElem?_map, List.getElem?_eq_getElem h0]; rfl))⟩

theorem OwnP.shape {base : Nat} {w : World} {v : Value} {l : List UInt8} (h : OwnP base w v l) : ∃ a cap, v = .slice a l.length cap ∧ l.length ≤ cap ∧ cap ≤ maxLen := by
  rcases h with ⟨rfl, rfl⟩ | ⟨g, off, cap, rfl, _, h2, h3, _⟩
  · exact ⟨none, 0, rfl, Nat.le_refl _, by simp [maxLen]⟩
  · exact ⟨_, cap, rfl, h2, h3⟩

theorem writesS_length : ∀ (ids : List Nat) (b : List UInt8) (s : St), (writesS ids b s).length = s.length
  | [], _, _ => rfl
  | id :: t, b, s => by
    unfold writesS
    rw [writesS_length, List.length_set]
theorem allocS_length (s : St) (n : Int) : (allocS s n).2.length = s.length := by
  unfold allocS
  split
  · rfl
  · split
    · rfl
    · exact takeS_length _ _ _
theorem freeS_length (s : St) (id : Int) : (freeS s id).2.length = s.length := by
  unfold freeS setS
  split
  · rfl
  · simp
theorem dropS_length : ∀ (ids : List Int) (s : St), (dropS s ids).length = s.length
  | [], _ => rfl
  | id :: t, s => by
    unfold dropS
    rw [dropS_length, freeS_length]
theorem actS_length (s : St) (a : Act5) : (actS s a).length = s.length := by
  unfold actS
  split
  · exact allocS_length _ _
  split
  · exact freeS_length _ _
  split
  · unfold writeS setS
    split
    · rfl
    · split
      · rfl
      · simp
  split
  · unfold flipS setS
    split
    · rfl
    · split
      · simp
      · rfl
  split
  · unfold putS
    split
    · simp only
      rw [writesS_length, allocS_length]
    · rfl
  split
  · rfl
  · exact dropS_length _ _

set_option maxRecDepth 100000 in
set_option maxHeartbeats 2000000 in
theorem pagesPlays_walk (most : Int) (u : Value) (ls : List Act5) (w : World) (hm : -9223372036854775808 ≤ most ∧ most ≤ 9223372036854775807) (hu : RdActs w u ls) (hf : ∀ a ∈ ls, a.fits) :
    Calls Try.prog 3 #[.int .i64 most, u] w fun e w' => e = .returned (.bool true) ∧ Below w.heap.size w w' := by
  have HU := Lib.hid hu
  have HFIT := Lib.hid hf
  clear hu hf
  go_enter Try.func3, Try.ntmps3
  go_wp2_with fail
  refine (shown5_any _).mono ?_
  rintro e w1 ⟨rfl, hx1⟩
  have HX1 := Lib.hid hx1
  clear hx1
  go_wp2_with fail
  refine (pNew_any most hm).mono ?_
  rintro e w2 hN
  unfold PNewed at hN
  rcases hN with ⟨hm0, hm1, p, O2, rfl, hp2, ho2, hx2⟩ | ⟨hbad, rfl, hx2⟩
  · obtain ⟨n, rfl⟩ := Int.eq_ofNat_of_zero_le hm0
    rw [Int.toNat_natCast] at hp2
    have HP2 := Lib.hid hp2
    have HO2 := Lib.hid ho2
    have HX2 := Lib.hid hx2
    clear hp2 ho2 hx2
    go_wp2_with fail
    refine (refNew_any n w2 hm.1 hm.2).mono ?_
    rintro e w3 hN
    unfold Newed at hN
    rcases hN with ⟨_, _, q, g, rfl, hq3, hg3, hr3, hx3⟩ | ⟨hbad, _, _⟩
    · rw [Int.toNat_natCast] at hr3
      have HINV := Lib.hid (show Inv w w3 p q g n O2 (List.replicate n none) from ⟨⟨HP2.out.onlyS (OnlyS.of_ext (X := fun _ => False) hx3) (fun _ _ h => h), hr3, ⟨by rw [List.length_replicate]; omega, fun x hx => by have := List.eq_of_mem_replicate hx; cases this⟩, fun h => by have := HP2.out.lt q h; omega, fun h => by have := HP2.out.lt g h; omega⟩, List.length_replicate, fun b hb => Nat.le_trans HX1.out.size (HO2.out b hb), by have := HX1.out.size; have := HX2.out.size; omega, by have := HX1.out.size; have := HX2.out.size; omega, Ext.trans HX1.out (Ext.trans HX2.out hx3)⟩)
      clear hq3 hg3 hr3 hx3
      go_wp2_with fail
      refine (pMost_any HINV.out.both.prog).mono ?_
      rintro e w4 ⟨rfl, hx4⟩
      have HI4 := Lib.hid (HINV.out.ext hx4)
      rw [List.length_replicate]
      clear hx4
      go_wp2_with fail
      refine (few5_any u ls w4 (HU.out.mono HI4.out.below)).mono ?_
      rintro e w5 ⟨m, ao, cap, rfl, rfl, hml, hm80, hsm, rfl⟩
      have HSM := Lib.hid hsm
      clear hsm
      go_wp2_with fail
      have hcap : m ≤ cap ∧ cap ≤ 9223372036854775807 := by
        obtain ⟨ao', cap', h1, h2, h3, _⟩ := HU.out
        simp only [Value.slice.injEq] at h1
        unfold maxLen at h3
        omega
      go_loopw [62] (fun i wr => ∃ (j : Nat) (O : Nat → Prop) (s : St), j ≤ m ∧ i = .int .i64 j ∧ Inv w wr p q g n O s) (fun i _ => m - (intOf i).toNat)
      case atStart => exact ⟨0, O2, _, Nat.zero_le _, rfl, HI4.out⟩
      case round =>
        obtain ⟨j, O, s, hj, rfl, hinv⟩ := hrel
        have HI := Lib.hid hinv
        clear hinv
        by_cases hlt : j < m
        · obtain ⟨ao', cap', h1, h2, h3, hat⟩ := HU.out
          simp only [Value.slice.injEq] at h1
          obtain ⟨rfl, -, rfl⟩ := h1
          have hjl : j < ls.length := by omega
          obtain ⟨gg, off, cs, rfl, hact, hcs⟩ := hat j hjl
          have hsmall := HSM.out j hjl hlt
          have hfit := HFIT.out ls[j] (List.getElem_mem hjl)
          generalize ls[j] = a at hact hsmall hfit
          obtain ⟨vb, vl, rfl, hrb, hrl⟩ := id hact
          obtain ⟨ab, cb, rfl, -, -⟩ := hrb.shape
          obtain ⟨al, cl, rfl, -, -, -⟩ := RdV.cellsAt hrl
          rw [List.length_map] at hact hcs
          clear hrb hrl
          generalize a.b.length = nb at hact hcs
          generalize a.l.length = nl at hact hcs
          have hk := fun i y hy => (HI.out.below.cell (lt_of_cell (hcs i y hy))).trans (hcs i y hy)
          have c0 := hk 0 _ rfl
          rw [Nat.add_zero] at c0
          have c1 := hk 1 _ rfl
          have c2 := hk 2 _ rfl
          have c3 := hk 3 _ rfl
          have c4 := hk 4 _ rfl
          have c5 := hk 5 _ rfl
          have HACT := Lib.hid hact
          have HSMA := Lib.hid hsmall
          have HFA := Lib.hid hfit
          clear hact hsmall hfit hat hcs hk h2 h3
          go_wp2_with fail
          have HIA := Lib.hid (HI.out.ext (ext_new wr (.cells #[.int .u8 a.k, .int .i64 a.at', .int .i64 a.n, .slice ab nb cb, .slice al nl cl, .int .u8 a.m.toNat] 36)))
          clear c0 c1 c2 c3 c4 c5
          refine (does_any O p q g s [.int .u8 a.k, .int .i64 a.at', .int .i64 a.n, .slice ab nb cb, .slice al nl cl, .int .u8 a.m.toNat] a w _ HIA.out.both HACT.out HFA.out HSMA.out HIA.out.below HIA.out.own HIA.out.g0).mono ?_
          rintro e w6 ⟨rfl, O6, hb6, ho6, hn6⟩
          have HI6 := Lib.hid (HIA.out.step hb6 (actS_length s a) ho6 hn6)
          clear hb6 ho6 hn6
          generalize actS s a = s6 at HI6
          go_wp2_with fail
          refine (pUsed_any HI6.out.both.prog).mono ?_
          rintro e w7 ⟨rfl, hx7⟩
          have HI7 := Lib.hid (HI6.out.ext hx7)
          clear hx7
          go_wp2_with fail
          refine (refUsed_any q g s6 w7 HI7.out.both.ref).mono ?_
          rintro e w8 ⟨rfl, rfl⟩
          go_wp2_with fail
          obtain ⟨M, hM, hM12⟩ : ∃ M : Int, (if (12 : Int) < (n : Int) then 12 else (n : Int)) = M ∧ M ≤ 12 := ⟨_, rfl, by split <;> omega⟩
          go_loopw [12] (fun i wz => ∃ (z : Int) (O : Nat → Prop), -1 ≤ z ∧ z ≤ 13 ∧ i = .int .i64 z ∧ Inv w wz p q g n O s6) (fun i _ => (13 - intOf i).toNat)
          case atStart => exact ⟨-1, O6, by decide, by decide, rfl, HI7.out⟩
          case round =>
            obtain ⟨z, Oz, hz0, hz1, rfl, hinv⟩ := hrel
            have HZ := Lib.hid hinv
            clear hinv
            by_cases hzm : z ≤ M
            · have hz12 : z ≤ 12 := by omega
              go_wp2_with fail
              refine (pRead_any z HZ.out.both.prog HZ.out.both.ok (by omega)).mono ?_
              rintro e wa ⟨va, rfl, howna, hsa⟩
              obtain ⟨Oa, hba, hoa, hna, hva⟩ := HZ.out.both.same hsa
              have HIa := Lib.hid (HZ.out.step hba rfl hoa hna)
              have HBz := Lib.hid (show wr.heap.size ≤ wa.heap.size from hoa.size)
              have HWa := Lib.hid howna
              have HVa := Lib.hid hva
              clear howna hsa hba hoa hna hva
              go_wp2_with fail
              refine (refRead_any q g s6 z wa HIa.out.both.ref HIa.out.both.ok (by omega) (by omega)).mono ?_
              rintro e wb ⟨rfl, hxb⟩
              have HIb := Lib.hid (HIa.out.ext hxb)
              have HWb := Lib.hid (HWa.out.onlyS (OnlyS.of_ext (X := fun _ => False) hxb) (fun _ _ h => h))
              have HSB := Lib.hid (show wa.heap.size ≤ wb.heap.size from hxb.size)
              clear hxb
              go_wp2_with fail
              refine (pRaw_any z HIb.out.both.prog HIb.out.both.ok (by omega)).mono ?_
              rintro e wc ⟨vc, rfl, hownc, hsc⟩
              obtain ⟨Oc, hbc, hoc, hnc, hvc⟩ := HIb.out.both.same hsc
              have HIc := Lib.hid (HIb.out.step hbc rfl hoc hnc)
              have HWc := Lib.hid hownc
              have HVc := Lib.hid hvc
              have HXa := Lib.hid (show ∀ k, va.ownBlock = some k → ¬ (Oa k ∨ k = g) from fun k hk hx => by
                rcases hx with hx | hx
                · exact HVa.out k hk hx
                · rcases HWa.out with ⟨h1, _⟩ | ⟨g', off', cap', h1, h2, _⟩
                  · rw [h1] at hk; cases hk
                  · rw [h1] at hk
                    cases hk
                    have h3 : g' = g := hx
                    have := HZ.out.both.ref.lt
                    omega)
              have HWa2 := Lib.hid (HWb.out.onlyS hoc HXa.out)
              clear hownc hsc hbc hoc hvc
              generalize readS s6 z = RR at HWa HWb HWa2 ⊢
              go_wp2_with fail
              refine (refRaw_any q g s6 z wc HIc.out.both.ref (by omega) (by omega)).mono ?_
              rintro e wd ⟨rfl, rfl⟩
              generalize rawS s6 z = WW at HWc ⊢
              obtain ⟨aa, capa, rfl, ha1, ha2⟩ := OwnP.shape HWa2.out
              obtain ⟨ac, capc, rfl, hc1, hc2⟩ := OwnP.shape HWc.out
              have hcva := HWa2.out.rd.string (P := Try.prog) 33 9 5 Try.underlying33 Try.underlying5 Try.underlying9
              have hcvc := HWc.out.rd.string (P := Try.prog) 33 9 5 Try.underlying33 Try.underlying5 Try.underlying9
              obtain ⟨Ra, Re⟩ := RR
              obtain ⟨Wa, We⟩ := WW
              simp only at *
              have HBa := Lib.hid (fun b hb => HWa.out.row b hb)
              have HBc := Lib.hid (fun b hb => HWc.out.row b hb)
              have HQa := Lib.hid (OwnQ.of_own HWa2.out)
              have HQc := Lib.hid (OwnQ.of_own HWc.out)
              have HNc := Lib.hid hnc
              have HGc := Lib.hid (show ∀ k, (Value.slice ac Wa.length capc).ownBlock = some k → wb.heap.size ≤ k from fun k hk => by
                rcases HWc.out with ⟨h, _⟩ | ⟨g', off', cap', h, h3, _⟩
                · rw [h] at hk; cases hk
                · rw [h] at hk
                  cases hk
                  exact h3)
              generalize Ra.length = La at hcva ha1 HBa HQa HVa ⊢
              generalize Wa.length = Lc at hcvc hc1 HBc HQc HVc HGc ⊢
              unfold maxLen at ha2 hc2
              clear hnc
              go_wp2_with fail
              go_loopw [21, 130] (fun _ i wy => ∃ k : Nat, k ≤ La ∧ i = .int .i64 k ∧ OwnQ wr.heap.size wy (.slice aa La capa) La ∧ OnlyS (InRow (.slice aa La capa) La) wc wy) (fun _ i _ => La - (intOf i).toNat)
              case atStart => exact ⟨0, Nat.zero_le _, rfl, HQa.out, OnlyS.refl _ _⟩
              case round =>
                obtain ⟨k, hk, rfl, hq, ho⟩ := hrel
                have HQ := Lib.hid hq
                have HO := Lib.hid ho
                clear hq ho
                by_cases hlt2 : k < La
                · obtain ⟨g1, off1, z1, rfl, hb1, hcz, hfz⟩ := HQ.out.at hlt2
                  have hin : InRow (.slice (some ⟨g1, off1, none⟩) La capa) La g1 := ⟨by omega, rfl⟩
                  clear hcva hcvc
                  go_wp2_with fail
                  go_roundw
                  case rel => exact ⟨k + 1, by omega, by go_num, HQ.out.put hlt2 _, HO.out.trans (OnlyS.of_onlyP (OnlyP.set g1 (off1 + k) _ _) hin) (fun _ _ h => h)⟩
                  case measure => simp [intOf]; omega
                · have HZQ := Lib.hid (lt_of_cell HZ.out.both.ref.top)
                  have HZG := Lib.hid HZ.out.both.ref.lt
                  have HZW := Lib.hid HZ.out.below.size
                  have HIx := Lib.hid (HIc.out.apart HO.out (fun b hb => by
                    have h1 := HBa.out b hb
                    have h2 := HSB.out
                    have h3 := HZQ.out
                    have h4 := HZG.out
                    have h5 := HZW.out
                    try simp only at h3
                    refine ⟨by omega, fun hx => ?_, by omega, by omega⟩
                    rcases HNc.out b hx with h | h
                    · exact HVa.out b hb.2 h
                    · omega))
                  have HQc2 := Lib.hid (HQc.out.onlyS HO.out (fun k hk hx => by
                    have h1 := HBa.out k hx
                    have h2 := HSB.out
                    have h4 := HGc.out k hk
                    omega))
                  clear hcva hcvc
                  go_wp2_with fail
                  go_loopw [22, 142] (fun _ i wy => ∃ k : Nat, k ≤ Lc ∧ i = .int .i64 k ∧ OwnQ wb.heap.size wy (.slice ac Lc capc) Lc ∧ OnlyS (InRow (.slice ac Lc capc) Lc) wr wy) (fun _ i _ => Lc - (intOf i).toNat)
                  case atStart => exact ⟨0, Nat.zero_le _, rfl, HQc2.out, OnlyS.refl _ _⟩
                  case round =>
                    obtain ⟨k', hk', rfl, hq, ho⟩ := hrel
                    have HQ2 := Lib.hid hq
                    have HO2' := Lib.hid ho
                    clear hq ho
                    by_cases hlt3 : k' < Lc
                    · obtain ⟨g1, off1, z1, rfl, hb1, hcz, hfz⟩ := HQ2.out.at hlt3
                      have hin : InRow (.slice (some ⟨g1, off1, none⟩) Lc capc) Lc g1 := ⟨by omega, rfl⟩
                      go_wp2_with fail
                      go_roundw
                      case rel => exact ⟨k' + 1, by omega, by go_num, HQ2.out.put hlt3 _, HO2'.out.trans (OnlyS.of_onlyP (OnlyP.set g1 (off1 + k') _ _) hin) (fun _ _ h => h)⟩
                      case measure => simp [intOf]; omega
                    · have HIy := Lib.hid (HIx.out.apart HO2'.out (fun b hb => by
                        have h1 := HBc.out b hb
                        have h2 := HSB.out
                        have h3 := HZQ.out
                        have h4 := HZG.out
                        have h5 := HZW.out
                        have h6 := HIa.out.below.size
                        have h7 := HBz.out
                        try simp only at h3
                        refine ⟨by omega, fun hx => HVc.out b hb.2 hx, by omega, by omega⟩))
                      go_wp2_with fail
                      go_roundw
                      case rel => exact ⟨z + 1, Oc, by omega, by omega, by go_num, HIy.out⟩
                      case measure => simp [intOf]; omega
            · go_wp2_with fail
              go_roundw
              case rel => exact ⟨j + 1, Oz, s6, by omega, by go_num, HZ.out⟩
              case measure => simp [intOf]; omega
        · go_wp2_with fail
          go_ret
          exact ⟨rfl, HI.out.below⟩
    · exact absurd ⟨hm0, hm1⟩ hbad
  · have HX2 := Lib.hid (Ext.trans HX1.out hx2)
    clear hx2
    go_wp2_with fail
    refine (refNew_any most w2 hm.1 hm.2).mono ?_
    rintro e w3 hN
    unfold Newed at hN
    rcases hN with ⟨h0, h1, _⟩ | ⟨_, rfl, hx3⟩
    · exact absurd ⟨h0, h1⟩ hbad
    · have HX3 := Lib.hid (Ext.trans HX2.out hx3)
      clear hx3
      go_wp2_with fail
      go_ret
      exact ⟨rfl, HX3.out⟩

end Go.Proofs.Ythelgjoobckbaaa
