/-
  The program's own runs: Take.
-/
import Derived.Test.YthjkfkajkbaegaaReadTk
import Derived.Test.YthjkfkajkbaegaaRunsTake
import Derived.Test.YthjkfkajkbaegaaRunsP6
namespace Go.Proofs.Ythjkfkajkbaegaa
open Go.RowKit Go.BigFrame

/-- Where the reading stands: what was read is what the bytes begin with. -/
def ReadInv (b : List UInt8) (n : Nat) (rest : List UInt8) (bad : Bool) (x : List Sp) : Prop := bad = false → b = enc (x.length + n) ++ (encR x ++ rest) ∧ x.length + n < 2 ^ 64
theorem read_start (b : List UInt8) : ReadInv b (tk b).1 (tk b).2.1 (tk b).2.2 [] := fun h => by
  obtain ⟨h1, h2⟩ := tk_sound h
  exact ⟨by rw [List.length_nil, Nat.zero_add]; exact h1, by simpa using h2⟩
theorem read_step {b : List UInt8} {n : Nat} {rest : List UInt8} {bad : Bool} {x : List Sp} (hb : bad = false) (h : ReadInv b (n + 1) rest bad x) :
    ReadInv b n (tk (tk rest).2.1).2.1 (tk (tk rest).2.1).2.2 (x ++ [⟨zag (tk rest).1, ((tk (tk rest).2.1).1 : Int)⟩]) := fun h2 => by
  have h1 : (tk rest).2.2 = false := by
    cases hq : (tk rest).2.2 with
    | false => rfl
    | true =>
      rw [tk_bad hq] at h2
      exact absurd h2 (by decide)
  obtain ⟨e1, e2⟩ := h hb
  obtain ⟨e3, e4⟩ := tk_sound h1
  obtain ⟨e5, e6⟩ := tk_sound h2
  refine ⟨?_, by rw [List.length_append, List.length_singleton]; omega⟩
  have e7 : encR (x ++ [⟨zag (tk rest).1, ((tk (tk rest).2.1).1 : Int)⟩]) = encR x ++ (enc (tk rest).1 ++ enc (tk (tk rest).2.1).1) := by
    unfold encR
    rw [List.flatMap_append]
    simp only [List.flatMap_cons, List.flatMap_nil, List.append_nil, Int.toNat_natCast]
    rw [zig_zag e4]
  rw [List.length_append, List.length_singleton, Nat.add_assoc, Nat.add_comm 1 n, e7, List.append_assoc, List.append_assoc, ← e5, ← e3]
  exact e1
theorem read_put {b : List UInt8} {rest : List UInt8} {x : List Sp} (h : ReadInv b 0 rest false x) (hr : rest.length = 0) (hf : ∀ s ∈ x, -9223372036854775808 ≤ s.f ∧ s.f ≤ 9223372036854775807) (hx : rightR x = true) : IsPut b (flat x) := by
  obtain ⟨hg, hs, ha⟩ := (rightR_iff x).1 hx
  have hl := flat_length hg
  refine ⟨fun z hz => ?_, by omega, ?_⟩
  · obtain ⟨s, hs, hzs⟩ := List.mem_flatMap.1 hz
    rw [(List.mem_replicate.1 hzs).2]
    exact hf s hs
  · have e := (h rfl).1
    rw [List.length_eq_zero_iff.1 hr, List.append_nil, Nat.add_zero] at e
    unfold putR
    rw [ofR_flat _ x rfl hg ha]
    exact e.symm
theorem take_all {b : List UInt8} {n : Nat} {rest : List UInt8} {bad : Bool} {x : List Sp} (h : TakeInv b n rest bad x) (hn : n = 0 ∨ bad = true) {l : List Int} (hl : IsPut b l) : bad = false ∧ rest.length = 0 ∧ x = ofR l := by
  obtain ⟨e1, e2, _, _⟩ := take_end h hn hl
  obtain ⟨h1, h2, h3, h4⟩ := h l hl
  have hn0 : n = 0 := by
    rcases hn with h | h
    · exact h
    · rw [h1] at h; cases h
  exact ⟨e1, e2, by rw [h2, List.take_of_length_le (by omega)]⟩

/-- What reading answers. -/
structure Reads9 (b : List UInt8) (x : List Sp) (er : Int) : Prop where
  ok : er = 0 ∨ er = 6
  fits : ∀ s ∈ x, s.fits
  yes : ∀ l, IsPut b l → er = 0 ∧ x = ofR l
  put : er = 0 → rightR x = true → IsPut b (flat x)
theorem Reads9.no {b : List UInt8} (h : ¬ ∃ l, IsPut b l) : Reads9 b [] 6 := ⟨.inr rfl, fun s hs => by (cases hs), fun l hl => absurd ⟨l, hl⟩ h, fun h => absurd h (by decide)⟩

set_option maxRecDepth 100000 in
set_option maxHeartbeats 4000000 in
theorem read9_any (u : Value) (b : List UInt8) (w : World) (hu : Rd w u b) (hb : b.length ≤ 8000000) :
    Calls Try.prog 32 #[u] w fun e w' => ∃ x er v, e = .returned (.tuple #[v, .int .i64 er]) ∧ RdSp w' v x ∧ Ext w w' ∧ Reads9 b x er := by
  have HU := Lib.hid hu
  have HB := Lib.hid hb
  obtain ⟨N, hN⟩ : ∃ N, b.length = N := ⟨_, rfl⟩
  have HN := Lib.hid hN
  rw [hN] at hb
  clear hu hN
  go_enter Try.func32, Try.ntmps32
  go_wp2_with fail
  refine (New_anyP u b w HU.out (by have := HB.out; omega)).mono ?_
  rintro e w1 ⟨g, rfl, hg0, hg1, hr1, hx1⟩
  have HR1 := Lib.hid hr1
  have HX1 := Lib.hid (show Ext w w1 from hx1)
  have HG := Lib.hid (show w.heap.size ≤ g ∧ g < w1.heap.size from ⟨hg0, hg1⟩)
  clear hr1 hx1 hg0 hg1
  have HBE := Lib.hid (fun (W W' : World) (h : Ext w W) (ho : Only g W W') => (show Ext w W' from Below.trans h (only_belowR ho h.size HG.out.1)))
  have HP := Lib.hid (show ∀ k, (fun k => w.heap.size ≤ k ∧ k < g) k → k < w1.heap.size from fun k hk => by have h2 : k < g := hk.2; have := HG.out.2; omega)
  generalize (fun k => w.heap.size ≤ k ∧ k < g) = P at HR1 HP
  go_wp2_with fail
  refine (RNum_tk P g b false w1 (fun h => by cases h) HR1.out).mono ?_
  rintro e w2 ⟨rfl, hr2, ho2⟩
  have HR2 := Lib.hid hr2
  have HX2 := Lib.hid (HBE.out _ _ HX1.out ho2)
  have HS2 := Lib.hid (show w1.heap.size ≤ w2.heap.size from ho2.size)
  have HI2 := Lib.hid (take_start b)
  have HJ2 := Lib.hid (read_start b)
  have HB2 := Lib.hid (show (tk b).2.2 = true → (tk b).2.1 = [] from fun h => by rw [tk_bad h])
  have HL2 := Lib.hid (show (tk b).2.1.length ≤ N by have := (tk_len b).1; have := HN.out; omega)
  have hn64 := tk_lt b
  obtain ⟨n0, r0, bad0, ht⟩ : ∃ n r bad, tk b = (n, r, bad) := ⟨_, _, _, rfl⟩
  rw [ht] at HR2 HI2 HB2 HL2 hn64 HJ2 ⊢
  simp only at HR2 HI2 HB2 HL2 hn64 HJ2 ⊢
  clear hr2 ho2 ht
  go_wp2_with fail
  go_loopw [5, 6, 7, 8] (fun v nv _ _ wr => ∃ (n : Nat) (rest : List UInt8) (bad : Bool) (x : List Sp), nv = .int .u64 n ∧ n < 2 ^ 64 ∧ RdO P wr g rest bad ∧ (bad = true → rest = []) ∧ wr.ownsRow w1.heap.size 45 2 v x.length (x.flatMap Sp.cells) ∧ TakeInv b n rest bad x ∧ ReadInv b n rest bad x ∧ (∀ s ∈ x, (-9223372036854775808 ≤ s.f ∧ s.f ≤ 9223372036854775807) ∧ 0 ≤ s.t ∧ s.t ≤ 4096) ∧ x.length + rest.length ≤ N + 1 ∧ (bad = false → x.length + rest.length ≤ N) ∧ w1.heap.size ≤ wr.heap.size ∧ Ext w wr) (fun _ nv _ _ _ => (intOf nv).toNat)
  case atStart => exact ⟨n0, r0, bad0, [], rfl, hn64, HR2.out, HB2.out, owns_nil _ _ _ _, HI2.out, HJ2.out, fun s hs => (by cases hs), by have := HL2.out; simp; omega, fun _ => by have := HL2.out; simp; omega, HS2.out, HX2.out⟩
  case round =>
    obtain ⟨n, rest, bad, x, rfl, hn, hrr, hbl, hown, hinv, hrin, hxf, hl1, hl2, hsz, hext⟩ := hrel
    have HRR := Lib.hid hrr
    have HBL := Lib.hid hbl
    have HO := Lib.hid hown
    have HINV := Lib.hid hinv
    have HRIN := Lib.hid hrin
    have HXF := Lib.hid hxf
    have HSZ := Lib.hid hsz
    have HX := Lib.hid hext
    have HL1 := Lib.hid hl1
    have HL2 := Lib.hid hl2
    have HOL := Lib.hid hown.lt
    obtain ⟨sa, sc, rfl, hs1, hs2⟩ := own_shapeN hown
    have HFITS := Lib.hid (show ∀ s ∈ x, s.fits from fun s hs => ⟨(hxf s hs).1, by have := (hxf s hs).2; omega⟩)
    clear hrr hbl hown hinv hrin hxf hext hl1 hl2
    by_cases hgo : n ≠ 0 ∧ bad = false
    · obtain ⟨hn0, rfl⟩ := hgo
      obtain ⟨m, rfl⟩ : ∃ m, n = m + 1 := ⟨n - 1, by omega⟩
      clear hn0
      go_wp2_with fail
      refine (Bad_anyP P g rest false wr HRR.out).mono ?_
      rintro e w3 ⟨rfl, rfl⟩
      go_wp2_with fail
      refine (RInt_tk P g rest false wr (fun h => by cases h) HRR.out).mono ?_
      rintro e w3 ⟨rfl, hr3, ho3⟩
      have HR3 := Lib.hid hr3
      have HX3 := Lib.hid (HBE.out _ _ HX.out ho3)
      have HO3 := Lib.hid (HO.out.kept ho3 (by
        cases hk : (Value.slice sa x.length sc).ownBlock with
        | none => exact .inl rfl
        | some k => exact .inr (fun e => by have h1 := (HOL.out k hk).1; cases e; have h2 := HG.out.2; omega)))
      have HS3 := Lib.hid (show wr.heap.size ≤ w3.heap.size from ho3.size)
      have HB3 := Lib.hid (show (tk rest).2.2 = true → (tk rest).2.1 = [] from fun h => by rw [tk_bad h])
      clear hr3 ho3
      go_wp2_with fail
      refine (RNum_tk P g (tk rest).2.1 (tk rest).2.2 w3 HB3.out HR3.out).mono ?_
      rintro e w4 ⟨rfl, hr4, ho4⟩
      have HR4 := Lib.hid hr4
      have HX4 := Lib.hid (HBE.out _ _ HX3.out ho4)
      have HO4 := Lib.hid (HO3.out.kept ho4 (by
        cases hk : (Value.slice sa x.length sc).ownBlock with
        | none => exact .inl rfl
        | some k => exact .inr (fun e => by have h1 := (HOL.out k hk).1; cases e; have h2 := HG.out.2; omega)))
      have HS4 := Lib.hid (show w1.heap.size ≤ w4.heap.size by have := ho4.size; have := HS3.out; omega)
      have hm64 := tk_lt (tk rest).2.1
      have HSTEP := Lib.hid (take_step HINV.out)
      have HRST := Lib.hid (read_step rfl HRIN.out)
      have HMANY := Lib.hid (fun h => take_many HINV.out h)
      have HZ := Lib.hid (tk_zag_fits (tk_lt rest))
      have HB4 := Lib.hid (show (tk (tk rest).2.1).2.2 = true → (tk (tk rest).2.1).2.1 = [] from fun h => by rw [tk_bad h])
      have HLL := Lib.hid (show (x.length + 1) + (tk (tk rest).2.1).2.1.length ≤ N + 1 ∧ ((tk (tk rest).2.1).2.2 = false → (x.length + 1) + (tk (tk rest).2.1).2.1.length ≤ N) from by
        have h1 := HL2.out (by trivial)
        have h2 := (tk_len rest).1
        have h3 := tk_len (tk rest).2.1
        exact ⟨by omega, fun h => by have := h3.2 h; omega⟩)
      generalize zag (tk rest).1 = F at HSTEP HRST HZ ⊢
      generalize tk (tk rest).2.1 = T2 at HR4 hm64 HSTEP HRST HMANY HB4 HLL ⊢
      obtain ⟨M, r2, bad2⟩ := T2
      simp only at HR4 hm64 HSTEP HRST HMANY HB4 HLL ⊢
      clear hr4 ho4
      have HXL := Lib.hid (show x.length ≤ 10000000 by have := HL1.out; omega)
      by_cases hbig : 4096 < M
      · have HNO := Lib.hid (HMANY.out hbig)
        go_wp2_with fail
        go_ret2
        exact ⟨[], 6, _, rfl, RdSp.nil _, HX4.out, Reads9.no HNO.out⟩
      · go_wp2_with (at_builtin; go_must (refine wpList_append_run rfl (.tmp 28) (.tmp 33) rfl w1.heap.size _ x ⟨F, (M : Int)⟩ rfl HO4.out rfl (by have := HXL.out; omega) HS4.out ?_); intro v6 w6 hown6 hb6; have HO6 := Lib.hid hown6; have HB6 := Lib.hid hb6; clear hown6 hb6)
        go_roundw
        case rel =>
          refine ⟨m, r2, bad2, x ++ [⟨F, (M : Int)⟩], by go_num, by omega, RdrP.below HR4.out HB6.out (by have := HG.out; omega) HP.out, HB4.out, HO6.out, HSTEP.out, HRST.out, fun s hs => ?_, ?_, ?_, by have := HB6.out.size; have := HS4.out; omega, ?_⟩
          · rcases List.mem_append.1 hs with hs | hs
            · exact HXF.out s hs
            · rw [List.mem_singleton.1 hs]
              exact ⟨HZ.out, by simp only; omega, by simp only; omega⟩
          · rw [List.length_append, List.length_singleton]; exact HLL.out.1
          · intro h; rw [List.length_append, List.length_singleton]; exact HLL.out.2 h
          · exact Below.trans HX4.out (HB6.out.mono (show w.heap.size ≤ w1.heap.size by have := HG.out; omega))
        case measure => simp [intOf]; try omega
    · have HEN := Lib.hid (show n = 0 ∨ bad = true by
        cases bad with
        | true => exact .inr rfl
        | false => exact .inl (Classical.byContradiction fun h => hgo ⟨h, rfl⟩))
      have HALL := Lib.hid (fun l (hl : IsPut b l) => take_all HINV.out HEN.out hl)
      have HRD := Lib.hid (show RdSp wr (.slice sa x.length sc) x from (OwnSp.of_owns HO.out).rd)
      have HEND := Lib.hid (End_tk P g rest bad wr HRR.out)
      by_cases hfin : bad = false ∧ rest.length = 0
      · obtain ⟨rfl, hr0⟩ := hfin
        rw [if_pos ⟨rfl, hr0⟩] at HEND
        have hn0 : n = 0 := Classical.byContradiction fun h => hgo ⟨h, rfl⟩
        subst hn0
        have HREADS := Lib.hid (show Reads9 b x 0 from ⟨.inl rfl, HFITS.out, fun l hl => ⟨rfl, (HALL.out l hl).2.2⟩, fun _ hx => read_put HRIN.out hr0 (fun s hs => (HXF.out s hs).1) hx⟩)
        clear hgo hr0
        go_wp2_with fail
        refine HEND.out.mono ?_
        rintro e w3 ⟨rfl, rfl⟩
        go_wp2_with fail
        go_ret2
        exact ⟨x, 0, _, rfl, HRD.out, HX.out, HREADS.out⟩
      · rw [if_neg hfin] at HEND
        have HREADS := Lib.hid (show Reads9 b x 6 from ⟨.inr rfl, HFITS.out, fun l hl => absurd ⟨(HALL.out l hl).1, (HALL.out l hl).2.1⟩ hfin, fun h => absurd h (by decide)⟩)
        clear hfin
        by_cases hn0 : n = 0
        · subst hn0
          clear hgo
          go_wp2_with fail
          refine HEND.out.mono ?_
          rintro e w3 ⟨rfl, rfl⟩
          go_wp2_with fail
          go_ret2
          exact ⟨x, 6, _, rfl, HRD.out, HX.out, HREADS.out⟩
        · have hbad : bad = true := by rcases HEN.out with h | h; exact absurd h hn0; exact h
          subst hbad
          obtain ⟨m, rfl⟩ : ∃ m, n = m + 1 := ⟨n - 1, by omega⟩
          clear hgo hn0
          go_wp2_with fail
          refine (Bad_anyP P g rest true wr HRR.out).mono ?_
          rintro e w3 ⟨rfl, rfl⟩
          go_wp2_with fail
          refine HEND.out.mono ?_
          rintro e w3 ⟨rfl, rfl⟩
          go_wp2_with fail
          go_ret2
          exact ⟨x, 6, _, rfl, HRD.out, HX.out, HREADS.out⟩

set_option maxRecDepth 100000 in
set_option maxHeartbeats 1000000 in
theorem pTake9_any (u : Value) (b : List UInt8) (w : World) (hu : Rd w u b) (hb : b.length ≤ 8000000) :
    Calls Try.prog 23 #[u] w fun e w' => AnsI w (takeS9 b) e w' := by
  have HREAD := Lib.hid (read9_any u b w hu hb)
  clear hu
  go_enter Try.func23, Try.ntmps23
  go_wp2_with fail
  refine HREAD.out.mono ?_
  rintro e w1 ⟨x, er, v, rfl, hrd, hx1, hr⟩
  have HX1 := Lib.hid hx1
  have HR := Lib.hid hr
  have HRD := Lib.hid hrd
  obtain ⟨sa, sc, rfl, hs1, hs2⟩ := hrd.shape
  have HRT := Lib.hid (rightRd9_any _ x w1 hrd hr.fits)
  have hok := hr.ok
  clear hx1 hr hrd
  rcases hok with rfl | rfl
  · cases hrx : rightR x with
    | true =>
      rw [hrx] at HRT
      have HPUT := Lib.hid (HR.out.put rfl hrx)
      have HYES := Lib.hid (show takeS9 b = flatS x from by
        rw [take_yes HPUT.out]
        obtain ⟨hg, hs, _⟩ := (rightR_iff x).1 hrx
        rw [flatS_ok hg hs])
      clear hrx
      go_wp2_with fail
      refine HRT.out.mono ?_
      rintro e w2 ⟨rfl, hx2⟩
      have HX2 := Lib.hid (Ext.trans HX1.out hx2)
      have HRD2 := Lib.hid (HRD.out.mono hx2)
      clear hx2
      go_wp2_with fail
      refine (flatRd9_any _ x w2 HRD2.out HR.out.fits).mono ?_
      rintro e w3 ⟨v3, rfl, ho3, hx3⟩
      have HX3 := Lib.hid (Ext.trans HX2.out hx3)
      have HO3 := Lib.hid ho3
      generalize flatS x = fs at HYES HO3 ⊢
      obtain ⟨f1, f2⟩ := fs
      clear ho3 hx3
      go_wp2_with fail
      go_ret2
      exact ⟨_, by rw [HYES.out]; rfl, by rw [HYES.out]; exact owns_base HO3.out HX2.out.size, HX3.out⟩
    | false =>
      rw [hrx] at HRT
      have HNO := Lib.hid (show takeS9 b = ([], 6) from take_no (fun ⟨l, hl⟩ => by
        have h := (HR.out.yes l hl).2
        rw [h] at hrx
        have h2 := (rightR_iff (ofR l)).2 ⟨good_ofR l, by rw [sumR_ofR]; have := hl.2.1; omega, adj_ofR l⟩
        rw [hrx] at h2
        cases h2))
      clear hrx
      go_wp2_with fail
      refine HRT.out.mono ?_
      rintro e w2 ⟨rfl, hx2⟩
      have HX2 := Lib.hid (Ext.trans HX1.out hx2)
      clear hx2
      go_wp2_with fail
      go_ret2
      exact ⟨_, by rw [HNO.out]; rfl, by rw [HNO.out]; exact owns_nil _ _ _ _, HX2.out⟩
  · have HNO := Lib.hid (show takeS9 b = ([], 6) from take_no (fun ⟨l, hl⟩ => absurd (HR.out.yes l hl).1 (by decide)))
    go_wp2_with fail
    go_ret2
    exact ⟨_, by rw [HNO.out]; rfl, by rw [HNO.out]; exact owns_nil _ _ _ _, HX1.out⟩

end Go.Proofs.Ythjkfkajkbaegaa
