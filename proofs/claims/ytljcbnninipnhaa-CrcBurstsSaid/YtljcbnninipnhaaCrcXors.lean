/-
  The walk of the law CrcXors.
-/
import Derived.Test.YtljcbnninipnhaaCrcShown
import Derived.BigQuiet
import Derived.Lib.Strings
namespace Go.Proofs.Ytljcbnninipnhaa
open Go.RowKit Go.BigFrame

/-- Worlds whose blocks below B stay. -/
theorem Below.keeps (B : Nat) : Keeps (Below B) := ⟨fun _ => Below.refl _ _, fun _ _ _ h k => Below.trans h k⟩
instance (B : Nat) (w : World) : Inhabited (Later (Below B) w) := ⟨⟨w, Below.refl _ _⟩⟩

/-- The first of a slice's bytes. -/
theorem Rd.cut {w : World} {ao : Option Addr} {L cap n : Nat} {l : List UInt8} (h : Rd w (.slice ao L cap) l) (hL : L = l.length) (hn : n ≤ L) : Rd w (.slice ao n cap) (l.take n) := by
  rcases h with ⟨h0, h1⟩ | ⟨x, cap', h0, h2, h3, h4⟩
  · simp only [Value.slice.injEq] at h0
    obtain ⟨rfl, h0, rfl⟩ := h0
    have e1 : n = 0 := by omega
    have e2 : l = [] := by simpa using h1
    rw [e1, e2]
    exact Rd.nil _
  · simp only [Value.slice.injEq] at h0
    obtain ⟨rfl, _, rfl⟩ := h0
    have := RdV.takes h2 h3 h4 n n (by rw [List.length_map]; omega)
    rwa [← List.map_take] at this

theorem u8_xor (a b : UInt8) : bits BinOp.xor IntKind.u8 (a.toNat : Int) (b.toNat : Int) = (((a ^^^ b).toNat : Nat) : Int) := by
  have h : a.toNat ^^^ b.toNat < 2 ^ 8 := Nat.xor_lt_two_pow a.toNat_lt b.toNat_lt
  have ha' : a.toNat % 2 ^ IntKind.u8.bits = a.toNat := Nat.mod_eq_of_lt a.toNat_lt
  have hb' : b.toNat % 2 ^ IntKind.u8.bits = b.toNat := Nat.mod_eq_of_lt b.toNat_lt
  rw [UInt8.toNat_xor]
  simp only [bits, BitVec.ofInt_natCast, BitVec.toNat_xor, BitVec.toNat_ofNat, ha', hb']
  exact wraps_u8 _ (by omega) (by omega)

set_option maxRecDepth 100000 in
set_option maxHeartbeats 1000000 in
theorem crcXors_cells (ao bo : Option Addr) (l m : List UInt8) (L M capA capB : Nat) (w : World) (hL : L = l.length) (hM : M = m.length) (_hA : L ≤ capA) (_hA2 : capA ≤ 9223372036854775807) (_hB : M ≤ capB) (_hB2 : capB ≤ 9223372036854775807)
    (hr : Rd w (.slice ao L capA) l) (hu : Rd w (.slice bo M capB) m)
    (ca : ∀ i u, (l.map bv)[i]? = some u → ∃ x, ao = some x ∧ w.cell? (x.add i) = some u) (cb : ∀ i u, (m.map bv)[i]? = some u → ∃ x, bo = some x ∧ w.cell? (x.add i) = some u) :
    Calls Try.prog 8 #[.slice ao L capA, .slice bo M capB] w fun e w' => e = .returned (.bool true) ∧ Below w.heap.size w w' := by
  obtain ⟨i0, hi, hz0, hz1, hz2⟩ := info_parts Try.info5
  have HR := Lib.hid hr
  have HU := Lib.hid hu
  have CA := Lib.hid ca
  have CB := Lib.hid cb
  have HL := Lib.hid hL
  have HM := Lib.hid hM
  have hsl : ∀ a h m s, sliced a 0 h m s = .slice a h m := fun a h m s => by
    unfold sliced
    cases a <;> simp [add_zero]
  have HF := Lib.hid (few_any (.slice ao L capA) l)
  have HG := Lib.hid (few_any (.slice bo M capB) m)
  obtain ⟨N, hN⟩ : ∃ N : Nat, N = min (l.take 5000).length (m.take 5000).length := ⟨_, rfl⟩
  have hN5 : N ≤ 5000 := by rw [hN, List.length_take]; omega
  have hNL : N ≤ L := by rw [hN, List.length_take]; omega
  have hNM : N ≤ M := by rw [hN, List.length_take, List.length_take]; omega
  generalize l.take 5000 = x at HF hN
  generalize m.take 5000 = y at HG hN
  have HN := Lib.hid (show min (x.length : Int) (y.length : Int) = (N : Int) by omega)
  clear hr hu ca cb hL hM hN
  go_enter Try.func8, Try.ntmps8
  go_wp2_with fail
  refine (shown_any _).mono ?_
  rintro e w1 ⟨rfl, hb1⟩
  have H1 := Lib.hid (show Ext w w1 from hb1)
  clear hb1
  go_wp2_with fail
  refine (HF.out _ (HR.out.mono H1.out)).mono ?_
  rintro e w' ⟨⟨xv, rfl, hrx⟩, rfl⟩
  obtain ⟨a1, cap1, rfl, _, _⟩ := hrx.shape
  clear hrx
  go_wp2_with fail
  refine (HG.out _ (HU.out.mono H1.out)).mono ?_
  rintro e w' ⟨⟨yv, rfl, hry⟩, rfl⟩
  obtain ⟨a2, cap2, rfl, _, _⟩ := hry.shape
  clear hry
  go_wp2_with (at_make; go_loud (refine wpList_make_full _ rfl (.tmp 17) (.tmp 17) 23 rfl w1.heap.size 5 i0 (.int .u8 0) 1 Try.underlying23 hi hz0 hz1 .i64 .i64 _ _ N rfl rfl (by have := HN.out; omega) (by have := HN.out; omega) (by rw [hz2]; omega) (by unfold maxLen; omega) (Nat.le_refl _) ?_); intro w2 hown2 hgrow2)
  all_goals (
    have HB2 := Lib.hid (show Below w1.heap.size w1 w2 from (Below.refl _ w1).grown hgrow2 (Nat.le_refl _) (fun k hk => by cases hk))
    have HS0 := Lib.hid (show ∃ xs : List Value, w2.ownsRow w1.heap.size 5 1 (.slice (some ⟨w1.heap.size, 0, none⟩) N N) N xs ∧ ∀ j, j < 0 → ∃ c d, l[j]? = some c ∧ m[j]? = some d ∧ xs[j]? = some (bv (c ^^^ d)) from ⟨_, hown2, fun j h => absurd h (Nat.not_lt_zero _)⟩)
    clear hown2 hgrow2
    go_wp2_with fail
    first
      | rw [show ((y.length : Nat) : Int) = (N : Int) by have := HN.out; omega]
      | rw [show ((x.length : Nat) : Int) = (N : Int) by have := HN.out; omega]
    go_loopw [21] (fun i wr => ∃ k : Nat, k ≤ N ∧ i = .int .i64 k ∧ (∃ xs : List Value, wr.ownsRow w1.heap.size 5 1 (.slice (some ⟨w1.heap.size, 0, none⟩) N N) N xs ∧ ∀ j, j < k → ∃ c d, l[j]? = some c ∧ m[j]? = some d ∧ xs[j]? = some (bv (c ^^^ d))) ∧ Below w1.heap.size w1 wr) (fun i _ => N - (intOf i).toNat)
    case atStart => exact ⟨0, Nat.zero_le _, rfl, HS0.out, HB2.out⟩
    case round =>
      obtain ⟨k, hk, rfl, hxs, hbe⟩ := hrel
      have HXS := Lib.hid hxs
      have HBE := Lib.hid hbe
      clear hxs hbe
      by_cases hlt : k < N
      · have hkl : k < l.length := by have := HL.out; omega
        have hkm : k < m.length := by have := HM.out; omega
        obtain ⟨xs, hox, hxj⟩ := HXS.out
        have hlen : xs.length = N := by simpa using hox.1
        have hold := hox.cellAt k (by omega)
        rw [List.getElem?_eq_getElem (by omega)] at hold
        have hfz := hox.frozenAt k
        have HOX := Lib.hid hox
        have HXJ := Lib.hid hxj
        obtain ⟨pa, hpa, hca⟩ := CA.out k (bv l[k]) (by rw [List.getElem?_map, List.getElem?_eq_getElem hkl]; rfl)
        obtain ⟨pb, hpb, hcb⟩ := CB.out k (bv m[k]) (by rw [List.getElem?_map, List.getElem?_eq_getElem hkm]; rfl)
        subst hpa
        subst hpb
        have HX8 := Lib.hid (u8_xor l[k] m[k])
        have HLK := Lib.hid (List.getElem?_eq_getElem hkl)
        have HMK := Lib.hid (List.getElem?_eq_getElem hkm)
        have hBz : ∀ z : Later (Below w1.heap.size) wr.drew, Below w.heap.size w z.val := fun z => Below.trans (Ext.trans H1.out HBE.out) (Below.mono ((Below.refl _ wr).drew.trans z.ext) H1.out.size)
        have hcaz : ∀ z : Later (Below w1.heap.size) wr.drew, z.val.cell? (pa.add k) = some (bv l[k]) := fun z => by rw [(hBz z).cell (p := pa.add k) (lt_of_cell hca)]; exact hca
        have hcbz : ∀ z : Later (Below w1.heap.size) wr.drew, z.val.cell? (pb.add k) = some (bv m[k]) := fun z => by rw [(hBz z).cell (p := pb.add k) (lt_of_cell hcb)]; exact hcb
        clear hox hxj hca hcb hBz
        unfold bv at hcaz hcbz
        generalize hC : l[k] = C at hcaz HX8 HLK
        generalize hD : m[k] = D at hcbz HX8 HMK
        generalize C.toNat = c at hcaz HX8
        generalize D.toNat = d at hcbz HX8
        clear hC hD
        go_wp2_with fail
        refine wp_region_segs (Below w1.heap.size) (Below.keeps _) [([0, 1, 2, 3, 4, 5, 6, 7, 8, 9, 10, 11], some 12)] (by kernel_rfl) (by kernel_rfl) (fun c a a' w e h => (by exact ⟨e ▸ h.1, h.2⟩)) ?_
        simp only [pickSegs, pickOps, List.map_cons, List.map_nil, Option.map_some, Option.getD_some, List.getElem?_toArray, List.getElem?_cons_zero, List.getElem?_cons_succ]
        refine wpSegs_some fun K hK => ?_
        repeat go_big_quiet_step (fail)
        refine wpQuiet_nil ?_
        clear hcaz hcbz
        go_wp2_with fail
        have HPUT := Lib.hid (show (wr.setCell ⟨w1.heap.size, k, none⟩ (.int .u8 (bits BinOp.xor IntKind.u8 (c : Int) (d : Int)))).ownsRow w1.heap.size 5 1 (.slice (some ⟨w1.heap.size, 0, none⟩) N N) N (xs.set k (bv (C ^^^ D))) by rw [HX8.out]; exact (HOX.out.stored k _).1)
        have HBP := Lib.hid (show Below w1.heap.size wr (wr.setCell ⟨w1.heap.size, k, none⟩ (.int .u8 (bits BinOp.xor IntKind.u8 (c : Int) (d : Int)))) from (Below.refl w1.heap.size wr).setCell (p := ⟨w1.heap.size, k, none⟩) (Nat.le_refl w1.heap.size) _)
        refine ⟨⟨HBP.out.os, HBP.out.tape, HBP.out.output, HBP.out.size, HBP.out.block⟩, hK _ _ ?_⟩
        clear hK K
        refine wpSegs_nil ?_
        go_wp2_with fail
        go_roundw
        case rel =>
          refine ⟨k + 1, by omega, by go_num, ⟨_, HPUT.out, fun j hj => ?_⟩, HBE.out.trans HBP.out.drew⟩
          by_cases hjk : j = k
          · subst hjk
            exact ⟨C, D, HLK.out, HMK.out, by rw [List.getElem?_set_self (by omega)]⟩
          · obtain ⟨c', d', h1, h2, h3⟩ := HXJ.out j (by omega)
            exact ⟨c', d', h1, h2, by rw [List.getElem?_set_ne (fun e => hjk e.symm)]; exact h3⟩
        case measure => simp [intOf]; omega
      · have hkN : k = N := by omega
        subst hkN
        obtain ⟨xs, hox, hxj⟩ := HXS.out
        have hlen : xs.length = k := by simpa using hox.1
        have hnl : k ≤ l.length := by have := HL.out; omega
        have hnm : k ≤ m.length := by have := HM.out; omega
        have hxs : xs = (List.zipWith (· ^^^ ·) (l.take k) (m.take k)).map bv := by
          refine List.ext_getElem? fun j => ?_
          by_cases hj : j < k
          · obtain ⟨c, d, h1, h2, h3⟩ := hxj j hj
            rw [h3, List.getElem?_map, List.getElem?_zipWith, List.getElem?_take_of_lt hj, List.getElem?_take_of_lt hj, h1, h2]
            rfl
          · rw [List.getElem?_eq_none (by omega), List.getElem?_eq_none (by rw [List.length_map, List.length_zipWith, List.length_take, List.length_take]; omega)]
        have HXR := Lib.hid (show Rd wr (.slice (some ⟨w1.heap.size, 0, none⟩) k k) (List.zipWith (· ^^^ ·) (l.take k) (m.take k)) by have := RdV.of_owns hox; rwa [hxs] at this)
        have HAR := Lib.hid (HR.out.cut HL.out hNL)
        have HBR := Lib.hid (HU.out.cut HM.out hNM)
        have hmx := more_xor 0#32 0#32 (l.take k) (m.take k) (by rw [List.length_take, List.length_take]; omega)
        have HBW := Lib.hid (show Ext w wr from Ext.trans H1.out HBE.out)
        have HMX := Lib.hid hmx
        obtain ⟨la, hla⟩ : ∃ la, la = l.take k := ⟨_, rfl⟩
        obtain ⟨ma, hma⟩ : ∃ ma, ma = m.take k := ⟨_, rfl⟩
        rw [← hla] at HAR
        rw [← hma] at HBR
        rw [← hla, ← hma] at HMX HXR
        clear hox hxj hxs hmx hla hma HXS
        generalize hzz : List.zipWith (· ^^^ ·) la ma = zz at HXR HMX
        clear hzz
        go_wp2_with fail
        refine wp_region_segs Ext Ext.keeps [([0, 1, 2, 4, 5, 6, 8, 9, 10], some 3), ([], some 7), ([], some 11), ([12, 13, 14, 15], none)] (by kernel_rfl) (by kernel_rfl) (fun c a a' w e h => (by exact ⟨e ▸ h.1, h.2⟩)) ?_
        simp only [pickSegs, pickOps, List.map_cons, List.map_nil, Option.map_some, Option.map_none, Option.getD_some, List.getElem?_toArray, List.getElem?_cons_zero, List.getElem?_cons_succ]
        refine wpSegs_some fun K hK => ?_
        repeat go_big_quiet_step (fail)
        refine wpQuiet_nil ?_
        go_wp2_with fail
        refine (More_any 0#32 _ zz _ (HXR.out.mono (Ext.drew _))).mono ?_
        rintro e w5 ⟨rfl, hb5⟩
        have H5 := Lib.hid (Ext.trans HBW.out (Ext.trans (Ext.drew _) hb5))
        go_wp2_with fail
        refine ⟨hb5, hK _ _ ?_⟩
        clear hK K
        clear hb5
        refine wpSegs_some fun K hK => ?_
        repeat go_big_quiet_step (fail)
        refine wpQuiet_nil ?_
        go_wp2_with fail
        refine (More_any 0#32 _ la _ (HAR.out.mono H5.out)).mono ?_
        rintro e w6 ⟨rfl, hb6⟩
        have H6 := Lib.hid (Ext.trans H5.out hb6)
        go_wp2_with fail
        refine ⟨hb6, hK _ _ ?_⟩
        clear hK K
        clear hb6
        refine wpSegs_some fun K hK => ?_
        repeat go_big_quiet_step (fail)
        refine wpQuiet_nil ?_
        go_wp2_with fail
        refine (More_any 0#32 _ ma _ (HBR.out.mono H6.out)).mono ?_
        rintro e w7 ⟨rfl, hb7⟩
        have H7 := Lib.hid (Ext.trans H6.out hb7)
        go_wp2_with fail
        refine ⟨hb7, hK _ _ ?_⟩
        clear hK K
        clear hb7
        have hxe : (((more 0#32 zz).toNat : Int) == bits BinOp.xor IntKind.u32 ((more 0#32 la).toNat : Int) ((more 0#32 ma).toNat : Int)) = true := by
          have h1 := HMX.out
          rw [BitVec.xor_self] at h1
          rw [u32_xor _ _ (more 0#32 la).isLt (more 0#32 ma).isLt, h1, BitVec.toNat_xor]
          exact beq_self_eq_true _
        refine wpSegs_none ?_
        repeat go_big_quiet_step (fail)
        refine wpQuiet_nil ?_
        refine wpSegs_nil ?_
        go_wp2_with fail
        go_ret
        exact ⟨rfl, H7.out⟩)

theorem crcXors_walk (v : Value) (l : List UInt8) (u : Value) (m : List UInt8) (w : World) (hr : Rd w v l) (hu : Rd w u m) :
    Calls Try.prog 8 #[v, u] w fun e w' => e = .returned (.bool true) ∧ Below w.heap.size w w' := by
  obtain ⟨ao, capA, rfl, h1, h2, ca⟩ := RdV.cellsAt hr
  obtain ⟨bo, capB, rfl, h3, h4, cb⟩ := RdV.cellsAt hu
  unfold maxLen at h2 h4
  exact crcXors_cells ao bo l m _ _ capA capB w (List.length_map _) (List.length_map _) h1 (by omega) h3 (by omega) hr hu ca cb

end Go.Proofs.Ytljcbnninipnhaa
