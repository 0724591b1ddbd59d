/-
  Texts of this proof, merged: OrdRef1, Head, BelowK, Apart, Beside, Answers, RowsMem, CellEq, SameRow, OrdRef2.
-/
import Derived.Deep.Cut
import Derived.BigQuiet
import Derived.Lib.AppendZeros
import Derived.RegionTactic
import Derived.ChangeAlike
import Derived.Test.YtjpdpgjalbjmgaaZ2
import Derived.Test.YtjpdpgjalbjmgaaZ1
/-
  The document's own answers of layer 15: a row's value, how two rows stand.
-/
namespace Go.Proofs.Ytjpdpgjalbjmgaa
open Go.RowKit Go.BigFrame

/-- Rows of the document: values that fit, texts of bounded length. -/
def FitR (m : Nat) (r : List V) : Prop := ∀ v ∈ r, v.fits ∧ v.s.length ≤ m

theorem V.zero_fits : V.zero.fits := ⟨by decide, by decide, by decide, by decide⟩
theorem atV_fits {m : Nat} {r : List V} (h : FitR m r) (c : Int) : (atV r c).fits ∧ (atV r c).s.length ≤ m := by
  unfold atV
  have hz : V.zero.fits ∧ V.zero.s.length ≤ m := ⟨V.zero_fits, Nat.zero_le _⟩
  split
  · split
    · rename_i v hv
      split
      · exact hz
      · exact h v (List.mem_of_getElem? hv)
    · exact hz
  · exact hz
theorem atV_fit {m : Nat} {r : List V} (h : FitR m r) {c : Nat} (hc : c < r.length) : atV r c = if r[c].k = 0 then V.zero else r[c] := by
  rw [atV_in hc]
  have := (h r[c] (List.getElem_mem hc)).1.k0
  by_cases h0 : r[c].k = 0
  · rw [if_pos h0, if_pos (by omega)]
  · rw [if_neg h0, if_neg (by omega)]

set_option maxRecDepth 100000 in
set_option maxHeartbeats 1000000 in
theorem refAt15_any (u : Value) (r : List V) (m : Nat) (c : Int) (w : World) (hu : RdVals w u r) (hf : FitR m r) :
    Calls Try.prog 38 #[u, .int .i64 c] w fun e w' => e = .returned (atV r c).val ∧ Ext w w' := by
  obtain ⟨ao, cap, rfl, -, -⟩ := hu.shape
  obtain ⟨-, h1, h2, hc⟩ := hu.plain
  have HC := Lib.hid hc
  have HF := Lib.hid hf
  have HX := Lib.hid (ext_new w (.cells #[.int .u8 0, .int .i64 0, .string ⟨#[]⟩] 35))
  have HB := Lib.hid (Blk.new w [.int .u8 0, .int .i64 0, .string ⟨#[]⟩] 35)
  unfold maxLen at h2
  obtain ⟨N, hN⟩ : ∃ N, r.length = N := ⟨_, rfl⟩
  have HN := Lib.hid hN
  rw [hN] at h1 ⊢
  clear hu hc hf hN
  by_cases hneg : c < 0
  · have HV := Lib.hid (atV_out (r := r) (c := c) (.inl hneg))
    have d1 : decide (c < 0) = true := decide_eq_true hneg
    go_enter Try.func38, Try.ntmps38
    go_wp2_with fail
    refine bodyPost_ret (results_cell_row (P := Try.prog) (fn := Try.f38) rfl _ _ w.heap.size 35 _ (0, 0) _ rfl HB.out Try.underlying35 rfl (by kernel_rfl)) rfl ?_
    exact ⟨by rw [HV.out]; rfl, HX.out⟩
  · have d1 : decide (c < 0) = false := decide_eq_false hneg
    obtain ⟨C, rfl⟩ : ∃ C : Nat, c = (C : Int) := ⟨c.toNat, by omega⟩
    by_cases hlt : C < N
    · have d2 : decide (N ≤ C) = false := decide_eq_false (by omega)
      have hjl : C < r.length := by have := HN.out; omega
      obtain ⟨g, off, rfl, c0, c1, c2⟩ := HC.out C hjl
      have HV := Lib.hid (atV_fit HF.out hjl)
      have x0 := (HX.out.cell (lt_of_cell c0)).trans c0
      have x1 := (HX.out.cell (lt_of_cell c1)).trans c1
      have x2 := (HX.out.cell (lt_of_cell c2)).trans c2
      generalize r[C] = v at x0 x1 x2 HV
      obtain ⟨vk, vn, vs⟩ := v
      simp only at x0 x1 x2
      clear c0 c1 c2
      by_cases hk : vk = 0
      · subst hk
        go_enter Try.func38, Try.ntmps38
        go_wp2_with fail
        refine bodyPost_ret (results_cell_row (P := Try.prog) (fn := Try.f38) rfl _ _ w.heap.size 35 _ (0, 0) _ rfl HB.out Try.underlying35 rfl (by kernel_rfl)) rfl ?_
        exact ⟨by rw [HV.out]; rfl, HX.out⟩
      · have q1 : (vk == (0 : Int)) = false := beq_eq_false_iff_ne.2 hk
        have HK := Lib.hid hk
        clear hk
        go_enter Try.func38, Try.ntmps38
        go_wp2_with fail
        refine bodyPost_ret (results_cell_row (P := Try.prog) (fn := Try.f38) rfl _ _ w.heap.size 35 _ (0, 0) _ rfl (Blk.new w [.int .u8 vk, .int .i64 vn, .string ⟨vs.toArray⟩] 35) Try.underlying35 rfl (by kernel_rfl)) rfl ?_
        exact ⟨by rw [HV.out, if_neg HK.out]; rfl, ext_new _ _⟩
    · have d2 : decide (N ≤ C) = true := decide_eq_true (by omega)
      have HV := Lib.hid (atV_out (r := r) (c := (C : Int)) (.inr (by have := HN.out; omega)))
      go_enter Try.func38, Try.ntmps38
      go_wp2_with fail
      refine bodyPost_ret (results_cell_row (P := Try.prog) (fn := Try.f38) rfl _ _ w.heap.size 35 _ (0, 0) _ rfl HB.out Try.underlying35 rfl (by kernel_rfl)) rfl ?_
      exact ⟨by rw [HV.out]; rfl, HX.out⟩

/-- Down, and both something. -/
def downK (k : Ky) (a b : List V) : Bool := decide (k.down = true ∧ (atV a k.col).k ≠ 0 ∧ (atV b k.col).k ≠ 0)
theorem cmpK_down (k : Ky) (a b : List V) : cmpK k a b = if downK k a b = true then -cmpV (atV a k.col) (atV b k.col) else cmpV (atV a k.col) (atV b k.col) := by
  unfold cmpK downK
  simp only [decide_eq_true_eq]

set_option maxRecDepth 100000 in
set_option maxHeartbeats 2000000 in
theorem refCompare15_any (u v x : Value) (a b : List V) (ks : List Ky) (m : Nat) (w : World) (hu : RdVals w u a) (hv : RdVals w v b) (hx : RdKs w x ks) (ha : FitR m a) (hb : FitR m b) :
    Calls Try.prog 25 #[u, v, x] w fun e w' => e = .returned (.int .i64 (cmpR ks a b)) ∧ Ext w w' := by
  obtain ⟨ko, kcap, rfl, -, -⟩ := hx.shape
  obtain ⟨-, h1, h2, hc⟩ := hx.plain
  have HC := Lib.hid hc
  have HA := Lib.hid (fun c W (h : Ext w W) => refAt15_any u a m c W (hu.mono h) ha)
  have HB := Lib.hid (fun c W (h : Ext w W) => refAt15_any v b m c W (hv.mono h) hb)
  have HFA := Lib.hid (fun c => atV_fits ha c)
  have HFB := Lib.hid (fun c => atV_fits hb c)
  unfold maxLen at h2
  obtain ⟨N, hN⟩ : ∃ N, ks.length = N := ⟨_, rfl⟩
  have HN := Lib.hid hN
  rw [hN] at h1 ⊢
  clear hu hv hx hc ha hb hN
  go_enter Try.func25, Try.ntmps25
  go_wp2_with fail
  go_loopw [7, 8, 9, 10] (fun i _ _ _ wr => ∃ j : Nat, j ≤ N ∧ i = .int .i64 j ∧ cmpR ks a b = cmpR (ks.drop j) a b ∧ Ext w wr) (fun i _ _ _ _ => N - (intOf i).toNat)
  case atStart => exact ⟨0, Nat.zero_le _, rfl, rfl, Ext.keeps.refl _⟩
  case round =>
    obtain ⟨j, hj, rfl, hd, hext⟩ := hrel
    have HD := Lib.hid hd
    have HE := Lib.hid hext
    clear hd hext
    by_cases hlt : j < N
    · have hjl : j < ks.length := by have := HN.out; omega
      obtain ⟨g, off, rfl, c0, c1⟩ := HC.out j hjl
      have HS := Lib.hid (show cmpR (ks.drop j) a b = if cmpK ks[j] a b = 0 then cmpR (ks.drop (j + 1)) a b else cmpK ks[j] a b by rw [List.drop_eq_getElem_cons hjl]; rfl)
      rw [cmpK_down] at HS
      have HDK := Lib.hid (show downK ks[j] a b = decide (ks[j].down = true ∧ (atV a ks[j].col).k ≠ 0 ∧ (atV b ks[j].col).k ≠ 0) from rfl)
      have hC1 : -1 ≤ cmpV (atV a ks[j].col) (atV b ks[j].col) := by have := cmpV_three (atV a ks[j].col) (atV b ks[j].col); omega
      have hC2 : cmpV (atV a ks[j].col) (atV b ks[j].col) ≤ 1 := by have := cmpV_three (atV a ks[j].col) (atV b ks[j].col); omega
      have HAC := Lib.hid (HA.out ks[j].col)
      have HBC := Lib.hid (HB.out ks[j].col)
      have HCM := Lib.hid (refCompare_any (atV a ks[j].col) (atV b ks[j].col) (HFA.out _).1 (HFB.out _).1)
      have x0 := (HE.out.cell (lt_of_cell c0)).trans c0
      have HK1 := Lib.hid (fun W (h : Ext wr W) => (Ext.trans HE.out h).cell (lt_of_cell c0) |>.trans c0)
      have HK2 := Lib.hid (fun W (h : Ext wr W) => (Ext.trans HE.out h).cell (lt_of_cell c1) |>.trans c1)
      generalize downK ks[j] a b = D at HS HDK
      generalize cmpV (atV a ks[j].col) (atV b ks[j].col) = C at HS HCM hC1 hC2
      generalize ks[j].col = col at x0 HAC HBC HCM HK1 HDK
      generalize ks[j].down = down at HK2 HDK
      generalize atV a col = X at HAC HCM HDK
      generalize atV b col = Y at HBC HCM HDK
      obtain ⟨xk, xn, xs⟩ := X
      obtain ⟨yk, yn, ys⟩ := Y
      unfold V.val at HAC HBC HCM
      simp only at HAC HBC HCM HDK
      clear c0 c1
      go_wp2_with fail
      refine (HAC.out wr HE.out).mono ?_
      rintro e w1 ⟨rfl, hx1⟩
      have HX1 := Lib.hid (Ext.trans hx1 (ext_new w1 (.cells #[.int .u8 xk, .int .i64 xn, .string ⟨xs.toArray⟩] 35)))
      have HBX := Lib.hid (Blk.new w1 [.int .u8 xk, .int .i64 xn, .string ⟨xs.toArray⟩] 35)
      clear hx1 x0
      go_upto_region 5 with fail
      generalize w1.alloc (.cells #[.int .u8 xk, .int .i64 xn, .string ⟨xs.toArray⟩] 35) = W1 at HX1 HBX ⊢
      have x0 := HK1.out _ HX1.out
      go_wp2_with fail
      refine (HBC.out W1 (Ext.trans HE.out HX1.out)).mono ?_
      rintro e w2 ⟨rfl, hx2⟩
      have HX2 := Lib.hid (Ext.trans (Ext.trans HX1.out hx2) (ext_new w2 (.cells #[.int .u8 yk, .int .i64 yn, .string ⟨ys.toArray⟩] 35)))
      have HBX2 := Lib.hid ((HBX.out.ext hx2).ext (ext_new w2 (.cells #[.int .u8 yk, .int .i64 yn, .string ⟨ys.toArray⟩] 35)))
      have HBY := Lib.hid (Blk.new w2 [.int .u8 yk, .int .i64 yn, .string ⟨ys.toArray⟩] 35)
      clear hx2 x0
      go_upto_region 6 with fail
      generalize w2.alloc (.cells #[.int .u8 yk, .int .i64 yn, .string ⟨ys.toArray⟩] 35) = W2 at HX2 HBX2 HBY ⊢
      have a0 := HBX2.out.cell 0 _ rfl
      have a1 := HBX2.out.cell 1 _ rfl
      have a2 := HBX2.out.cell 2 _ rfl
      have b0 := HBY.out.cell 0 _ rfl
      have b1 := HBY.out.cell 1 _ rfl
      have b2 := HBY.out.cell 2 _ rfl
      go_wp2_with fail
      refine (HCM.out W2).mono ?_
      rintro e w3 ⟨rfl, hx3⟩
      have HX3 := Lib.hid (Ext.trans HX2.out hx3)
      have a0 := (HBX2.out.ext hx3).cell 0 _ rfl
      have b0 := (HBY.out.ext hx3).cell 0 _ rfl
      have k1 := HK2.out _ HX3.out
      clear hx3 a1 a2 b1 b2
      go_upto_region 7 with fail
      go_cut [48] from 34 (fun s W => s = .bool D ∧ W = w3)
      case first =>
        cases hdn : down with
        | false =>
          have HQ := Lib.hid (show D = false by rw [HDK.out, hdn]; rfl)
          subst hdn
          go_wp2_with fail
          go_meet
          exact ⟨by rw [HQ.out], rfl⟩
        | true =>
          have HDN := Lib.hid hdn
          subst hdn
          by_cases h1 : xk = 0
          · have HQ := Lib.hid (show D = false by rw [HDK.out]; exact decide_eq_false (fun h => h.2.1 h1))
            subst h1
            go_wp2_with fail
            go_meet
            exact ⟨by rw [HQ.out], rfl⟩
          · have q1 : (xk != (0 : Int)) = true := bne_iff_ne.2 h1
            by_cases h2 : yk = 0
            · have HQ := Lib.hid (show D = false by rw [HDK.out]; exact decide_eq_false (fun h => h.2.2 h2))
              subst h2
              clear h1
              go_wp2_with fail
              go_meet
              exact ⟨by rw [HQ.out], rfl⟩
            · have q2 : (yk != (0 : Int)) = true := bne_iff_ne.2 h2
              have HQ := Lib.hid (show D = true by rw [HDK.out]; exact decide_eq_true ⟨rfl, h1, h2⟩)
              clear h1 h2
              go_wp2_with fail
              go_meet
              exact ⟨by rw [HQ.out], rfl⟩
      case rest =>
      obtain ⟨rfl, rfl⟩ := hcut
      go_upto_if 48 with fail
      go_cut [10] from 49 (fun s W => s = .int .i64 (if D = true then -C else C) ∧ W = wc)
      case first =>
        cases D with
        | true =>
          go_wp2_with fail
          go_meet
          exact ⟨by rw [if_pos trivial], rfl⟩
        | false =>
          go_wp2_with fail
          go_meet
          exact ⟨rfl, rfl⟩
      case rest =>
      obtain ⟨rfl, rfl⟩ := hcut
      generalize (if D = true then -C else C) = R at HS ⊢
      by_cases hR : R = 0
      · have HN1 := Lib.hid (show cmpR ks a b = cmpR (ks.drop (j + 1)) a b by rw [HD.out, HS.out, if_pos hR])
        subst hR
        go_wp2_with fail
        go_roundw
        case rel => exact ⟨j + 1, by omega, by go_num, HN1.out, Ext.trans HE.out HX3.out⟩
        case measure => simp [intOf]; omega
      · have HN1 := Lib.hid (show cmpR ks a b = R by rw [HD.out, HS.out, if_neg hR])
        have q1 : (R != (0 : Int)) = true := bne_iff_ne.2 hR
        clear hR
        go_wp2_with fail
        go_ret
        exact ⟨by rw [HN1.out]; rfl, Ext.trans HE.out HX3.out⟩
    · have HN1 := Lib.hid (show cmpR ks a b = 0 by rw [HD.out, List.drop_of_length_le (by have := HN.out; omega)]; rfl)
      go_wp2_with fail
      go_ret
      exact ⟨by rw [HN1.out]; rfl, HE.out⟩

end Go.Proofs.Ytjpdpgjalbjmgaa

/-
  The first ones of a slice; how many these are; bytes as a text. Over any program.
-/
namespace Go.Proofs.Ytjpdpgjalbjmgaa
open Go.ChangeAt Go.RowKit

/-- The first ones of a slice. -/
theorem rdV_first {w : World} {ao : Option Addr} {N cap : Nat} {xs : List Value} (h : RdV w (.slice ao N cap) xs) (K : Nat) (hK : K ≤ N) : RdV w (.slice ao K cap) (xs.take K) := by
  rcases h with ⟨h1, h2⟩ | ⟨x, cap', h1, h2, h3, h4⟩
  · simp only [Value.slice.injEq] at h1
    obtain ⟨rfl, rfl, rfl⟩ := h1
    have hk : K = 0 := by omega
    subst hk
    subst h2
    exact .inl ⟨rfl, rfl⟩
  · simp only [Value.slice.injEq] at h1
    obtain ⟨rfl, rfl, rfl⟩ := h1
    exact RdV.takes h2 h3 h4 K K (by omega)
/-- How many of the first k there are: as a walk may show it. -/
theorem min_firstN (N k : Nat) : ∃ K : Nat, min (N : Int) (k : Int) = (K : Int) ∧ (if (k : Int) < (N : Int) then (k : Int) else (N : Int)) = (K : Int) ∧ K ≤ N ∧ K ≤ k ∧ K = min N k :=
  ⟨min N k, by omega, by split <;> omega, by omega, by omega, rfl⟩
theorem take_minN {α : Type} (l : List α) (k : Nat) : l.take (min l.length k) = l.take k := by
  rcases Nat.le_total l.length k with h | h
  · rw [Nat.min_eq_left h, List.take_of_length_le (Nat.le_refl _), List.take_of_length_le h]
  · rw [Nat.min_eq_right h]
/-- A row of ints that is read: where it lies. -/
theorem RdV.plain {w : World} {ao : Option Addr} {N cap : Nat} {xs : List Int} (h : RdV w (.slice ao N cap) (xs.map (Value.int .i64))) : N = xs.length ∧ N ≤ cap ∧ cap ≤ maxLen ∧ ∀ j, (hj : j < xs.length) → ∃ g off, ao = some ⟨g, off, none⟩ ∧ w.cell? ⟨g, off + j, none⟩ = some (.int .i64 xs[j]) := by
  obtain ⟨a', c', h0, h1, h2, h3⟩ := RdV.cellsAt h
  simp only [Value.slice.injEq, List.length_map] at h0 h1
  obtain ⟨rfl, rfl, rfl⟩ := h0
  refine ⟨rfl, h1, h2, fun j hj => ?_⟩
  obtain ⟨⟨g, off, sp⟩, rfl, hc⟩ := h3 j (.int .i64 xs[j]) (by rw [List.getElem?_map, List.getElem?_eq_getElem hj]; rfl)
  have hsp : sp = none := by
    obtain ⟨a0, ha0, hc0⟩ := h3 0 (.int .i64 xs[0]) (by rw [List.getElem?_map, List.getElem?_eq_getElem (by omega)]; rfl)
    obtain rfl := Option.some.inj ha0
    have h := World.cell?_spot hc0
    simpa [Addr.add] using h
  subst hsp
  rw [add_at] at hc
  exact ⟨g, off, rfl, hc⟩
/-- A row that is read: where it lies. -/
theorem RdV.plainV {w : World} {ao : Option Addr} {N cap : Nat} {xs : List Value} (h : RdV w (.slice ao N cap) xs) : N = xs.length ∧ N ≤ cap ∧ cap ≤ maxLen ∧ ∀ j u, xs[j]? = some u → ∃ g off, ao = some ⟨g, off, none⟩ ∧ w.cell? ⟨g, off + j, none⟩ = some u := by
  obtain ⟨a', c', h0, h1, h2, h3⟩ := RdV.cellsAt h
  simp only [Value.slice.injEq] at h0 h1
  obtain ⟨rfl, rfl, rfl⟩ := h0
  refine ⟨rfl, h1, h2, fun j u hj => ?_⟩
  obtain ⟨⟨g, off, sp⟩, rfl, hc⟩ := h3 j u hj
  have hsp : sp = none := by
    have hlt : 0 < xs.length := by
      have := (List.getElem?_eq_some_iff.1 hj).1
      omega
    obtain ⟨a0, ha0, hc0⟩ := h3 0 xs[0] (List.getElem?_eq_getElem hlt)
    obtain rfl := Option.some.inj ha0
    have h := World.cell?_spot hc0
    simpa [Addr.add] using h
  subst hsp
  rw [add_at] at hc
  exact ⟨g, off, rfl, hc⟩
/-- The rest of a row of one-cell values, as a fact of the walk. -/
theorem slice_restV {P : Program} {t e : TypeId} (ht : P.underlying t = some (.slice e)) {i0 : TypeInfo} (hi : P.info? e = some i0) (hz : i0.size = 1) {w : World} {ao : Option Addr} {N cap : Nat} {l : List Value} (h : RdV w (.slice ao N cap) l) (k : Nat) (hk : k ≤ N) :
    ∃ a c, RdV w (.slice a (N - k) c) (l.drop k) ∧ ∀ W, (Instr.slice t (.slice ao N cap) (some (.int .i64 (k : Int))) none none).run P W = .ok (.slice a (N - k) c) W := by
  obtain ⟨e, h2, h3, -⟩ := RdV.plainV h
  subst e
  have hlo : (k : Int) ≤ (l.length : Int) := by omega
  rcases h with ⟨h1, h4⟩ | ⟨x, cap', h1, h4, h5, h6⟩
  · simp only [Value.slice.injEq] at h1
    obtain ⟨rfl, h7, rfl⟩ := h1
    have hl0 : l = [] := List.length_eq_zero_iff.1 h7
    subst hl0
    obtain rfl : k = 0 := by simpa using hk
    refine ⟨none, 0, RdV.nil w, fun W => ?_⟩
    simp [Instr.slice, Instr.sliceBounds, Instr.sliceBound, run_underlying ht, sizeOf, typeInfo, hi, go_sem]
  · simp only [Value.slice.injEq] at h1
    obtain ⟨rfl, -, rfl⟩ := h1
    by_cases hc : cap = k
    · refine ⟨some x, cap - k, ?_, fun W => ?_⟩
      · have hd : l.drop k = [] := List.drop_eq_nil_of_le (by omega)
        rw [hd, show l.length - k = 0 by omega]
        exact .inr ⟨x, _, rfl, Nat.zero_le _, by omega, fun i u hu => by simp at hu⟩
      · subst hc
        simp [Instr.slice, Instr.sliceBounds, Instr.sliceBound, run_underlying ht, sizeOf, typeInfo, hi, go_sem, hk]
    · refine ⟨some (x.add k), cap - k, ?_, fun W => ?_⟩
      · refine .inr ⟨x.add k, cap - k, by rw [List.length_drop], by rw [List.length_drop]; omega, by omega, fun i u hu => ?_⟩
        have e2 : (x.add k).add i = x.add (k + i) := by unfold Addr.add; simp; split <;> split <;> simp_all <;> omega
        rw [e2]
        exact h6 (k + i) u (by rw [List.getElem?_drop] at hu; exact hu)
      · simp [Instr.slice, Instr.sliceBounds, Instr.sliceBound, run_underlying ht, sizeOf, typeInfo, hi, hz, go_sem, hk, hc]
theorem int_one (l : List Int) : ∀ u ∈ l.map (Value.int .i64), u.oneCell' = true := by
  intro u hu
  obtain ⟨c, _, rfl⟩ := List.mem_map.1 hu
  rfl

end Go.Proofs.Ytjpdpgjalbjmgaa

/-
  Blocks from a number on: as a relation that regions keep; a row cut to its first ones.
-/
namespace Go.Proofs.Ytjpdpgjalbjmgaa
open Go.RowKit Go.BigFrame

theorem Below.keepsD (B : Nat) : Keeps (Below B) := ⟨fun _ => Below.refl _ _, fun _ _ _ h k => Below.trans h k⟩
instance (B : Nat) (w : World) : Inhabited (Later (Below B) w) := ⟨⟨w, Below.refl _ _⟩⟩
theorem owns_take {base : Nat} {e : TypeId} {w : World} {a : Option Addr} {n cap : Nat} {xs : List Value} (h : w.ownsRow base e 1 (.slice a n cap) n xs) (k : Nat) (hk : k ≤ n) : w.ownsRow base e 1 (.slice a k cap) k (xs.take k) := by
  obtain ⟨h1, h2⟩ := h
  refine ⟨by rw [List.length_take, h1]; omega, ?_⟩
  rcases h2 with ⟨h3, h4⟩ | ⟨g, c, cur, h3, h4, h5, h6, h7, h8, h9⟩
  · simp only [Value.slice.injEq] at h3
    obtain ⟨rfl, h10, rfl⟩ := h3
    have : k = 0 := by omega
    subst this
    exact .inl ⟨rfl, rfl⟩
  · simp only [Value.slice.injEq] at h3
    obtain ⟨rfl, -, rfl⟩ := h3
    refine .inr ⟨g, cap, cur, rfl, h4, h5, by omega, h7, h8, ?_⟩
    rw [← h9, List.take_take]
    congr 1
    omega
theorem ownBlock_len (a : Option Addr) (n m c : Nat) : (Value.slice a n c).ownBlock = (Value.slice a m c).ownBlock := by cases a <;> rfl
theorem empty_text (w : World) : (w.alloc (.cells #[] 9)).ownsRow w.heap.size 9 1 (.slice (some ⟨w.heap.size, 0, none⟩) 0 0) 0 [] := World.ownsRow_made w #[] 0 (Nat.le_refl _) (by simp [maxLen]) rfl

end Go.Proofs.Ytjpdpgjalbjmgaa

/-
  append to a row of one's own: where the row lies behind it (in its own block, or in a new one). Over any program.
-/
namespace Go.Proofs.Ytjpdpgjalbjmgaa
open Go.RowKit

theorem run_append_block {P : Program} (w : World) (base : Nat) (t ty e : TypeId) (i : TypeInfo) (z : Value) (size bytes : Nat) (ht : P.underlying t = some (.slice e)) (hi : P.info? e = some i) (hz : i.zero = some z)
    (hsize : i.size = size) (hby : i.bytes = bytes) (hzs : z.cells.size = size) (hsz : 0 < size)
    (v : Value) (n : Nat) (xs : List Value) (hown : w.ownsRow base e size v n xs)
    (a : Addr) (m c : Nat) (news : List Value) (hl : news.length = m * size) (hnews : ∀ j u, news[j]? = some u → w.cell? (a.add j) = some u) (h1 : ∀ u ∈ news, u.oneCell' = true)
    (h63 : n + m ≤ maxLen) (hbytes : (n + m) * bytes ≤ 140737488355328) (hbase : base ≤ w.heap.size) :
    ∃ v' w', (Builtin.append_ #[t, t] ty #[v, .slice (some a) m c]).run P w = .ok v' w' ∧ w'.ownsRow base e size v' (n + m) (xs ++ news) ∧ w.grownBy w' v.ownBlock ∧
      (v'.ownBlock = v.ownBlock ∨ ∃ k, v'.ownBlock = some k ∧ w.heap.size ≤ k) := by
  obtain ⟨v', w', hrun, ho, hg, hn⟩ := run_append_own w base t ty e i z size bytes ht hi hz hsize hby hzs hsz v n xs hown a m c news hl hnews h1 h63 hbytes hbase
  refine ⟨v', w', hrun, ho, hg, ?_⟩
  subst hsize
  subst hby
  have hsmall : n + m ≤ 9223372036854775807 := by simp only [maxLen] at h63; omega
  rcases hown.2 with ⟨rfl, rfl⟩ | ⟨g, cap, cur, rfl, hbg, hg', hnc, hcm, hcs, htake⟩
  · by_cases hm : m = 0
    · left
      rw [hn.2 ⟨rfl, hm⟩]
    · have hr := run_append_nil (P := P) w t ty e i z ht hi hz a m c news hl hnews (by omega) (by omega) (by have hb := hbytes; simp only [Nat.zero_add] at hb; omega)
      rw [hr] at hrun
      simp only [Result.ok.injEq] at hrun
      right
      exact ⟨_, by rw [← hrun.1]; rfl, Nat.le_refl _⟩
  · by_cases hroom : n + m ≤ cap
    · have hfit : n * i.size + news.length ≤ cur.size := by rw [hl, hcs, ← Nat.add_mul]; exact Nat.mul_le_mul_right _ hroom
      have hr := run_append_room (P := P) w t ty e i ht hi g n cap cur hg' a m c news hl hnews h1 hroom hfit
      rw [hr] at hrun
      simp only [Result.ok.injEq] at hrun
      left
      rw [← hrun.1]
      rfl
    · have holds : ∀ j u, xs[j]? = some u → w.cell? ((⟨g, 0, none⟩ : Addr).add j) = some u := hown.cells (g := g) rfl
      have hr := run_append_grow (P := P) w t ty e i z ht hi hz ⟨g, 0, none⟩ n cap xs hown.1 holds a m c news hl hnews (by omega) (by omega) (growslice_fits (by omega) hbytes)
      rw [hr] at hrun
      simp only [Result.ok.injEq] at hrun
      right
      exact ⟨_, by rw [← hrun.1]; rfl, Nat.le_refl _⟩

/-- wpList_append_own, and where the row lies then. -/
theorem wpList_append_apart {P : Program} (w : World) {ops : Array Oper} {rest : List Oper} {o : Oper} {a : Act} {Q : Exit → Act → World → Prop} (hgd : o.guard = none) (s x : Operand) (t : TypeId)
    (ho : o.op = .call { callee := .builtin .append, args := #[s, x], argTypes := #[t, t] })
    (base : Nat) (e : TypeId) (i : TypeInfo) (z : Value) (size bytes : Nat) (ht : P.underlying t = some (.slice e)) (hi : P.info? e = some i) (hz : i.zero = some z)
    (hsize : i.size = size) (hby : i.bytes = bytes) (hzs : z.cells.size = size) (hsz : 0 < size)
    (v : Value) (n : Nat) (xs : List Value) (hs : a.eval s = v) (hown : w.ownsRow base e size v n xs)
    (ad : Addr) (m c : Nat) (news : List Value) (hx : a.eval x = .slice (some ad) m c) (hl : news.length = m * size) (hnews : ∀ j u, news[j]? = some u → w.cell? (ad.add j) = some u) (h1 : ∀ u ∈ news, u.oneCell' = true)
    (h63 : n + m ≤ maxLen) (hbytes : (n + m) * bytes ≤ 140737488355328) (hbase : base ≤ w.heap.size)
    (h : ∀ v' w', w'.ownsRow base e size v' (n + m) (xs ++ news) → w.grownBy w' v.ownBlock → (v'.ownBlock = v.ownBlock ∨ ∃ k, v'.ownBlock = some k ∧ w.heap.size ≤ k) → wpList P ops Q rest (a.put o.dst v') w') : wpList P ops Q (o :: rest) a w := by
  obtain ⟨v', w', hrun, k1, k2, k3⟩ := run_append_block (P := P) w base t o.type e i z size bytes ht hi hz hsize hby hzs hsz v n xs hown ad m c news hl hnews h1 h63 hbytes hbase
  refine wpList_plain hgd fun K hK => ?_
  have hkk := hK _ _ (h v' w' k1 k2 k3)
  unfold Oper.wp
  simp [execOp, ho, resolve, invoke, builtin, hs, hx, hrun, Result.andThen]
  exact hkk

end Go.Proofs.Ytjpdpgjalbjmgaa

/-
  Rows of the call's own that grow side by side: one element at a time. Over any program.
-/
namespace Go.Proofs.Ytjpdpgjalbjmgaa
open Go.RowKit

/-- u lies elsewhere than v. -/
def ApartV (u v : Value) : Prop := ∀ k, u.ownBlock = some k → v.ownBlock ≠ some k
theorem ApartV.symm {u v : Value} (h : ApartV u v) : ApartV v u := fun k h1 h2 => h k h2 h1
theorem ApartV.nil (u : Value) : ApartV u (.slice none 0 0) := fun _ _ h => by cases h
theorem ApartV.nil' (u : Value) : ApartV (.slice none 0 0) u := fun _ h => by cases h
/-- Where a row lies behind an append. -/
def Grew (w : World) (v v' : Value) : Prop := v'.ownBlock = v.ownBlock ∨ ∃ k, v'.ownBlock = some k ∧ w.heap.size ≤ k
theorem ApartV.grew {w : World} {u v v' : Value} (h : ApartV u v) (hu : ∀ k, u.ownBlock = some k → k < w.heap.size) (hg : Grew w v v') : ApartV u v' := by
  intro k hk hv
  rcases hg with e | ⟨k', e, hle⟩
  · exact h k hk (e ▸ hv)
  · rw [e] at hv
    have := hu k hk
    cases hv
    omega
/-- A row beside the one that grew. -/
theorem owns_beside {base n size : Nat} {e : TypeId} {w w' : World} {u v : Value} {xs : List Value} (h : w.ownsRow base e size u n xs) (ho : OnlyS (fun k => v.ownBlock = some k) w w') (ha : ApartV u v) : w'.ownsRow base e size u n xs := by
  refine ⟨h.1, ?_⟩
  rcases h.2 with hn | ⟨g, cap, cur, rfl, hb, hgg, rest⟩
  · exact .inl hn
  · refine .inr ⟨g, cap, cur, rfl, hb, ?_, rest⟩
    rw [ho.block g (Array.getElem?_eq_some_iff.1 hgg).1 (ha g rfl)]
    exact hgg
theorem owns_extS {base n size : Nat} {e : TypeId} {w w' : World} {u : Value} {xs : List Value} (h : w.ownsRow base e size u n xs) (hx : Ext w w') : w'.ownsRow base e size u n xs :=
  h.kept (row := none) ⟨hx.os, hx.tape, hx.output, hx.size, fun k hk _ => hx.block k hk⟩ (by cases u.ownBlock <;> simp)
/-- append(l, x) of one element that the call has just put into a row of its own. -/
theorem wpList_append_one {P : Program} {w : World} {ops : Array Oper} {rest : List Oper} {o : Oper} {a : Act} {Q : Exit → Act → World → Prop} (hgd : o.guard = none) (s x : Operand) (t : TypeId)
    (ho : o.op = .call { callee := .builtin .append, args := #[s, x], argTypes := #[t, t] })
    (base : Nat) (e : TypeId) (i : TypeInfo) (z : Value) (size bytes : Nat) (ht : P.underlying t = some (.slice e)) (hi : P.info? e = some i) (hz : i.zero = some z)
    (hsize : i.size = size) (hby : i.bytes = bytes) (hzs : z.cells.size = size) (hsz : 0 < size) (hb100 : bytes ≤ 1000)
    (v : Value) (n : Nat) (xs ys : List Value) (hs : a.eval s = v) (hown : w.ownsRow base e size v n xs) (hx : a.eval x = .slice (some ⟨w.heap.size, 0, none⟩) 1 1) (hl : ys.length = size) (h1 : ∀ u ∈ ys, u.oneCell' = true)
    (hn : n ≤ 10000000) (hbase : base ≤ w.heap.size)
    (h : ∀ v' w', w'.ownsRow base e size v' (n + 1) (xs ++ ys) → Below base w w' → OnlyS (fun k => v.ownBlock = some k) w w' → Grew w v v' → wpList P ops Q rest (a.put o.dst v') w') :
    wpList P ops Q (o :: rest) a (w.alloc (.cells ys.toArray e)) := by
  have hm : (n + 1) * bytes ≤ 140737488355328 := Nat.le_trans (Nat.mul_le_mul (show n + 1 ≤ 10000001 by omega) hb100) (by decide)
  refine wpList_append_apart _ hgd s x t ho base e i z size bytes ht hi hz hsize hby hzs hsz v n xs hs ?_ ⟨w.heap.size, 0, none⟩ 1 1 ys hx (by omega) (row_new w ys e) h1 (by unfold maxLen; omega) hm (by simp; omega) fun v' w' k1 k2 k3 => h v' w' k1 ?_ ?_ ?_
  · exact owns_extS hown (ext_new w _)
  · exact (((Below.refl base w).alloc hbase _).grown k2 (by simp; omega) (fun b hb => (hown.lt b hb).1))
  · exact (OnlyS.of_ext (ext_new w _)).trans (OnlyS.of_grown k2) (fun _ _ h => h)
  · rcases k3 with e | ⟨k, e, hle⟩
    · exact .inl e
    · refine .inr ⟨k, e, ?_⟩
      simp only [World.alloc, Array.size_push] at hle
      omega

end Go.Proofs.Ytjpdpgjalbjmgaa

/-
  What a call answers: bytes, numbers, and an error; a row of the call's own.
-/
namespace Go.Proofs.Ytjpdpgjalbjmgaa
open Go.ChangeAt Go.RowKit

theorem Try.info_int8 : (Try.prog.info? 3).map (fun i => (i.zero, i.size, i.bytes)) = some (some (.int .i64 0), 1, 8) := by kernel_rfl
theorem own_shapeP {base : Nat} {e : TypeId} {w : World} {v : Value} {n : Nat} {xs : List Value} (h : w.ownsRow base e 1 v n xs) : ∃ a cap, v = .slice a n cap ∧ n ≤ cap ∧ cap ≤ maxLen := by
  rcases h.2 with ⟨rfl, rfl⟩ | ⟨g, cap, cur, rfl, h2, h3, h4, h5, _⟩
  · exact ⟨none, 0, rfl, Nat.le_refl _, by simp [maxLen]⟩
  · exact ⟨_, cap, rfl, h4, h5⟩
/-- A call answers these bytes, of its own, and this error. -/
def AnsB (w : World) (r : List UInt8 × Int) (e : Ending) (w' : World) : Prop := ∃ v, e = .returned (.tuple #[v, .int .i64 r.2]) ∧ w'.ownsRow w.heap.size 5 1 v r.1.length (r.1.map bv) ∧ Ext w w'
/-- A call answers these numbers, of its own, and this error. -/
def AnsI (w : World) (r : List Int × Int) (e : Ending) (w' : World) : Prop := ∃ v, e = .returned (.tuple #[v, .int .i64 r.2]) ∧ w'.ownsRow w.heap.size 3 1 v r.1.length (r.1.map (Value.int .i64)) ∧ Ext w w'

theorem owns_nil (w : World) (base : Nat) (e : TypeId) (size : Nat) : w.ownsRow base e size (.slice none 0 0) 0 [] := ⟨by simp, .inl ⟨rfl, rfl⟩⟩
theorem owns_base {base base' : Nat} {e : TypeId} {size : Nat} {w : World} {v : Value} {n : Nat} {xs : List Value} (h : w.ownsRow base e size v n xs) (hb : base' ≤ base) : w.ownsRow base' e size v n xs :=
  ⟨h.1, h.2.imp id fun ⟨g, cap, cur, h1, h2, h3⟩ => ⟨g, cap, cur, h1, Nat.le_trans hb h2, h3⟩⟩
theorem owns_ext {base : Nat} {e : TypeId} {w w' : World} {v : Value} {n : Nat} {xs : List Value} (h : w.ownsRow base e 1 v n xs) (hb : Ext w w') : w'.ownsRow base e 1 v n xs := owns_later h hb

end Go.Proofs.Ytjpdpgjalbjmgaa

/-
  Rows of rows of values in memory: the heads of rows, a row of heads of one's own.
-/
namespace Go.Proofs.Ytjpdpgjalbjmgaa
open Go.RowKit Go.BigFrame

theorem Try.info_row : (Try.prog.info? 33).map (fun i => (i.zero, i.size, i.bytes)) = some (some (.slice none 0 0), 1, 24) := by kernel_rfl

/-- These slices read as these rows. -/
def HdRows (w : World) (hs : List Value) (rs : List (List V)) : Prop := hs.length = rs.length ∧ ∀ i, (h : i < hs.length) → (h' : i < rs.length) → RdVals w hs[i] rs[i]

theorem HdRows.nil (w : World) : HdRows w [] [] := ⟨rfl, fun _ h => absurd h (Nat.not_lt_zero _)⟩
theorem HdRows.mono {w w' : World} {hs : List Value} {rs : List (List V)} (h : HdRows w hs rs) (hb : Below w.heap.size w w') : HdRows w' hs rs := ⟨h.1, fun i h1 h2 => (h.2 i h1 h2).mono hb⟩
theorem HdRows.append {w : World} {hs hs' : List Value} {rs rs' : List (List V)} (h : HdRows w hs rs) (h' : HdRows w hs' rs') : HdRows w (hs ++ hs') (rs ++ rs') := by
  refine ⟨by rw [List.length_append, List.length_append, h.1, h'.1], fun i h1 h2 => ?_⟩
  rw [List.length_append] at h1 h2
  by_cases hi : i < hs.length
  · rw [List.getElem_append_left hi, List.getElem_append_left (h.1 ▸ hi)]
    exact h.2 i hi (h.1 ▸ hi)
  · have e := h.1
    rw [List.getElem_append_right (by omega), List.getElem_append_right (by omega)]
    have k := h'.2 (i - hs.length) (by omega) (by omega)
    simp only [e] at k ⊢
    exact k
theorem HdRows.take {w : World} {hs : List Value} {rs : List (List V)} (h : HdRows w hs rs) (n : Nat) : HdRows w (hs.take n) (rs.take n) := by
  refine ⟨by rw [List.length_take, List.length_take, h.1], fun i h1 h2 => ?_⟩
  rw [List.length_take] at h1 h2
  rw [List.getElem_take, List.getElem_take]
  exact h.2 i (by omega) (by omega)
theorem HdRows.drop {w : World} {hs : List Value} {rs : List (List V)} (h : HdRows w hs rs) (n : Nat) : HdRows w (hs.drop n) (rs.drop n) := by
  refine ⟨by rw [List.length_drop, List.length_drop, h.1], fun i h1 h2 => ?_⟩
  rw [List.length_drop] at h1 h2
  rw [List.getElem_drop, List.getElem_drop]
  exact h.2 (n + i) (by omega) (by omega)
theorem HdRows.one {w : World} {v : Value} {r : List V} (h : RdVals w v r) : HdRows w [v] [r] := ⟨rfl, fun i h1 _ => by
  have : i = 0 := by simpa using h1
  subst this
  exact h⟩
theorem HdRows.get {w : World} {hs : List Value} {rs : List (List V)} (h : HdRows w hs rs) (i : Nat) (hi : i < rs.length) : ∃ a n c, hs[i]? = some (Value.slice a n c) ∧ RdVals w (.slice a n c) rs[i] := by
  have h1 := h.2 i (h.1 ▸ hi) hi
  obtain ⟨a, c, e, -, -⟩ := h1.shape
  exact ⟨a, _, c, by rw [List.getElem?_eq_getElem (h.1 ▸ hi), e], e ▸ h1⟩
theorem HdRows.shape {w : World} {hs : List Value} {rs : List (List V)} (h : HdRows w hs rs) : ∀ x ∈ hs, ∃ a n c, x = Value.slice a n c := fun x hx => by
  obtain ⟨i, hi, rfl⟩ := List.mem_iff_getElem.1 hx
  obtain ⟨a, c, e, -, -⟩ := (h.2 i hi (h.1 ▸ hi)).shape
  exact ⟨a, _, c, e⟩
theorem HdRows.oneCell {w : World} {hs : List Value} {rs : List (List V)} (h : HdRows w hs rs) : ∀ x ∈ hs, x.oneCell' = true := fun x hx => by
  obtain ⟨a, n, c, rfl⟩ := h.shape x hx
  cases a <;> rfl

/-- The heads of rows that are read, with their places. -/
theorem RdRows.heads {w : World} {ao : Option Addr} {N cap : Nat} {rs : List (List V)} (h : RdRows w (.slice ao N cap) rs) :
    ∃ hs, HdRows w hs rs ∧ N = rs.length ∧ N ≤ cap ∧ cap ≤ maxLen ∧ ∀ j u, hs[j]? = some u → ∃ g off, ao = some ⟨g, off, none⟩ ∧ w.cell? ⟨g, off + j, none⟩ = some u := by
  obtain ⟨a', cap', h1, h2, h3, h4⟩ := h
  simp only [Value.slice.injEq] at h1
  obtain ⟨rfl, rfl, rfl⟩ := h1
  have key : ∀ j, (hj : j < rs.length) → ∃ v, RdVals w v rs[j] ∧ ∃ g off, ao = some ⟨g, off, none⟩ ∧ w.cell? ⟨g, off + j, none⟩ = some v := fun j hj => by
    obtain ⟨x, v, rfl, h6, h7⟩ := h4 j hj
    obtain ⟨b, o, sp⟩ := x
    have hsp : sp = none := by
      obtain ⟨x0, v0, e0, -, h70⟩ := h4 0 (by omega)
      rw [← Option.some.inj e0, add_zero] at h70
      exact World.cell?_spot h70
    subst hsp
    rw [add_at] at h7
    exact ⟨v, h6, b, o, rfl, h7⟩
  refine ⟨(List.range rs.length).map fun j => if hj : j < rs.length then (key j hj).choose else .slice none 0 0, ⟨by simp, fun i h1 h2 => ?_⟩, rfl, h2, h3, fun j u hu => ?_⟩
  · rw [List.getElem_map, List.getElem_range, dif_pos h2]
    exact (key i h2).choose_spec.1
  · obtain ⟨hj, e⟩ := List.getElem?_eq_some_iff.1 hu
    have hj' : j < rs.length := by simpa using hj
    rw [List.getElem_map, List.getElem_range, dif_pos hj'] at e
    obtain ⟨g, off, e1, e2⟩ := (key j hj').choose_spec.2
    exact ⟨g, off, e1, e ▸ e2⟩
/-- .. as a row of heads, where no address has no room. -/
theorem RdRows.headsV {w : World} {v : Value} {rs : List (List V)} (h : RdRows w v rs) (hn : ∀ cap, v = .slice none 0 cap → cap = 0) : ∃ hs, HdRows w hs rs ∧ RdV w v hs := by
  obtain ⟨ao, cap, rfl, -, -⟩ := h.shape
  obtain ⟨hs, h1, h2, h3, h4, h5⟩ := h.heads
  refine ⟨hs, h1, ?_⟩
  cases ao with
  | none =>
    have h0 : rs.length = 0 := by
      rcases Nat.eq_zero_or_pos rs.length with h0 | h0
      · exact h0
      · obtain ⟨g, off, e, -⟩ := h5 0 (hs[0]'(h1.1 ▸ h0)) (List.getElem?_eq_getElem (h1.1 ▸ h0))
        cases e
    have hnil : hs = [] := List.eq_nil_of_length_eq_zero (h1.1.trans h0)
    subst hnil
    rw [h0] at hn ⊢
    exact .inl ⟨by rw [hn cap rfl], rfl⟩
  | some x =>
    refine .inr ⟨x, cap, by rw [h1.1], by rw [h1.1]; exact h3, h4, fun i u hu => ?_⟩
    obtain ⟨g, off, e, hc⟩ := h5 i u hu
    rw [Option.some.inj e, add_at]
    exact hc

/-- A row of heads of one's own; what they head is read. -/
def AnsR (base : Nat) (w : World) (u : Value) (rs : List (List V)) : Prop := ∃ hs, w.ownsRow base 33 1 u hs.length hs ∧ HdRows w hs rs

theorem AnsR.ext {base : Nat} {w w' : World} {u : Value} {rs : List (List V)} (h : AnsR base w u rs) (hx : Ext w w') : AnsR base w' u rs := by
  obtain ⟨hs, h1, h2⟩ := h
  exact ⟨hs, owns_extS h1 hx, h2.mono hx⟩
theorem RdRows.of_heads {w : World} {u : Value} {hs : List Value} {rs : List (List V)} (h : RdV w u hs) (hh : HdRows w hs rs) : RdRows w u rs := by
  obtain ⟨a, c, e, h2, h3, h4⟩ := RdV.cellsAt h
  subst e
  refine ⟨a, c, by rw [hh.1], by rw [← hh.1]; exact h2, h3, fun j hj => ?_⟩
  obtain ⟨x, n, cc, e1, e2⟩ := hh.get j hj
  obtain ⟨g, off, rfl, e4⟩ := (RdV.plainV h).2.2.2 j _ e1
  exact ⟨_, _, rfl, e2, by rw [add_at]; exact e4⟩
theorem AnsR.rd {base : Nat} {w : World} {u : Value} {rs : List (List V)} (h : AnsR base w u rs) : RdRows w u rs := by
  obtain ⟨hs, h1, h2⟩ := h
  exact RdRows.of_heads (RdV.of_owns h1) h2
theorem empty_rows (w : World) : (w.alloc (.cells #[] 33)).ownsRow w.heap.size 33 1 (.slice (some ⟨w.heap.size, 0, none⟩) 0 0) 0 [] := World.ownsRow_made w #[] 0 (Nat.le_refl _) (by simp [maxLen]) rfl

/-- A slice of heads that reads as these rows. -/
def RdRV (w : World) (u : Value) (rs : List (List V)) : Prop := ∃ hs, RdV w u hs ∧ HdRows w hs rs
theorem RdRV.mono {w w' : World} {u : Value} {rs : List (List V)} (h : RdRV w u rs) (hb : Below w.heap.size w w') : RdRV w' u rs := by
  obtain ⟨hs, h1, h2⟩ := h
  exact ⟨hs, h1.mono hb, h2.mono hb⟩
theorem RdRV.rd {w : World} {u : Value} {rs : List (List V)} (h : RdRV w u rs) : RdRows w u rs := by
  obtain ⟨hs, h1, h2⟩ := h
  exact RdRows.of_heads h1 h2
theorem AnsR.rv {base : Nat} {w : World} {u : Value} {rs : List (List V)} (h : AnsR base w u rs) : RdRV w u rs := by
  obtain ⟨hs, h1, h2⟩ := h
  exact ⟨hs, RdV.of_owns h1, h2⟩
theorem RdRV.shape {w : World} {u : Value} {rs : List (List V)} (h : RdRV w u rs) : ∃ a cap, u = .slice a rs.length cap ∧ rs.length ≤ cap ∧ cap ≤ maxLen := h.rd.shape
/-- The first row, and the rest as a slice. -/
theorem RdRV.cut {w : World} {ao : Option Addr} {N cap : Nat} {rs : List (List V)} (h : RdRV w (.slice ao N cap) rs) (hN : 0 < N) :
    ∃ a n c g off r t a' c', rs = r :: t ∧ ao = some ⟨g, off, none⟩ ∧ w.cell? ⟨g, off, none⟩ = some (.slice a n c) ∧ RdVals w (.slice a n c) r ∧ RdRV w (.slice a' (N - 1) c') t ∧ ∀ W, (Instr.slice 22 (.slice ao N cap) (some (.int .i64 1)) none none).run Try.prog W = .ok (.slice a' (N - 1) c') W := by
  obtain ⟨hs, h1, h2⟩ := h
  obtain ⟨i1, hi1, hy0, hy1, hy2⟩ := info_parts Try.info_row
  obtain ⟨e, -, -, hat⟩ := RdV.plainV h1
  obtain ⟨a', c', k1, k2⟩ := slice_restV Try.underlying22 hi1 hy1 h1 1 (by omega)
  have hl := h2.1
  cases rs with
  | nil => simp at hl; subst hl; simp at e; omega
  | cons r t =>
    obtain ⟨x, n, c, e1, e2⟩ := h2.get 0 (by simp)
    obtain ⟨g, off, rfl, e4⟩ := hat 0 _ e1
    exact ⟨x, n, c, g, off, r, t, a', c', rfl, rfl, e4, e2, ⟨_, k1, h2.drop 1⟩, k2⟩
theorem RdRV.take {w : World} {ao : Option Addr} {N cap : Nat} {rs : List (List V)} (h : RdRV w (.slice ao N cap) rs) (K : Nat) (hK : K ≤ N) : RdRV w (.slice ao K cap) (rs.take K) := by
  obtain ⟨hs, h1, h2⟩ := h
  refine ⟨hs.take K, ?_, h2.take K⟩
  rcases h1 with ⟨e, rfl⟩ | ⟨x, c, e, h3, h4, h5⟩
  · simp only [Value.slice.injEq] at e
    obtain ⟨rfl, rfl, rfl⟩ := e
    have : K = 0 := by omega
    subst this
    exact .inl ⟨rfl, rfl⟩
  · simp only [Value.slice.injEq] at e
    obtain ⟨rfl, rfl, rfl⟩ := e
    exact RdV.takes h3 h4 h5 K K (by omega)
theorem RdRV.of_rows {w : World} {u : Value} {rs : List (List V)} (h : RdRows w u rs) (hz : ∀ n c, u = .slice none n c → n = 0 ∧ c = 0) : RdRV w u rs := by
  obtain ⟨hs, h1, h2⟩ := h.headsV fun cap e => (hz 0 cap e).2
  exact ⟨hs, h2, h1⟩

end Go.Proofs.Ytjpdpgjalbjmgaa

/-
  Two values held against each other by ==.
-/
namespace Go.Proofs.Ytjpdpgjalbjmgaa
open Go.RowKit Go.BigFrame

theorem eq_val (a b : V) (w : World) : (binOp .eql 35 a.val b.val).run Try.prog w = .ok (.bool (decide (a = b))) w := by
  obtain ⟨k, n, s⟩ := a
  obtain ⟨k', n', s'⟩ := b
  unfold V.val
  simp only [V.mk.injEq]
  simp [go_sem]
  by_cases h1 : k = k' <;> by_cases h2 : n = n' <;> by_cases h3 : s = s' <;> simp [h1, h2, h3]

end Go.Proofs.Ytjpdpgjalbjmgaa

/-
  The contract of the document's own SameRow.
-/
namespace Go.Proofs.Ytjpdpgjalbjmgaa
open Go.RowKit Go.BigFrame

theorem ne_val (a b : V) (w : World) : (binOp .neq 35 a.val b.val).run Try.prog w = .ok (.bool (decide (a ≠ b))) w := by
  obtain ⟨k, n, s⟩ := a
  obtain ⟨k', n', s'⟩ := b
  unfold V.val
  simp only [ne_eq, V.mk.injEq]
  simp [go_sem]
  by_cases h1 : k = k' <;> by_cases h2 : n = n' <;> by_cases h3 : s = s' <;> simp [h1, h2, h3]

set_option maxRecDepth 100000 in
theorem refSameRow_any (u v : Value) (xs ys : List V) (w : World) (hu : RdVals w u xs) (hv : RdVals w v ys) :
    Calls Try.prog 26 #[u, v] w fun e w' => e = .returned (.bool (decide (xs = ys))) ∧ Ext w w' := by
  obtain ⟨ao, ca, rfl, -, -⟩ := hu.shape
  obtain ⟨bo, cb, rfl, -, -⟩ := hv.shape
  obtain ⟨-, h1, h2, hca⟩ := hu.plain
  obtain ⟨-, h3, h4, hcb⟩ := hv.plain
  have HA := Lib.hid hca
  have HB := Lib.hid hcb
  unfold maxLen at h2 h4
  clear hu hv hca hcb
  by_cases hL : xs.length = ys.length
  · have HL := Lib.hid hL
    generalize hN : ys.length = N at h3
    rw [hL, hN] at h1 ⊢
    replace hN := Lib.hid hN
    clear hL
    go_enter Try.func26, Try.ntmps26
    go_wp2_with fail
    go_loopw [5] (fun i wr => ∃ j : Nat, j ≤ N ∧ i = .int .i64 j ∧ xs.take j = ys.take j ∧ Ext w wr) (fun i _ => N - (intOf i).toNat)
    case atStart => exact ⟨0, Nat.zero_le _, rfl, rfl, Ext.keeps.refl _⟩
    case round =>
      obtain ⟨j, hj, rfl, htk, hext⟩ := hrel
      have HT := Lib.hid htk
      have HE := Lib.hid hext
      clear htk hext
      by_cases hlt : j < N
      · have hjx : j < xs.length := by have := HL.out; have := hN.out; omega
        have hjy : j < ys.length := by have := hN.out; omega
        obtain ⟨g, off, rfl, a0, a1, a2⟩ := HA.out j hjx
        obtain ⟨g', off', rfl, b0, b1, b2⟩ := HB.out j hjy
        have LA := Lib.hid (fun (x : Addr) (y : Value) (h : w.cell? x = some y) (z : Later Ext wr.drew) => (show z.val.cell? x = some y from ((Ext.trans HE.out (Ext.trans (Ext.drew wr) z.ext)).cell (lt_of_cell h)).trans h))
        replace a0 := LA.out _ _ a0
        replace a1 := LA.out _ _ a1
        replace a2 := LA.out _ _ a2
        replace b0 := LA.out _ _ b0
        replace b1 := LA.out _ _ b1
        replace b2 := LA.out _ _ b2
        have HS := Lib.hid (show xs.take (j + 1) = xs.take j ++ [xs[j]] ∧ ys.take (j + 1) = ys.take j ++ [ys[j]] from ⟨List.take_succ_eq_append_getElem hjx, List.take_succ_eq_append_getElem hjy⟩)
        have HG := Lib.hid (show xs[j]? = some xs[j] ∧ ys[j]? = some ys[j] from ⟨List.getElem?_eq_getElem hjx, List.getElem?_eq_getElem hjy⟩)
        have hne := ne_val xs[j] ys[j]
        unfold V.val at hne
        generalize xs[j] = c at a0 a1 a2 HS HG hne
        generalize ys[j] = d at b0 b1 b2 HS HG hne
        clear hjx hjy
        by_cases hcd : c = d
        · subst hcd
          simp only [ne_eq, not_true_eq_false, decide_false] at hne
          go_wp2_with fail
          refine wp_region_segs Ext Ext.keeps [(List.range 9, none)] (by kernel_rfl) (by kernel_rfl) (fun c a a' w e h => (by exact ⟨e ▸ h.1, h.2⟩)) ?_
          simp only [List.range, List.range.loop, pickSegs, pickOps, List.map_cons, List.map_nil, Option.map_none, Option.getD_some, List.getElem?_toArray, List.getElem?_cons_zero, List.getElem?_cons_succ]
          refine wpSegs_none ?_
          repeat go_big_quiet_step (fail)
          refine wpQuiet_nil (wpSegs_nil ?_)
          clear a0 a1 a2 b0 b1 b2 hne
          go_wp2_with fail
          go_roundw
          case rel => exact ⟨j + 1, by omega, by go_num, by rw [HS.out.1, HS.out.2, HT.out], Ext.trans HE.out (Ext.drew wr)⟩
          case measure => simp [intOf]; omega
        · simp only [ne_eq, hcd, not_false_eq_true, decide_true] at hne
          have HNE := Lib.hid (show decide (xs = ys) = false from decide_eq_false (fun h => by subst h; have h1 := HG.out.1; rw [HG.out.2] at h1; exact hcd (Option.some.inj h1).symm))
          clear hcd
          go_wp2_with fail
          refine wp_region_segs Ext Ext.keeps [(List.range 9, none)] (by kernel_rfl) (by kernel_rfl) (fun c a a' w e h => (by exact ⟨e ▸ h.1, h.2⟩)) ?_
          simp only [List.range, List.range.loop, pickSegs, pickOps, List.map_cons, List.map_nil, Option.map_none, Option.getD_some, List.getElem?_toArray, List.getElem?_cons_zero, List.getElem?_cons_succ]
          refine wpSegs_none ?_
          repeat go_big_quiet_step (fail)
          refine wpQuiet_nil (wpSegs_nil ?_)
          clear a0 a1 a2 b0 b1 b2 hne
          go_wp2_with fail
          go_ret
          exact ⟨by rw [HNE.out]; rfl, Ext.trans HE.out (Ext.drew wr)⟩
      · have HEQ := Lib.hid (show decide (xs = ys) = true from decide_eq_true (by have h := HT.out; rw [List.take_of_length_le (by have := HL.out; have := hN.out; omega), List.take_of_length_le (by have := hN.out; omega)] at h; exact h))
        go_wp2_with fail
        go_ret
        exact ⟨by rw [HEQ.out]; rfl, HE.out⟩
  · have HNE := Lib.hid (show decide (xs = ys) = false from decide_eq_false (fun h => hL (by rw [h])))
    have hq : ((xs.length : Int) == (ys.length : Int)) = false := by rw [beq_eq_false_iff_ne]; omega
    clear hL
    generalize xs.length = M at hq h1 ⊢
    generalize ys.length = N at hq h3 ⊢
    go_enter Try.func26, Try.ntmps26
    go_wp2_with fail
    go_ret
    exact ⟨by rw [HNE.out]; rfl, Ext.keeps.refl _⟩

end Go.Proofs.Ytjpdpgjalbjmgaa

/-
  The document's own answers: are both lists of rows, are rows in order, do keys begin with others, why rows can't be ordered so.
-/
namespace Go.Proofs.Ytjpdpgjalbjmgaa
open Go.RowKit Go.BigFrame

set_option maxRecDepth 100000 in
set_option maxHeartbeats 1000000 in
theorem refSameRows_any (u v : Value) (xs ys : List (List V)) (w : World) (hu : RdRows w u xs) (hv : RdRows w v ys) :
    Calls Try.prog 15 #[u, v] w fun e w' => e = .returned (.bool (decide (xs = ys))) ∧ Ext w w' := by
  obtain ⟨ao, ca, rfl, -, -⟩ := hu.shape
  obtain ⟨bo, cb, rfl, -, -⟩ := hv.shape
  obtain ⟨as', ha1, -, h1, h2, hca⟩ := hu.heads
  obtain ⟨bs, hb1, -, h3, h4, hcb⟩ := hv.heads
  have HA := Lib.hid hca
  have HB := Lib.hid hcb
  have HHA := Lib.hid ha1
  have HHB := Lib.hid hb1
  unfold maxLen at h2 h4
  clear hu hv hca hcb ha1 hb1
  by_cases hL : xs.length = ys.length
  · have HL := Lib.hid hL
    generalize hN : ys.length = N at h3
    rw [hL, hN] at h1 ⊢
    replace hN := Lib.hid hN
    clear hL
    go_enter Try.func15, Try.ntmps15
    go_wp2_with fail
    go_loopw [5] (fun i wr => ∃ j : Nat, j ≤ N ∧ i = .int .i64 j ∧ xs.take j = ys.take j ∧ Ext w wr) (fun i _ => N - (intOf i).toNat)
    case atStart => exact ⟨0, Nat.zero_le _, rfl, rfl, Ext.keeps.refl _⟩
    case round =>
      obtain ⟨j, hj, rfl, htk, hext⟩ := hrel
      have HT := Lib.hid htk
      have HE := Lib.hid hext
      clear htk hext
      by_cases hlt : j < N
      · have hjx : j < xs.length := by have := HL.out; have := hN.out; omega
        have hjy : j < ys.length := by have := hN.out; omega
        obtain ⟨a1, a2, a3, ha, hra⟩ := HHA.out.get j hjx
        obtain ⟨b1, b2, b3, hb, hrb⟩ := HHB.out.get j hjy
        obtain ⟨g, off, rfl, c0⟩ := HA.out j _ ha
        obtain ⟨g', off', rfl, c1⟩ := HB.out j _ hb
        have z0 : ∀ z : Later Ext wr.drew, z.val.cell? ⟨g, off + j, none⟩ = some (.slice a1 a2 a3) := fun z => ((Ext.trans HE.out (Ext.trans (Ext.drew wr) z.ext)).cell (lt_of_cell c0)).trans c0
        have z1 : ∀ z : Later Ext wr.drew, z.val.cell? ⟨g', off' + j, none⟩ = some (.slice b1 b2 b3) := fun z => ((Ext.trans HE.out (Ext.trans (Ext.drew wr) z.ext)).cell (lt_of_cell c1)).trans c1
        have HS := Lib.hid (show xs.take (j + 1) = xs.take j ++ [xs[j]] ∧ ys.take (j + 1) = ys.take j ++ [ys[j]] from ⟨List.take_succ_eq_append_getElem hjx, List.take_succ_eq_append_getElem hjy⟩)
        have HG := Lib.hid (show xs[j]? = some xs[j] ∧ ys[j]? = some ys[j] from ⟨List.getElem?_eq_getElem hjx, List.getElem?_eq_getElem hjy⟩)
        have HSR := Lib.hid (refSameRow_any _ _ xs[j] ys[j] wr.drew (hra.mono (Ext.trans HE.out (Ext.drew wr))) (hrb.mono (Ext.trans HE.out (Ext.drew wr))))
        generalize xs[j] = c at HS HG HSR
        generalize ys[j] = d at HS HG HSR
        clear hra hrb ha hb c0 c1
        by_cases he : c = d
        · rw [decide_eq_true he] at HSR
          have HEQ := Lib.hid he
          clear he
          go_wp2_with fail
          refine wp_region_segs Ext Ext.keeps [([0, 1, 2, 3, 4, 5, 6, 7], some 8), ([9], none)] (by kernel_rfl) (by kernel_rfl) (fun c a a' w e h => (by exact ⟨e ▸ h.1, h.2⟩)) ?_
          simp only [pickSegs, pickOps, List.map_cons, List.map_nil, Option.map_some, Option.map_none, Option.getD_some, List.getElem?_toArray, List.getElem?_cons_zero, List.getElem?_cons_succ]
          refine wpSegs_some fun K' hK' => ?_
          repeat go_big_quiet_step (fail)
          refine wpQuiet_nil ?_
          clear z0 z1
          go_wp2_with fail
          refine (HSR.out).mono ?_
          rintro e w3 ⟨rfl, hx3⟩
          have HX3 := Lib.hid hx3
          clear hx3
          go_wp2_with fail
          refine ⟨HX3.out, hK' _ _ ?_⟩
          clear hK' K'
          refine wpSegs_none ?_
          repeat go_big_quiet_step (fail)
          refine wpQuiet_nil (wpSegs_nil ?_)
          go_wp2_with fail
          go_roundw
          case rel => exact ⟨j + 1, by omega, by go_num, by rw [HS.out.1, HS.out.2, HT.out, HEQ.out], Ext.trans HE.out (Ext.trans (Ext.drew wr) HX3.out)⟩
          case measure => simp [intOf]; omega
        · rw [decide_eq_false he] at HSR
          have HNE := Lib.hid (show xs ≠ ys from fun h => by
            have h1 := HG.out.1
            rw [h, HG.out.2] at h1
            exact he (Option.some.inj h1).symm)
          clear he
          go_wp2_with fail
          refine wp_region_segs Ext Ext.keeps [([0, 1, 2, 3, 4, 5, 6, 7], some 8), ([9], none)] (by kernel_rfl) (by kernel_rfl) (fun c a a' w e h => (by exact ⟨e ▸ h.1, h.2⟩)) ?_
          simp only [pickSegs, pickOps, List.map_cons, List.map_nil, Option.map_some, Option.map_none, Option.getD_some, List.getElem?_toArray, List.getElem?_cons_zero, List.getElem?_cons_succ]
          refine wpSegs_some fun K' hK' => ?_
          repeat go_big_quiet_step (fail)
          refine wpQuiet_nil ?_
          clear z0 z1
          go_wp2_with fail
          refine (HSR.out).mono ?_
          rintro e w3 ⟨rfl, hx3⟩
          have HX3 := Lib.hid hx3
          clear hx3
          go_wp2_with fail
          refine ⟨HX3.out, hK' _ _ ?_⟩
          clear hK' K'
          refine wpSegs_none ?_
          repeat go_big_quiet_step (fail)
          refine wpQuiet_nil (wpSegs_nil ?_)
          go_wp2_with fail
          go_ret
          exact ⟨by rw [decide_eq_false HNE.out]; rfl, Ext.trans HE.out (Ext.trans (Ext.drew wr) HX3.out)⟩
      · have HEQ := Lib.hid (show xs = ys by
          have h := HT.out
          have := HL.out
          have := hN.out
          rwa [List.take_of_length_le (by omega), List.take_of_length_le (by omega)] at h)
        go_wp2_with fail
        go_ret
        exact ⟨by rw [decide_eq_true HEQ.out]; rfl, HE.out⟩
  · have hne : xs ≠ ys := fun h => hL (by rw [h])
    rw [decide_eq_false hne]
    generalize xs.length = n at h1 hL
    generalize ys.length = k at h3 hL
    have q1 : ((n : Int) != (k : Int)) = true := bne_iff_ne.2 (by omega)
    clear hL
    go_enter Try.func15, Try.ntmps15
    go_wp2_with fail
    go_ret
    exact ⟨rfl, Ext.keeps.refl _⟩

/-- Rows that fit. -/
def FitRs (m : Nat) (rs : List (List V)) : Prop := ∀ r ∈ rs, FitR m r

set_option maxRecDepth 100000 in
set_option maxHeartbeats 1000000 in
theorem refSorted15_any (u x : Value) (rs : List (List V)) (ks : List Ky) (m : Nat) (w : World) (hu : RdRows w u rs) (hx : RdKs w x ks) (hf : FitRs m rs) :
    Calls Try.prog 17 #[u, x] w fun e w' => e = .returned (.bool (sortedR ks rs)) ∧ Ext w w' := by
  obtain ⟨ao, ca, rfl, -, -⟩ := hu.shape
  obtain ⟨ko, kcap, rfl, -, -⟩ := hx.shape
  obtain ⟨as', ha1, -, h1, h2, hca⟩ := hu.heads
  have HA := Lib.hid hca
  have HHA := Lib.hid ha1
  have HC := Lib.hid (fun a b u v W (h : Ext w W) (hu : RdVals W u a) (hv : RdVals W v b) (ha : a ∈ rs) (hb : b ∈ rs) => refCompare15_any u v _ a b ks m W hu hv (hx.mono h) (hf a ha) (hf b hb))
  generalize ks.length = KN at HC ⊢
  unfold maxLen at h2
  obtain ⟨N, hN⟩ : ∃ N, rs.length = N := ⟨_, rfl⟩
  have HN := Lib.hid hN
  rw [hN] at h1 ⊢
  clear hu hx hca ha1 hN hf
  go_enter Try.func17, Try.ntmps17
  go_wp2_with fail
  go_loopw [5] (fun i wr => ∃ j : Nat, 1 ≤ j ∧ j ≤ N + 1 ∧ i = .int .i64 j ∧ (∀ i, (h : i + 1 < rs.length) → i + 1 < j → cmpR ks (rs[i]'(by omega)) rs[i + 1] ≤ 0) ∧ Ext w wr) (fun i _ => N + 1 - (intOf i).toNat)
  case atStart => exact ⟨1, Nat.le_refl _, by omega, rfl, fun i _ h => by omega, Ext.keeps.refl _⟩
  case round =>
    obtain ⟨j, hj0, hj, rfl, hs, hext⟩ := hrel
    have HS := Lib.hid hs
    have HE := Lib.hid hext
    clear hs hext
    by_cases hlt : j < N
    · have hjl : j < rs.length := by have := HN.out; omega
      obtain ⟨a1, a2, a3, ha, hra⟩ := HHA.out.get (j - 1) (by omega)
      obtain ⟨b1, b2, b3, hb, hrb⟩ := HHA.out.get j hjl
      obtain ⟨g, off, rfl, c0⟩ := HA.out (j - 1) _ ha
      obtain ⟨g', off', hgo, c1⟩ := HA.out j _ hb
      have hgo2 : g' = g ∧ off' = off := by simpa [eq_comm] using hgo
      obtain ⟨rfl, rfl⟩ := hgo2
      have e1 : (j : Int) - 1 = ((j - 1 : Nat) : Int) := by omega
      have z0 : ∀ z : Later Ext wr.drew, z.val.cell? ⟨g', off' + (j - 1), none⟩ = some (.slice a1 a2 a3) := fun z => ((Ext.trans HE.out (Ext.trans (Ext.drew wr) z.ext)).cell (lt_of_cell c0)).trans c0
      have z1 : ∀ z : Later Ext wr.drew, z.val.cell? ⟨g', off' + j, none⟩ = some (.slice b1 b2 b3) := fun z => ((Ext.trans HE.out (Ext.trans (Ext.drew wr) z.ext)).cell (lt_of_cell c1)).trans c1
      have HCC := Lib.hid (HC.out _ _ _ _ wr.drew (Ext.trans HE.out (Ext.drew wr)) (hra.mono (Ext.trans HE.out (Ext.drew wr))) (hrb.mono (Ext.trans HE.out (Ext.drew wr))) (List.getElem_mem _) (List.getElem_mem _))
      have HNX := Lib.hid (show ¬ 0 < cmpR ks (rs[j - 1]'(by omega)) rs[j] → ∀ i, (h : i + 1 < rs.length) → i + 1 < j + 1 → cmpR ks (rs[i]'(by omega)) rs[i + 1] ≤ 0 from fun hc i h hi => by
        by_cases e : i + 1 = j
        · subst e
          simp only [Nat.add_sub_cancel] at hc
          omega
        · exact HS.out i h (by omega))
      have HNO := Lib.hid (show 0 < cmpR ks (rs[j - 1]'(by omega)) rs[j] → sortedR ks rs = false from fun hc => decide_eq_false fun h => by
        have h := (OrdPure.rising_iff rs).1 h (j - 1) j (by omega) hjl
        omega)
      generalize cmpR ks (rs[j - 1]'(by omega)) rs[j] = C at HCC HNX HNO
      clear hra hrb ha hb c0 c1 hgo
      by_cases hC : 0 < C
      · have HR := Lib.hid (HNO.out hC)
        have d1 : decide (C > 0) = true := decide_eq_true hC
        clear hC
        go_wp2_with fail
        refine wp_region_segs Ext Ext.keeps [([0, 1, 2, 3, 4, 5, 6, 7, 8, 9], some 10), ([11], none)] (by kernel_rfl) (by kernel_rfl) (fun c a a' w e h => (by exact ⟨e ▸ h.1, h.2⟩)) ?_
        simp only [pickSegs, pickOps, List.map_cons, List.map_nil, Option.map_some, Option.map_none, Option.getD_some, List.getElem?_toArray, List.getElem?_cons_zero, List.getElem?_cons_succ]
        refine wpSegs_some fun K' hK' => ?_
        repeat go_big_quiet_step (fail)
        refine wpQuiet_nil ?_
        clear z0 z1
        go_wp2_with fail
        refine (HCC.out).mono ?_
        rintro e w3 ⟨rfl, hx3⟩
        have HX3 := Lib.hid hx3
        clear hx3
        go_wp2_with fail
        refine ⟨HX3.out, hK' _ _ ?_⟩
        clear hK' K'
        refine wpSegs_none ?_
        repeat go_big_quiet_step (fail)
        refine wpQuiet_nil (wpSegs_nil ?_)
        go_wp2_with fail
        go_ret
        exact ⟨by rw [HR.out]; rfl, Ext.trans HE.out (Ext.trans (Ext.drew wr) HX3.out)⟩
      · have HR := Lib.hid (HNX.out hC)
        have d1 : decide (C > 0) = false := decide_eq_false hC
        clear hC
        go_wp2_with fail
        refine wp_region_segs Ext Ext.keeps [([0, 1, 2, 3, 4, 5, 6, 7, 8, 9], some 10), ([11], none)] (by kernel_rfl) (by kernel_rfl) (fun c a a' w e h => (by exact ⟨e ▸ h.1, h.2⟩)) ?_
        simp only [pickSegs, pickOps, List.map_cons, List.map_nil, Option.map_some, Option.map_none, Option.getD_some, List.getElem?_toArray, List.getElem?_cons_zero, List.getElem?_cons_succ]
        refine wpSegs_some fun K' hK' => ?_
        repeat go_big_quiet_step (fail)
        refine wpQuiet_nil ?_
        clear z0 z1
        go_wp2_with fail
        refine (HCC.out).mono ?_
        rintro e w3 ⟨rfl, hx3⟩
        have HX3 := Lib.hid hx3
        clear hx3
        go_wp2_with fail
        refine ⟨HX3.out, hK' _ _ ?_⟩
        clear hK' K'
        refine wpSegs_none ?_
        repeat go_big_quiet_step (fail)
        refine wpQuiet_nil (wpSegs_nil ?_)
        go_wp2_with fail
        go_roundw
        case rel => exact ⟨j + 1, by omega, by omega, by go_num, HR.out, Ext.trans HE.out (Ext.trans (Ext.drew wr) HX3.out)⟩
        case measure => simp [intOf]; omega
    · have HR := Lib.hid (show sortedR ks rs = true from decide_eq_true ((sortedR_iff ks rs).2 fun i h => HS.out i h (by have := HN.out; omega)))
      go_wp2_with fail
      go_ret
      exact ⟨by rw [HR.out]; rfl, HE.out⟩

end Go.Proofs.Ytjpdpgjalbjmgaa
