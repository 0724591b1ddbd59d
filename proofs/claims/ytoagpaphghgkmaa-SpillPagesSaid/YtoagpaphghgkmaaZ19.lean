/-
  Texts of this proof, merged: SpiShown, SpillNil, OpenVal, OpenVals, OpenRows, SpillLays, SpiRoom, SpillPages, SpiCur, SpiBack.
-/
import Derived.Lib.SmallJoins
import Derived.Deep.Slices
import Derived.Deep.Fields
import Derived.Test.YtoagpaphghgkmaaZ18
import Derived.Test.YtoagpaphghgkmaaZ6
import Derived.Test.YtoagpaphghgkmaaZ3
import Derived.Test.YtoagpaphghgkmaaZ16
/-
  The document's examples of layer 17.
-/
namespace Go.Proofs.Ytoagpaphghgkmaa
open Go.RowKit Go.BigFrame

def row2 : List V := [⟨2, 5, []⟩, ⟨0, 0, []⟩]
theorem row2_bytes : rowsB [row2] = [2, 2, 10, 0] := by rfl
theorem row2_may : mayR row2 = 0 := by rfl
theorem row2_put : putR [none, none, none, none] [row2] = (([0], 0), [some (layP 0 [2, 2, 10, 0]), none, none, none]) := by
  rw [putR_all (by intro r hr; rw [List.mem_singleton] at hr; subst hr; exact row2_may), row2_bytes]
  rfl
theorem row2_read : readS [some (layP 0 [2, 2, 10, 0]), none, none, none] 0 = (fill [2, 2, 10, 0], 0) := read_laid (id := 0) rfl (by decide)
theorem row2_fit : FitB [row2] := ⟨by decide, fun r hr => by
  rw [List.mem_singleton] at hr
  subst hr
  refine ⟨by decide, fun v hv => ?_⟩
  simp only [row2, List.mem_cons, List.not_mem_nil, or_false] at hv
  rcases hv with rfl | rfl <;> exact ⟨⟨by decide, by decide, by decide, by decide⟩, by decide⟩⟩
theorem fill4 : (fill [2, 2, 10, 0]).take 4 = [2, 2, 10, 0] := by rfl

theorem Rd.cut17 {w : World} {ao : Option Addr} {L cap n : Nat} {l : List UInt8} (h : Rd w (.slice ao L cap) l) (hL : L = l.length) (hn : n ≤ L) : Rd w (.slice ao n cap) (l.take n) := by
  rcases h with ⟨h0, h1⟩ | ⟨x, cap', h0, h2, h3, h4⟩
  · simp only [Value.slice.injEq] at h0
    obtain ⟨rfl, h0, rfl⟩ := h0
    have e1 : n = 0 := by omega
    have e2 : l = [] := by simpa using h1
    rw [e1, e2]
    exact Rd.nil _
  · simp only [Value.slice.injEq] at h0
    obtain ⟨rfl, _, rfl⟩ := h0
    have := RdV.takes h2 h3 h4 n n (by rw [List.length_map]; omega)
    rwa [← List.map_take] at this


theorem RdVals.apart17 {Y : Nat → Prop} {w w' : World} {g off n cap : Nat} {r : List V} (h : RdVals w (.slice (some ⟨g, off, none⟩) n cap) r) (ho : OnlyS Y w w') (hx : ¬ Y g) : RdVals w' (.slice (some ⟨g, off, none⟩) n cap) r := by
  obtain ⟨ao, c, h1, h2, h3, h4⟩ := h
  simp only [Value.slice.injEq] at h1
  obtain ⟨rfl, rfl, rfl⟩ := h1
  refine ⟨_, _, rfl, h2, h3, fun j hj => ?_⟩
  obtain ⟨g', off', h5, h6⟩ := h4 j hj
  simp only [Option.some.injEq, Addr.mk.injEq] at h5
  obtain ⟨rfl, rfl, -⟩ := h5
  exact ⟨_, _, rfl, fun i y hy => ho.cell (h6 i y hy) hx⟩

/-- A row in new memory, and rows of it, whatever changes elsewhere. -/
theorem lit_rows1 (w W : World) (r : List V) (hl : r.length ≤ maxLen) (X : Nat → Prop) (hX : ∀ b, X b → b < w.heap.size)
    (hW : OnlyS X ((w.alloc (.cells (r.flatMap V.cells).toArray 59)).alloc (.cells #[.slice (some ⟨w.heap.size, 0, none⟩) r.length r.length] 54)) W) : RdRows W (.slice (some ⟨w.heap.size + 1, 0, none⟩) 1 1) [r] := by
  have hc : ∀ r : List V, (r.flatMap V.cells).length = r.length * 3 := fun r => by
    induction r with
    | nil => rfl
    | cons v t ih => rw [List.flatMap_cons, List.length_append, ih, List.length_cons]; show 3 + _ = _; omega
  have h := World.ownsRow_lit (base := w.heap.size) (e := 59) (size := 3) w (r.flatMap V.cells).toArray r.length (Nat.le_refl _) hl (by rw [List.size_toArray, hc])
  have h1 : RdVals (w.alloc (.cells (r.flatMap V.cells).toArray 59)) (.slice (some ⟨w.heap.size, 0, none⟩) r.length r.length) r := RdVals.of_owns (by simpa using h)
  have e : (w.alloc (.cells (r.flatMap V.cells).toArray 59)).heap.size = w.heap.size + 1 := by simp only [World.alloc, Array.size_push]
  have h2 := World.ownsRow_lit (base := w.heap.size) (e := 54) (size := 1) (w.alloc (.cells (r.flatMap V.cells).toArray 59)) #[.slice (some ⟨w.heap.size, 0, none⟩) r.length r.length] 1 (by omega) (by simp [maxLen]) (by simp)
  rw [e] at h2
  have h3 := RdV.of_owns h2
  exact RdRows.of_heads (hs := [.slice (some ⟨w.heap.size, 0, none⟩) r.length r.length]) (RdV.onlyS (by simpa using h3) hW (fun _ k hk hx => by
    cases hk
    have h4 : w.heap.size + 1 < w.heap.size := hX _ hx
    omega)) (HdRows.one ((h1.mono (ext_new _ _)).apart17 hW (fun hx => Nat.lt_irrefl _ (hX _ hx))))

set_option maxRecDepth 100000 in
set_option maxHeartbeats 4000000 in
theorem shown17_any (w : World) : Calls Try.prog 9 #[] w fun e w' => e = .returned (.bool true) ∧ Ext w w' := by
  go_enter Try.func9, Try.ntmps9
  go_wp2_with fail
  refine (pNew_any 4 (by decide)).mono ?_
  rintro e w1 hN
  unfold PNewed at hN
  rcases hN with ⟨_, _, p, O1, rfl, hp1, ho1, hx1⟩ | ⟨h, _⟩
  · have HP1 := Lib.hid (show PSto O1 w1 p [none, none, none, none] from hp1)
    have HO1 := Lib.hid ho1
    have HX1 := Lib.hid hx1
    obtain ⟨W2, hW2⟩ : ∃ W2, ((w1.alloc (.cells #[.int .u8 2, .int .i64 5, .string ⟨#[]⟩, .int .u8 0, .int .i64 0, .string ⟨#[]⟩] 59)).alloc (.cells #[.slice (some ⟨w1.heap.size, 0, none⟩) 2 2] 54)) = W2 := ⟨_, rfl⟩
    have HLIT := Lib.hid (show RdRows W2 (.slice (some ⟨w1.heap.size + 1, 0, none⟩) 1 1) [row2] from lit_rows1 w1 W2 row2 (by decide) (fun _ => False) (fun _ h => h.elim) (hW2 ▸ OnlyS.refl _ _))
    have HXL := Lib.hid (show Ext w1 W2 from hW2 ▸ Ext.trans (ext_new _ _) (ext_new _ _))
    have HP2 := Lib.hid (HP1.out.mono HXL.out)
    have HNO := Lib.hid (show ∀ W, OnlyS O1 W2 W → RdRows W (.slice (some ⟨w1.heap.size + 1, 0, none⟩) 1 1) [row2] from fun W hW => by
      exact lit_rows1 w1 W row2 (by decide) O1 (fun b hb => HP1.out.lt b hb) (hW2 ▸ hW))
    clear hp1 ho1 hx1
    go_wp2_with fail
    clear hW2
    refine (pPut17_any O1 p [none, none, none, none] _ [row2] W2 HP2.out ⟨by decide, fun p hp => by simp at hp⟩ HNO.out row2_fit).mono ?_
    rintro e w3 ⟨v3, O3, rfl, hp3, ho3, hn3, hv3⟩
    rw [row2_put] at hp3 hv3 ⊢
    rcases hv3 with ⟨hv3, -⟩ | ⟨-, f, F, rfl, hf3, hF3⟩
    · exact absurd rfl hv3
    have HP3 := Lib.hid hp3
    have HO3 := Lib.hid ho3
    have HN3 := Lib.hid hn3
    have HF3 := Lib.hid hf3
    have HFO3 := Lib.hid hF3
    have HL3 := Lib.hid (HNO.out w3 ho3)
    have HOK := Lib.hid (show okS [some (layP 0 [2, 2, 10, 0]), none, none, none] from ⟨by decide, fun p hp => by simp at hp; subst hp; exact layP_length 0 _ (by decide)⟩)
    clear hp3 ho3 hn3 hf3 hF3
    go_wp2_with fail
    refine (pRead_any (O := O3) 0 HP3.out HOK.out (by decide)).mono ?_
    rintro e w4 ⟨v4, rfl, hown4, O4, hp4, ho4, hn4, hv4⟩
    rw [row2_read] at hown4 ⊢
    obtain ⟨a4, c4, rfl, h4a, h4b⟩ := OwnP.shape hown4
    rw [show (fill [2, 2, 10, 0]).length = 56 from fill_length _ (by decide)] at hown4 h4a ⊢
    have HB4 := Lib.hid (show Rd w4 (.slice a4 56 c4) (fill [2, 2, 10, 0]) from hown4.rd)
    have HF4 := Lib.hid (HF3.out.keep ho4 (fun b hb hf => (HFO3.out b hf).2 hb))
    have HL4 := Lib.hid (show RdRows w4 (.slice (some ⟨w1.heap.size + 1, 0, none⟩) 1 1) [row2] from HNO.out w4 (HO3.out.trans (ho4.mono (fun b hb hx => hx)) (fun b hb hx => by
      rcases HN3.out b hx with h | h
      · exact h
      · omega)))
    have HX4 := Lib.hid (show Ext w w4 from by
      have s1 := HX1.out.size
      have s2 := HXL.out.size
      have s3 := HO3.out.size
      exact Below.trans (Below.trans (Ext.trans HX1.out HXL.out) (HO3.out.below (by omega) HO1.out)) (ho4.below (by omega) (fun b hb => by
        rcases HN3.out b hb with h | h
        · exact HO1.out b h
        · omega)))
    have h4c : (4 : Nat) ≤ c4 := by omega
    have hlit : ∀ (W : World) (xs : List Int), xs.length ≤ 4 → RdV (W.alloc (.cells (xs.map (Value.int .i64)).toArray 3)) (.slice (some ⟨W.heap.size, 0, none⟩) xs.length xs.length) (xs.map (Value.int .i64)) := fun W xs hl => .inr ⟨⟨W.heap.size, 0, none⟩, xs.length, by rw [List.length_map], by rw [List.length_map]; exact Nat.le_refl _, by unfold maxLen; omega, row_new W (xs.map (Value.int .i64)) 3⟩
    have HL := Lib.hid hlit
    clear hown4 hp4 ho4 hn4 hv4 HP3 HO3 HN3 HFO3 HF3 HL3 HP2 HNO hlit
    go_wp2_with fail
    refine (pPages17_any F f p [0] 1 w4 HF4.out).mono ?_
    rintro e w5 ⟨⟨v5, rfl, h5, -⟩, x5⟩
    have H5 := Lib.hid (show RdV w5 v5 ([0].map (Value.int .i64)) from h5)
    have HX5 := Lib.hid x5
    clear h5 x5
    go_wp2_with fail
    refine (refInts_any v5 _ [0] [0] _ (H5.out.mono (ext_new w5 _)) (HL.out w5 [0] (by decide)) (by decide) (by decide)).mono ?_
    rintro e w6 ⟨rfl, hx6⟩
    have HX6 := Lib.hid (show Ext w4 w6 from Ext.trans HX5.out (Ext.trans (ext_new w5 _) hx6))
    clear hx6
    rw [decide_eq_true rfl]
    have HB6 := Lib.hid (show Rd w6 (.slice a4 4 c4) [2, 2, 10, 0] from by
      have h := (HB4.out.mono HX6.out).cut17 (n := 4) (by rw [fill_length _ (by decide)]) (by decide)
      rwa [fill4] at h)
    have hcv := HB6.out.string (P := Try.prog) 43 9 5 Try.underlying43 Try.underlying5 Try.underlying9
    go_wp2_with fail
    refine (pBytes17_any _ [row2] _ (HL4.out.mono HX6.out) row2_fit (by intro r hr; rw [List.mem_singleton] at hr; subst hr; exact row2_may)).mono ?_
    rintro e w7 ⟨rfl, hx7⟩
    rw [row2_bytes]
    have HX7 := Lib.hid (Ext.trans HX4.out (Ext.trans HX6.out hx7))
    clear hx7
    go_wp2_with fail
    go_ret
    exact ⟨rfl, HX7.out⟩
  · exact absurd (by decide) h

end Go.Proofs.Ytoagpaphghgkmaa

/-
  The walk of the law SpillNil.
-/
namespace Go.Proofs.Ytoagpaphghgkmaa
open Go.RowKit Go.BigFrame

set_option maxRecDepth 100000 in
set_option maxHeartbeats 4000000 in
theorem spillNil_walk (u : Value) (r : List V) (w : World) (hu : RdVals w u r) (_hf : ∀ v ∈ r, v.fits ∧ v.s.length ≤ maxLen) :
    Calls Try.prog 7 #[u] w fun e w' => e = .returned (.bool true) ∧ Below w.heap.size w w' := by
  have HU := Lib.hid hu
  clear hu
  go_enter Try.func7, Try.ntmps7
  go_wp2_with fail
  refine (shown17_any _).mono ?_
  rintro e w1 ⟨rfl, x1⟩
  have X1 := Lib.hid x1
  clear x1
  go_wp2_with fail
  refine (pDoneNil17_any _).mono ?_
  rintro e w2 ⟨⟨v2, rfl⟩, x2⟩
  have X2 := Lib.hid (Ext.trans X1.out x2)
  clear x2
  go_wp2_with fail
  refine (pNextNil17_any _).mono ?_
  rintro e w3 ⟨⟨v3, rfl⟩, x3⟩
  have X3 := Lib.hid (Ext.trans X2.out x3)
  clear x3
  go_wp2_with fail
  refine (pCancelNil17_any _).mono ?_
  rintro e w4 ⟨⟨v4, rfl⟩, x4⟩
  have X4 := Lib.hid (Ext.trans X3.out x4)
  clear x4
  go_wp2_with fail
  refine (pDropNil17_any _).mono ?_
  rintro e w5 ⟨⟨v5, rfl⟩, x5⟩
  have X5 := Lib.hid (Ext.trans X4.out x5)
  clear x5
  go_wp2_with fail
  refine (pPutNil17_any _).mono ?_
  rintro e w6 ⟨rfl, x6⟩
  have X6 := Lib.hid (Ext.trans X5.out x6)
  clear x6
  go_wp2_with fail
  refine (pAddNil17_any u r _ (HU.out.mono X6.out)).mono ?_
  rintro e w7 ⟨rfl, x7⟩
  have X7 := Lib.hid (Ext.trans X6.out x7)
  clear x7
  go_wp2_with fail
  refine (pManyNil17_any _).mono ?_
  rintro e w8 ⟨rfl, x8⟩
  have X8 := Lib.hid (Ext.trans X7.out x8)
  clear x8
  go_wp2_with fail
  refine (pPagesNil17_any _).mono ?_
  rintro e w9 ⟨⟨v9, rfl, h9⟩, x9⟩
  have X9 := Lib.hid (Ext.trans X8.out x9)
  obtain ⟨a9, c9, rfl, -, -, -⟩ := RdV.cellsAt (show RdV w9 v9 (([] : List Int).map (Value.int .i64)) from h9)
  clear x9 h9
  go_wp2_with fail
  refine (pOpenNil17_any _).mono ?_
  rintro e w10 ⟨rfl, x10⟩
  have X10 := Lib.hid (Ext.trans X9.out x10)
  clear x10
  go_wp2_with fail
  refine (pNewNil17_any _).mono ?_
  rintro e w11 ⟨⟨f, rfl, h11⟩, x11⟩
  have X11 := Lib.hid (Ext.trans X10.out x11)
  have H11 := Lib.hid h11
  clear x11 h11
  go_wp2_with fail
  refine (pAddNone17_any f _ H11.out).mono ?_
  rintro e w12 ⟨rfl, x12⟩
  have X12 := Lib.hid (Ext.trans X11.out x12)
  clear x12
  go_wp2_with fail
  go_ret
  exact ⟨rfl, X12.out⟩

end Go.Proofs.Ytoagpaphghgkmaa

/-
  What an argument that came in as a value of the document (a struct of a kind, a number, a text) is to a walk.
-/
namespace Go.Proofs.Ytoagpaphghgkmaa
open Go.ChangeShapes Go.WideShapes Go.ChangeAt Go.RowKit Go.Joins Go.Deep

section
variable {H : Type} {enc : TypeId × Value → H} {P : Program} {w : World} {base : Nat} {held : Bool}

theorem read_val {r : Reach} {b0 : Nat} {t : TypeId} {f0 f1 f2 : Field} {v : Value} {d : DataW H} {p : List MemPlace} (hs : P.underlying t = some (.struct #[f0, f1, f2])) (h0 : P.underlying f0.type = some (.int .u8)) (h1 : P.underlying f1.type = some (.int .i64)) (h2 : P.underlying f2.type = some .string)
    (hone : oneCellFields P #[f0, f1, f2] = true) (hC : P.cellsOf t = 3)
    (hv : Value.okWide P w r b0 t v) (h : DataW.Trod enc P w base (fun _ => true) held t v d p) :
    ∃ a : V, v = a.val ∧ a.fits ∧ a.s.length ≤ maxLen := by
  obtain ⟨v0, v1, v2, y0, y1, y2, n, rfl, _, _, t0, t1, t2⟩ := open_agg3 hs hone hC hv h
  obtain ⟨z0, e0, _, w0⟩ := DataW.trod_int h0 t0
  obtain ⟨z1, e1, _, w1⟩ := DataW.trod_int h1 t1
  obtain ⟨s, e2, _, w2⟩ := DataW.trod_string h2 t2
  simp only [List.cons.injEq, and_true] at e0 e1 e2
  subst e0 e1 e2
  have b0 := bounds_u8 w0
  have b1 := bounds_i64 w1
  refine ⟨⟨z0, z1, s.data.toList⟩, ?_, ⟨b0.1, b0.2, b1.1, b1.2⟩, ?_⟩
  · unfold V.val
    cases s
    simp
  · show s.data.toList.length ≤ maxLen
    cases s
    simpa [ByteArray.size] using w2

end
end Go.Proofs.Ytoagpaphghgkmaa

/-
  What an argument that came in as a row of values of the document is to a walk.
-/
namespace Go.Proofs.Ytoagpaphghgkmaa
open Go.ChangeShapes Go.WideShapes Go.ChangeAt Go.RowKit Go.Joins Go.Deep

section
variable {H : Type} {enc : TypeId × Value → H} {P : Program} {w : World} {base : Nat} {held : Bool}

theorem read_vals {t e : TypeId} {f0 f1 f2 : Field} {v : Value} {d : DataW H} {ps : List MemPlace} (ht : P.underlying t = some (.slice e)) (hs : P.underlying e = some (.struct #[f0, f1, f2])) (h0 : P.underlying f0.type = some (.int .u8)) (h1 : P.underlying f1.type = some (.int .i64)) (h2 : P.underlying f2.type = some .string)
    (hone : oneCellFields P #[f0, f1, f2] = true) (hC : P.cellsOf e = 3) (hv : v.cells.toList = [v]) (h : DataW.Trod enc P w base (fun _ => true) held t v d ps) :
    ∃ vs : List V, RdVals w v vs ∧ ∀ x ∈ vs, x.fits ∧ x.s.length ≤ maxLen := by
  obtain ⟨fuel, hf⟩ := h
  rw [hv] at hf
  rcases open_slice ht hf with ⟨hcs, _⟩ | ⟨a, len, cap, m, n, D, Pl, hcs, _, hl, hm, hmm, _, hi⟩
  · obtain rfl : v = .slice none 0 0 := by simpa using hcs
    exact ⟨[], ⟨none, 0, rfl, Nat.le_refl _, by simp [maxLen], fun j hj => by simp at hj⟩, by simp⟩
  · obtain rfl : v = .slice (some a) len cap := by simpa using hcs
    have hmc : m = cap := by simpa using hmm
    have key : ∀ i, i < len → ∃ x : V, (x.fits ∧ x.s.length ≤ maxLen) ∧ ∀ j y, x.cells[j]? = some y → w.cell? ((a.add (i * 3)).add j) = some y := fun i hi' => by
      obtain ⟨cs, hc, ht'⟩ := hi i (by omega)
      rw [hC] at hc
      obtain ⟨_, hcl, hat⟩ := World.cells?_some hc
      match cs, hcl with
      | [c0, c1, c2], _ =>
        obtain ⟨y0, y1, y2, n', _, _, k0, k1, k2⟩ := trod_struct3 hs ht'
        obtain ⟨o0, q0⟩ := hone_of hone 0 f0 rfl
        obtain ⟨o1, q1⟩ := hone_of hone 1 f1 rfl
        obtain ⟨o2, q2⟩ := hone_of hone 2 f2 rfl
        rw [o0, q0] at k0
        rw [o1, q1] at k1
        rw [o2, q2] at k2
        obtain ⟨z0, e0, _, w0⟩ := DataW.trod_int h0 k0
        obtain ⟨z1, e1, _, w1⟩ := DataW.trod_int h1 k1
        obtain ⟨s, e2, _, w2⟩ := DataW.trod_string h2 k2
        have e0' : c0 = .int .u8 z0 := by simpa using e0
        have e1' : c1 = .int .i64 z1 := by simpa using e1
        have e2' : c2 = .string s := by simpa using e2
        subst e0' e1' e2'
        have b0 := bounds_u8 w0
        have b1 := bounds_i64 w1
        have hsl : s.data.toList.length = s.size := Array.length_toList
        have hss : (⟨s.data.toList.toArray⟩ : ByteArray) = s := by cases s; simp
        refine ⟨⟨z0, z1, s.data.toList⟩, ⟨⟨b0.1, b0.2, b1.1, b1.2⟩, by show s.data.toList.length ≤ _; rw [hsl]; exact w2⟩, fun j y hj => ?_⟩
        unfold V.cells at hj
        simp only [hss] at hj
        have hj3 : j < 3 := by
          have := (List.getElem?_eq_some_iff.1 hj).1
          simpa using this
        rw [hat j hj3]
        exact hj
    have hall : ∃ vs : List V, vs.length = len ∧ ∀ i, (hi : i < vs.length) → (vs[i].fits ∧ vs[i].s.length ≤ maxLen) ∧ ∀ j y, (vs[i].cells)[j]? = some y → w.cell? ((a.add (i * 3)).add j) = some y := by
      refine ⟨(List.range len).map fun i => if h : i < len then (key i h).choose else V.zero, by simp, fun i hi' => ?_⟩
      have hil : i < len := by simpa using hi'
      rw [List.getElem_map, List.getElem_range, dif_pos hil]
      exact (key i hil).choose_spec
    obtain ⟨vs, hlen, hvs⟩ := hall
    refine ⟨vs, ⟨some a, cap, by rw [hlen], by omega, hm, fun j hj => ?_⟩, fun x hx => ?_⟩
    · obtain ⟨b, off, spot⟩ := a
      have h00 := (hvs 0 (by omega)).2 0 _ rfl
      have hsp : spot = none := by
        have h := World.cell?_spot h00
        cases spot with
        | none => rfl
        | some x =>
          exfalso
          simp [Addr.add] at h
      subst hsp
      exact ⟨b, off, rfl, fun i y hy => by
        have := (hvs j hj).2 i y hy
        rw [add_at, add_at] at this
        exact this⟩
    · obtain ⟨i, hi', rfl⟩ := List.mem_iff_getElem.1 hx
      exact (hvs i hi').1


theorem read_nil {t e : TypeId} {v : Value} {d : DataW H} {ps : List MemPlace} (ht : P.underlying t = some (.slice e)) (hv : v.cells.toList = [v]) (h : DataW.Trod enc P w base (fun _ => true) held t v d ps) :
    ∀ n c, v = .slice none n c → n = 0 ∧ c = 0 := by
  intro n c hn
  obtain ⟨fuel, hf⟩ := h
  rw [hv] at hf
  rcases open_slice ht hf with ⟨hcs, _⟩ | ⟨a, len, cap, m, n, D, Pl, hcs, _⟩
  · obtain rfl : v = .slice none 0 0 := by simpa using hcs
    simp only [Value.slice.injEq] at hn
    exact ⟨hn.2.1.symm, hn.2.2.symm⟩
  · obtain rfl : v = .slice (some a) len cap := by simpa using hcs
    simp at hn

end
end Go.Proofs.Ytoagpaphghgkmaa

/-
  What an argument that came in as a row of rows of values of the document is to a walk.
-/
namespace Go.Proofs.Ytoagpaphghgkmaa
open Go.ChangeShapes Go.WideShapes Go.ChangeAt Go.RowKit Go.Joins Go.Deep

section
variable {H : Type} {enc : TypeId × Value → H} {P : Program} {w : World} {base : Nat} {held : Bool}

theorem read_rows {t r e : TypeId} {f0 f1 f2 : Field} {v : Value} {d : DataW H} {ps : List MemPlace} (ht : P.underlying t = some (.slice r)) (hr : P.underlying r = some (.slice e)) (hs : P.underlying e = some (.struct #[f0, f1, f2])) (h0 : P.underlying f0.type = some (.int .u8)) (h1 : P.underlying f1.type = some (.int .i64)) (h2 : P.underlying f2.type = some .string)
    (hone : oneCellFields P #[f0, f1, f2] = true) (hC : P.cellsOf e = 3) (hR : P.cellsOf r = 1) (hv : v.cells.toList = [v]) (h : DataW.Trod enc P w base (fun _ => true) held t v d ps) :
    ∃ rs : List (List V), RdRows w v rs ∧ ∀ vs ∈ rs, ∀ x ∈ vs, x.fits ∧ x.s.length ≤ maxLen := by
  obtain ⟨fuel, hf⟩ := h
  rw [hv] at hf
  rcases open_slice1 ht hR hf with ⟨hcs, _⟩ | ⟨a, len, cap, m, n, W, D, Pl, hcs, _, hl, hm, hmm, _, hi⟩
  · obtain rfl : v = .slice none 0 0 := by simpa using hcs
    exact ⟨[], RdRows.nil w, by simp⟩
  · obtain rfl : v = .slice (some a) len cap := by simpa using hcs
    have hmc : m = cap := by simpa using hmm
    have key : ∀ i, i < len → ∃ vs : List V, (∀ x ∈ vs, x.fits ∧ x.s.length ≤ maxLen) ∧ RdVals w (W i) vs ∧ w.cell? (a.add i) = some (W i) := fun i hi' => by
      obtain ⟨hc, ht'⟩ := hi i (by omega)
      obtain ⟨a', l', c', e'⟩ := slice_form hr ht'
      have e'' : W i = .slice a' l' c' := by simpa using e'
      obtain ⟨vs, hvs, hfit⟩ := read_vals (v := W i) (d := D i) (ps := Pl i) hr hs h0 h1 h2 hone hC (by rw [e'']; rfl) ⟨n, by rw [e'']; rw [e''] at ht'; exact ht'⟩
      exact ⟨vs, hfit, hvs, hc⟩
    have hall : ∃ rs : List (List V), rs.length = len ∧ ∀ i, (hi : i < rs.length) → (∀ x ∈ rs[i], x.fits ∧ x.s.length ≤ maxLen) ∧ RdVals w (W i) rs[i] ∧ w.cell? (a.add i) = some (W i) := by
      refine ⟨(List.range len).map fun i => if h : i < len then (key i h).choose else [], by simp, fun i hi' => ?_⟩
      have hil : i < len := by simpa using hi'
      rw [List.getElem_map, List.getElem_range, dif_pos hil]
      exact (key i hil).choose_spec
    obtain ⟨rs, hlen, hrs⟩ := hall
    refine ⟨rs, ⟨some a, cap, by rw [hlen], by omega, hm, fun j hj => ⟨a, W j, rfl, (hrs j hj).2.1, (hrs j hj).2.2⟩⟩, fun x hx => ?_⟩
    obtain ⟨i, hi', rfl⟩ := List.mem_iff_getElem.1 hx
    exact (hrs i hi').1

end
end Go.Proofs.Ytoagpaphghgkmaa

/-
  The walk of the law SpillLays.
-/
namespace Go.Proofs.Ytoagpaphghgkmaa
open Go.RowKit Go.BigFrame

theorem putR_ok {s : St} (h : okS s) (rows : List (List V)) : okS (putR s rows).2 := by
  unfold putR
  split
  · split
    · exact h
    · exact storeK_ok h _ _
  · split
    · exact h
    · exact h
theorem putR_length (s : St) (rows : List (List V)) : (putR s rows).2.length = s.length := by
  unfold putR
  split
  · split
    · rfl
    · exact storeK_length _ _ _
  · split
    · rfl
    · rfl
theorem putR_none {s : St} {rows : List (List V)} (h : (putR s rows).1.2 ≠ 0) : (putR s rows).1.1 = [] := by
  unfold putR at h ⊢
  split at h
  · split at h
    · rename_i h1 h2
      simp only [h1, if_pos h2]
    · exact absurd rfl h
  · split at h
    · rename_i h1 h2
      simp only [h1, if_pos h2]
    · rename_i h1 h2
      simp only [h1, if_neg h2]

theorem putR_few (s : St) (rows : List (List V)) : (putR s rows).1.1.length ≤ s.length := by
  unfold putR
  split
  · split
    · exact Nat.zero_le _
    · rename_i h
      have h0 := needS_ge (rowsB rows).length
      show (idsK s _).length ≤ _
      rw [idsK_length (by omega)]
      omega
  · split
    · exact Nat.zero_le _
    · exact Nat.zero_le _

/-- Both stores have done the same. -/
theorem Inv.two {w w' w1 w2 : World} {p q g n : Nat} {O O' : Nat → Prop} {s s' : St} (h : Inv w w' p q g n O s) (hp : PSto O' w1 p s') (ho : OnlyS O w' w1) (hn : ∀ b, O' b → O b ∨ w'.heap.size ≤ b)
    (hr : RSto w2 q g s') (hg : OnlyS (fun j => j = g) w1 w2) (hok : okS s') (hl : s'.length = s.length) : Inv w w2 p q g n O' s' := by
  have hqw := lt_of_cell h.both.ref.top
  have hgw := h.both.ref.lt
  have nq : ¬ O' q := fun hx => by
    rcases hn q hx with hx | hx
    · exact h.both.nq hx
    · have : q < w'.heap.size := hqw
      omega
  have ng : ¬ O' g := fun hx => by
    rcases hn g hx with hx | hx
    · exact h.both.ng hx
    · omega
  refine h.step ⟨hp.onlyS hg (fun b hb e => ng (e ▸ hb)), hr, hok, nq, ng⟩ hl ((ho.mono (fun b _ hx => .inl hx)).trans hg (fun b _ e => .inr e)) hn

set_option maxRecDepth 100000 in
set_option maxHeartbeats 8000000 in
theorem spillLays_walk (u : Value) (ls : List (List V)) (most taken : Int) (w : World) (hu : RdRows w u ls) (hf : ∀ r ∈ ls, ∀ v ∈ r, v.fits ∧ v.s.length ≤ maxLen) (hm : 0 ≤ most ∧ most ≤ 65535) (ht : 0 ≤ taken ∧ taken ≤ 255) :
    Calls Try.prog 3 #[u, .int .u16 most, .int .u8 taken] w fun e w' => e = .returned (.bool true) ∧ Below w.heap.size w w' := by
  have HU := Lib.hid hu
  have HF := Lib.hid hf
  clear hu hf
  obtain ⟨n, hn, hn3⟩ : ∃ n : Nat, most.tmod 301 = (n : Int) ∧ n ≤ 300 := by
    have h1 := Int.tmod_lt_of_pos most (show (0 : Int) < 301 by decide)
    have h2 := Int.tmod_nonneg 301 hm.1
    exact ⟨(most.tmod 301).toNat, by omega, by omega⟩
  go_enter Try.func3, Try.ntmps3
  go_wp2_with fail
  refine (shown17_any _).mono ?_
  rintro e w1 ⟨rfl, hx1⟩
  have HX1 := Lib.hid hx1
  clear hx1
  go_wp2_with fail
  refine (pNew_any n (by omega)).mono ?_
  rintro e w2 hN
  unfold PNewed at hN
  rcases hN with ⟨hm0, hm1, p, O2, rfl, hp2, ho2, hx2⟩ | ⟨hbad, rfl, hx2⟩
  · rw [Int.toNat_natCast] at hp2
    have HP2 := Lib.hid hp2
    have HO2 := Lib.hid ho2
    have HX2 := Lib.hid hx2
    clear hp2 ho2 hx2
    go_wp2_with fail
    refine (refNew_any n w2 (by omega) (by omega)).mono ?_
    rintro e w3 hN
    unfold Newed at hN
    rcases hN with ⟨_, _, q, g, rfl, hq3, hg3, hr3, hx3⟩ | ⟨hbad, _, _⟩
    · rw [Int.toNat_natCast] at hr3
      have HINV := Lib.hid (show Inv w w3 p q g n O2 (List.replicate n none) from ⟨⟨HP2.out.onlyS (OnlyS.of_ext (X := fun _ => False) hx3) (fun _ _ h => h), hr3, ⟨by rw [List.length_replicate]; omega, fun x hx => by have := List.eq_of_mem_replicate hx; cases this⟩, fun h => by have := HP2.out.lt q h; omega, fun h => by have := HP2.out.lt g h; omega⟩, List.length_replicate, fun b hb => Nat.le_trans HX1.out.size (HO2.out b hb), by have := HX1.out.size; have := HX2.out.size; omega, by have := HX1.out.size; have := HX2.out.size; omega, Ext.trans HX1.out (Ext.trans HX2.out hx3)⟩)
      clear hq3 hg3 hr3 hx3
      obtain ⟨K, hK, hK3⟩ : ∃ K : Nat, min taken (n : Int) = (K : Int) ∧ K ≤ n := ⟨(min taken (n : Int)).toNat, by omega, by omega⟩
      go_wp2_with fail
      refine (pAlloc_any (O := O2) (K : Int) HINV.out.both.prog HINV.out.both.ok (by omega)).mono ?_
      rintro e w4 ⟨v4, rfl, -, O4, hp4, ho4, hn4, -⟩
      have HR4 := Lib.hid (HINV.out.both.ref.onlyS ho4 HINV.out.both.nq HINV.out.both.ng)
      have HP4 := Lib.hid hp4
      have HO4 := Lib.hid ho4
      have HN4 := Lib.hid hn4
      clear hp4 ho4 hn4
      go_wp2_with fail
      refine (refAlloc_any q g _ (K : Int) w4 HR4.out (by omega) (by omega)).mono ?_
      rintro e w5 ⟨v5, rfl, -, hr5, ho5⟩
      have HA := Lib.hid (HINV.out.two HP4.out HO4.out HN4.out hr5 (OnlyS.of_onlyP (X := fun j => j = g) ho5 rfl) (allocS_ok HINV.out.both.ok _) (allocS_length _ _))
      generalize (allocS (List.replicate n none) (K : Int)).2 = s1 at HA
      generalize (allocS (List.replicate n none) (K : Int)).1.2 = E0
      clear hr5 ho5 HR4 HP4 HO4 HN4 HINV
      go_wp2_with fail
      refine (few17_any u ls w w5 HU.out HA.out.below HF.out).mono ?_
      rintro e w6 ⟨⟨v6, M, rfl, h6, hfew⟩, x6⟩
      generalize ls.take M = x at h6 hfew
      have HI6 := Lib.hid (HA.out.ext x6)
      obtain ⟨xa, xc, rfl, hxl, hxc⟩ := h6.shape
      have HX6 := Lib.hid h6
      have HFEW := Lib.hid hfew
      obtain ⟨L, hL⟩ : ∃ L, x.length = L := ⟨_, rfl⟩
      have HL := Lib.hid hL
      rw [hL] at hxl HX6 ⊢
      clear h6 hfew x6 hL
      go_wp2_with fail
      refine (pPut17_any O4 p s1 _ x w6 HI6.out.both.prog HI6.out.both.ok (fun W hW => HX6.out.mono (HI6.out.below.trans (hW.below HI6.out.below.size HI6.out.own))) HFEW.out.fit).mono ?_
      rintro e w7 ⟨v7, O7, rfl, hp7, ho7, hn7, hv7⟩
      have HR7 := Lib.hid (HI6.out.both.ref.onlyS ho7 HI6.out.both.nq HI6.out.both.ng)
      have HP7 := Lib.hid hp7
      have HO7 := Lib.hid ho7
      have HN7 := Lib.hid hn7
      have HV7 := Lib.hid hv7
      have HB7 := Lib.hid (HI6.out.below.trans (ho7.below HI6.out.below.size HI6.out.own))
      clear hp7 ho7 hn7 hv7
      obtain ⟨po, rfl⟩ : ∃ po, v7 = .pointer po := by
        rcases HV7.out with ⟨-, rfl⟩ | ⟨-, f, F, rfl, -⟩
        · exact ⟨_, rfl⟩
        · exact ⟨_, rfl⟩
      go_wp2_with fail
      refine (refPut17_any q g s1 _ x w w7 HR7.out HB7.out HX6.out HI6.out.g0 HFEW.out.fit).mono ?_
      rintro e w8 ⟨v8, rfl, hown8, hr8, ho8⟩
      have HI8 := Lib.hid (HI6.out.two HP7.out HO7.out HN7.out hr8 ho8 (putR_ok HI6.out.both.ok _) (putR_length _ _))
      have HV8 := Lib.hid (show ((putR s1 x).1.2 ≠ 0 ∧ po = none ∧ (putR s1 x).1.1 = []) ∨ ((putR s1 x).1.2 = 0 ∧ ∃ f F, po = some ⟨f, 0, none⟩ ∧ Fil F w8 f p (putR s1 x).1.1 L) from by
        rcases HV7.out with ⟨h1, h2⟩ | ⟨h1, f, F, h2, h3, h4⟩
        · cases h2
          exact .inl ⟨h1, rfl, putR_none h1⟩
        · cases h2
          refine .inr ⟨h1, f, F, rfl, ?_⟩
          rw [HL.out] at h3
          exact h3.keep ho8 (fun b hb hF => by
            have h5 := (h4 b hF).1
            have h6 := HI6.out.both.ref.lt
            omega))
      obtain ⟨ids, hids⟩ : ∃ ids, (putR s1 x).1.1 = ids := ⟨_, rfl⟩
      have HIDL := Lib.hid (show ids.length ≤ 1000000 from by
        have h1 := putR_few s1 x
        have h2 := HI6.out.len
        rw [hids] at h1
        omega)
      rw [hids] at hown8 HV8
      have HID := Lib.hid hown8
      generalize (putR s1 x).1.2 = E at HV8 ⊢
      generalize (putR s1 x).2 = s2 at HI8
      clear hids hown8 hr8 ho8 HR7 HP7 HO7 HN7 HB7 HV7
      go_upto_region 13 with fail
      go_cut [103] from 69 to 102 (fun t W => t = .bool false ∧ Inv w W p q g n O7 s2)
      case first =>
        have q0 : (E != E) = false := bne_self_eq_false _
        have HIV := Lib.hid (show ivs ids = (ids.map fun (i : Nat) => (i : Int)).map (Value.int .i64) from by rw [List.map_map]; rfl)
        have HLN := Lib.hid (show v8.ownBlock = v8.ownBlock from rfl)
        go_wp2_with fail
        refine (pUsed_any HI8.out.both.prog).mono ?_
        rintro e w9 ⟨rfl, x9⟩
        have HI9 := Lib.hid (HI8.out.ext x9)
        have HR9 := Lib.hid (show RdV w9 v8 ((ids.map fun (i : Nat) => (i : Int)).map (Value.int .i64)) from by
          have h := (RdV.of_owns HID.out).mono x9
          rwa [HIV.out] at h)
        have HX9 := Lib.hid x9
        clear x9 HID
        go_wp2_with fail
        refine (refUsed_any q g s2 w9 HI9.out.both.ref).mono ?_
        rintro e w10 ⟨rfl, rfl⟩
        generalize usedS s2 = U
        have q1 : ((U : Int) != (U : Int)) = false := bne_self_eq_false _
        rcases HV8.out with ⟨hE, rfl, rfl⟩ | ⟨rfl, f, F, rfl, hF⟩
        · have q2 : (E == 0) = false := by simpa using hE
          clear hE
          go_wp2_with fail
          refine (pPagesNil17_any w9).mono ?_
          rintro e w11 ⟨⟨v11, rfl, h11⟩, x11⟩
          have HI11 := Lib.hid (HI9.out.ext x11)
          have HR11 := Lib.hid (HR9.out.mono x11)
          have H11 := Lib.hid (show RdV w11 v11 ((([] : List Nat).map fun (i : Nat) => (i : Int)).map (Value.int .i64)) from h11)
          clear h11 x11
          go_wp2_with fail
          refine (refInts_any v11 v8 _ _ _ H11.out HR11.out (by simp) (by simp)).mono ?_
          rintro e w12 ⟨rfl, x12⟩
          have HI12 := Lib.hid (HI11.out.ext x12)
          clear x12
          rw [decide_eq_true rfl]
          go_wp2_with fail
          go_meet
          exact ⟨rfl, HI12.out⟩
        · have HF9 := Lib.hid (hF.keep (OnlyS.of_ext (X := fun _ => False) HX9.out) (fun _ h => h.elim))
          clear hF
          go_wp2_with fail
          refine (pPages17_any F f p ids L w9 HF9.out).mono ?_
          rintro e w11 ⟨⟨v11, rfl, h11, -⟩, x11⟩
          have HI11 := Lib.hid (HI9.out.ext x11)
          have HR11 := Lib.hid (HR9.out.mono x11)
          have HF11 := Lib.hid (HF9.out.keep (OnlyS.of_ext (X := fun _ => False) x11) (fun _ h => h.elim))
          have H11 := Lib.hid (show RdV w11 v11 ((ids.map fun (i : Nat) => (i : Int)).map (Value.int .i64)) from by rwa [HIV.out] at h11)
          clear h11 x11
          go_wp2_with fail
          refine (refInts_any v11 v8 _ _ _ H11.out HR11.out (by rw [List.length_map]; exact HIDL.out) (by rw [List.length_map]; exact HIDL.out)).mono ?_
          rintro e w12 ⟨rfl, x12⟩
          have HI12 := Lib.hid (HI11.out.ext x12)
          have HF12 := Lib.hid (HF11.out.keep (OnlyS.of_ext (X := fun _ => False) x12) (fun _ h => h.elim))
          clear x12
          rw [decide_eq_true rfl]
          go_wp2_with fail
          refine (pMany17_any F f p ids L w12 HF12.out).mono ?_
          rintro e w13 ⟨rfl, x13⟩
          have HI13 := Lib.hid (HI12.out.ext x13)
          clear x13
          have q3 : ((L : Int) != (L : Int)) = false := bne_self_eq_false _
          go_wp2_with fail
          go_meet
          exact ⟨rfl, HI13.out⟩
      case rest =>
      obtain ⟨rfl, hinv⟩ := hcut
      have HC := Lib.hid hinv
      clear hinv HV8 HID HI8 HI6 HA
      go_wp2_with fail
      go_loopw [19, 20, 21, 22, 23, 105] (fun _ _ _ _ _ i wr => ∃ (j : Nat) (O : Nat → Prop), j ≤ n ∧ i = .int .i64 j ∧ Inv w wr p q g n O s2) (fun _ _ _ _ _ i _ => n - (intOf i).toNat)
      case atStart => exact ⟨0, O7, Nat.zero_le _, rfl, HC.out⟩
      case round =>
        obtain ⟨j, O, hj, rfl, hinv⟩ := hrel
        have HI := Lib.hid hinv
        clear hinv
        by_cases hlt : j < n
        · go_wp2_with fail
          refine (pRaw_any (j : Int) HI.out.both.prog HI.out.both.ok (by omega)).mono ?_
          rintro e wc ⟨vc, rfl, hownc, hsc⟩
          obtain ⟨Oc, hbc, hoc, hnc, hvc⟩ := HI.out.both.same hsc
          have HIc := Lib.hid (HI.out.step hbc rfl hoc hnc)
          have HWc := Lib.hid hownc
          clear hownc hsc hbc hoc hvc hnc
          go_wp2_with fail
          refine (refRaw_any q g s2 (j : Int) wc HIc.out.both.ref (by omega) (by omega)).mono ?_
          rintro e wd ⟨rfl, rfl⟩
          generalize rawS s2 (j : Int) = WW at HWc ⊢
          have hcvc := HWc.out.rd.string (P := Try.prog) 43 9 5 Try.underlying43 Try.underlying5 Try.underlying9
          obtain ⟨Wa, We⟩ := WW
          simp only at *
          go_wp2_with fail
          go_roundw
          case rel => exact ⟨j + 1, Oc, by omega, by go_num, HIc.out⟩
          case measure => simp [intOf]; omega
        · go_wp2_with fail
          refine (laid17_any _ x w wr HX6.out HI.out.below HFEW.out).mono ?_
          rintro e wa ⟨⟨va, hs, rfl, hown, hh⟩, xa⟩
          have HIa := Lib.hid (HI.out.ext xa)
          have HYa := Lib.hid (show RdRows wa va (laidL x) from RdRows.of_heads (RdV.of_owns hown) (hh.mono HIa.out.below))
          clear hown hh xa
          go_wp2_with fail
          refine (pBytes17_any va (laidL x) wa HYa.out HFEW.out.laid.fit (laidL_may x)).mono ?_
          rintro e wb ⟨rfl, xb⟩
          have HIb := Lib.hid (HIa.out.ext xb)
          have HYb := Lib.hid (HYa.out.mono xb)
          clear xb
          go_wp2_with fail
          refine (refBytes17_any va (laidL x) wb HYb.out HFEW.out.laid.fit).mono ?_
          rintro e wc ⟨vc, rfl, hownc, xc'⟩
          have HIc := Lib.hid (HIb.out.ext xc')
          rw [List.length_map] at hownc
          obtain ⟨ad, cp, rfl, -, -⟩ := own_shapeP hownc
          generalize (rowsB (laidL x)).length = BL
          clear hownc xc'
          have q4 : ((BL : Int) == (BL : Int)) = true := beq_self_eq_true _
          go_wp2_with fail
          go_ret
          exact ⟨rfl, HIc.out.below⟩
    · exact absurd ⟨by omega, by omega⟩ hbad
  · exact absurd ⟨by omega, by omega⟩ hbad

end Go.Proofs.Ytoagpaphghgkmaa

/-
  The law's rows have room on 600 pages.
-/
namespace Go.Proofs.Ytoagpaphghgkmaa
open Go.RowKit Go.BigFrame

theorem encV_room (v : V) : (encV v).length ≤ 10 + v.s.length := by
  unfold encV
  have h1 := enc_length (zig v.n)
  have h2 := enc_length v.s.length
  split
  · rw [List.length_cons]
    split
    · omega
    · split
      · rw [List.length_append]; omega
      · simp only [List.length_nil]; omega
  · simp only [List.length_cons, List.length_nil]; omega
theorem rowB_room (r : List V) : (rowB r).length ≤ 9 + 10 * r.length + textsR r := by
  have h : ∀ r : List V, (r.flatMap encV).length ≤ 10 * r.length + textsR r := fun r => by
    induction r with
    | nil => simp [textsR]
    | cons v t ih =>
      have h1 := encV_room v
      have e : textsR (v :: t) = v.s.length + textsR t := by simp [textsR]
      rw [List.flatMap_cons, List.length_append, List.length_cons, e]
      omega
  unfold rowB
  rw [List.length_append]
  have h1 := enc_length r.length
  have h2 := h r
  omega
theorem may_short {r : List V} (h : mayR r = 0) : r.length ≤ 32 := by
  unfold mayR at h
  split at h
  · cases h
  · omega
theorem rowsB_room {rows : List (List V)} (h : ∀ r ∈ rows, r.length ≤ 32) : (rowsB rows).length ≤ 329 * rows.length + textsL rows := by
  induction rows with
  | nil => simp [rowsB, textsL]
  | cons r t ih =>
    have h1 := rowB_room r
    have h2 := h r (by simp)
    have h3 := ih fun q hq => h q (by simp [hq])
    have e1 : rowsB (r :: t) = rowB r ++ rowsB t := List.flatMap_cons ..
    have e2 : textsL (r :: t) = textsR r + textsL t := by simp [textsL]
    rw [e1, e2, List.length_append, List.length_cons]
    omega
theorem room17 {x : List (List V)} (h : Few17 x) (hm : ∀ r ∈ x, mayR r = 0) : (rowsB x).length ≤ 29740 := by
  have h1 := rowsB_room fun r hr => may_short (hm r hr)
  have h2 := h.1
  have h3 := h.2.2
  omega

theorem used_none17 (n : Nat) : usedS (List.replicate n none) = 0 := by
  unfold usedS
  rw [List.countP_eq_zero]
  intro a ha
  rw [List.eq_of_mem_replicate ha]
  simp

/-- What Put makes of them, on 600 free pages. -/
structure On600 (x : List (List V)) (ids : List Nat) (s : St) : Prop where
  put : putR (List.replicate 600 none) x = ((ids, 0), s)
  holds : Holds s ids (rowsB x)
  nodup : ids.Nodup
  count : (ids.length : Int) = needS ((rowsB x).length : Int)
  used : usedS s = ids.length
  ok : okS s
  len : s.length = 600
theorem on600 {x : List (List V)} (h : Few17 x) (hm : ∀ r ∈ x, mayR r = 0) : ∃ ids s, On600 x ids s := by
  have hr := room17 h hm
  have hu := used_none17 600
  have h0 := needS_ge (rowsB x).length
  have hn := needS_nat (rowsB x).length
  have hl : (List.replicate 600 (none : Option (List UInt8))).length = 600 := List.length_replicate
  have hroom : needS ((rowsB x).length : Int) ≤ ((List.replicate 600 (none : Option (List UInt8))).length : Int) - usedS (List.replicate 600 none) := by
    rw [hl, hu]
    omega
  have e1 := putR_good hm hroom
  have e2 := storeK_put hroom
  have hk : (needS ((rowsB x).length : Int)).toNat + usedS (List.replicate 600 (none : Option (List UInt8))) ≤ (List.replicate 600 (none : Option (List UInt8))).length := by
    rw [hl, hu]
    omega
  obtain ⟨g1, g2, -, g4⟩ := putS_holds (s := List.replicate 600 none) (x := rowsB x) (by rw [e2])
  rw [e2] at g1 g2 g4 e1
  refine ⟨_, _, e1, g1, g2, g4, ?_, ?_, ?_⟩
  · rw [storeK_used hk, hu, idsK_length hk, Nat.zero_add]
  · exact storeK_ok ⟨by rw [hl]; decide, fun p hp => by have := List.eq_of_mem_replicate hp; cases this⟩ _ _
  · rw [storeK_length, hl]

end Go.Proofs.Ytoagpaphghgkmaa

/-
  The walk of the law SpillPages.
-/
namespace Go.Proofs.Ytoagpaphghgkmaa
open Go.RowKit Go.BigFrame

set_option maxRecDepth 100000 in
set_option maxHeartbeats 8000000 in
theorem spillPages_walk (u : Value) (ls : List (List V)) (w : World) (hu : RdRows w u ls) (hf : ∀ r ∈ ls, ∀ v ∈ r, v.fits ∧ v.s.length ≤ maxLen) :
    Calls Try.prog 8 #[u] w fun e w' => e = .returned (.bool true) ∧ Below w.heap.size w w' := by
  have HU := Lib.hid hu
  have HF := Lib.hid hf
  clear hu hf
  go_enter Try.func8, Try.ntmps8
  go_wp2_with fail
  refine (shown17_any _).mono ?_
  rintro e w1 ⟨rfl, hx1⟩
  have HX1 := Lib.hid hx1
  clear hx1
  go_wp2_with fail
  refine (pNew_any 600 (by decide)).mono ?_
  rintro e w2 hN
  unfold PNewed at hN
  rcases hN with ⟨_, _, p, O2, rfl, hp2, ho2, hx2⟩ | ⟨hbad, rfl, hx2⟩
  · have HP2 := Lib.hid (show PSto O2 w2 p (List.replicate 600 none) from hp2)
    have HO2 := Lib.hid (show ∀ b, O2 b → w.heap.size ≤ b from fun b hb => Nat.le_trans HX1.out.size (ho2 b hb))
    have HX2 := Lib.hid (Ext.trans HX1.out hx2)
    clear hp2 ho2 hx2
    go_wp2_with fail
    refine (few17_any u ls w w2 HU.out HX2.out HF.out).mono ?_
    rintro e w3 ⟨⟨v3, M, rfl, h3, hfew⟩, x3⟩
    have HX3 := Lib.hid (Ext.trans HX2.out x3)
    have HS3 := Lib.hid x3.size
    have HP3 := Lib.hid (HP2.out.mono x3)
    generalize ls.take M = x0 at h3 hfew
    have H3 := Lib.hid h3
    have HFEW0 := Lib.hid hfew
    clear h3 hfew x3
    go_wp2_with fail
    refine (laid17_any v3 x0 w w3 H3.out HX3.out HFEW0.out).mono ?_
    rintro e w4 ⟨⟨v4, hs, rfl, hown, hh⟩, x4⟩
    have HX4 := Lib.hid (Ext.trans HX3.out x4)
    have HP4 := Lib.hid (HP3.out.mono x4)
    have HMAY := Lib.hid (laidL_may x0)
    have HFEW := Lib.hid HFEW0.out.laid
    generalize laidL x0 = y at hh HMAY HFEW
    have HOWN := Lib.hid hown
    have HNO := Lib.hid (show ∀ W, OnlyS (fun b => O2 b ∨ w4.heap.size ≤ b) w4 W → RdRows W v4 y from fun W hW => by
      have hE : Ext w W := Below.trans (show Below w.heap.size w w4 from HX4.out) (hW.below HX4.out.size (fun b hb => by
        rcases hb with hb | hb
        · exact HO2.out b hb
        · exact Nat.le_trans HX4.out.size hb))
      refine RdRows.of_heads ((RdV.of_owns HOWN.out).onlyS hW (fun _ k hk hx => ?_)) (hh.mono hE)
      have h1 := HOWN.out.lt k hk
      rcases hx with hx | hx
      · have h2 := HP2.out.lt k hx
        have h3 := HS3.out
        omega
      · omega)
    obtain ⟨ids, s, h600⟩ := on600 HFEW.out HMAY.out
    have H600 := Lib.hid h600
    clear hown hh x4 HP3 HOWN h600
    go_wp2_with fail
    refine (pPut17_any O2 p (List.replicate 600 none) v4 y w4 HP4.out ⟨by rw [List.length_replicate]; decide, fun q hq => by have := List.eq_of_mem_replicate hq; cases this⟩ (fun W hW => HNO.out W (hW.mono (fun b _ hb => .inl hb))) HFEW.out.fit).mono ?_
    rintro e w5 ⟨v5, O5, rfl, hp5, ho5, hn5, hv5⟩
    rw [H600.out.put] at hp5 hv5 ⊢
    rcases hv5 with ⟨hv5, -⟩ | ⟨-, f, F, rfl, hf5, hF5⟩
    · exact absurd rfl hv5
    have HP5 := Lib.hid (show PSto O5 w5 p s from hp5)
    have HF5 := Lib.hid (show Fil F w5 f p ids y.length from hf5)
    have HFO := Lib.hid hF5
    have HC5 := Lib.hid (show OnlyS (fun b => O2 b ∨ w4.heap.size ≤ b) w4 w5 from ho5.mono (fun b _ hb => .inl hb))
    have HN5 := Lib.hid (show ∀ b, O5 b → O2 b ∨ w4.heap.size ≤ b from hn5)
    have HR5 := Lib.hid (HNO.out w5 HC5.out)
    obtain ⟨BL, hBL⟩ : ∃ BL, (rowsB y).length = BL := ⟨_, rfl⟩
    obtain ⟨NI, hNI⟩ : ∃ NI, ids.length = NI := ⟨_, rfl⟩
    have hNI6 : NI ≤ 600 := by
      have h1 := H600.out.count
      have h2 := room17 HFEW.out HMAY.out
      have h3 := needS_nat (rowsB y).length
      omega
    have hBL6 : BL ≤ 29740 := hBL ▸ room17 HFEW.out HMAY.out
    have HCNT := Lib.hid (show (NI : Int) = needS (BL : Int) from by rw [← hNI, ← hBL]; exact H600.out.count)
    have HUSED := Lib.hid (show usedS s = NI from by rw [← hNI]; exact H600.out.used)
    have HGOT := Lib.hid (show getS s (ids.map fun (i : Nat) => (i : Int)) (BL : Int) = (rowsB y, 0) from by rw [← hBL]; exact H600.out.holds.got)
    have HBL := Lib.hid hBL
    have HNI := Lib.hid hNI
    clear hp5 ho5 hn5 hf5 hF5 hBL hNI
    go_wp2_with fail
    refine (pBytes17_any v4 y w5 HR5.out HFEW.out.fit HMAY.out).mono ?_
    rintro e w6 ⟨rfl, x6⟩
    rw [HBL.out]
    have HX6 := Lib.hid x6
    clear x6
    go_wp2_with fail
    refine (pPages17_any F f p ids y.length w6 (HF5.out.keep (OnlyS.of_ext (X := fun _ => False) HX6.out) (fun _ h => h.elim))).mono ?_
    rintro e w7 ⟨⟨v7, rfl, h7, ho7⟩, x7⟩
    have HX7 := Lib.hid (Ext.trans HX6.out x7)
    have H7 := Lib.hid (show RdV w7 v7 ((ids.map fun (i : Nat) => (i : Int)).map (Value.int .i64)) from by
      have e : ivs ids = (ids.map fun (i : Nat) => (i : Int)).map (Value.int .i64) := by rw [List.map_map]; rfl
      rwa [e] at h7)
    have HV7 := Lib.hid (show ∀ k, v7.ownBlock = some k → ¬ O5 k from fun k hk hx => by
      rcases ho7 k hk with h | h
      · exact (HFO.out k h).2 hx
      · have h1 := HP5.out.lt k hx
        have h2 := HX6.out.size
        omega)
    clear h7 ho7 x7
    go_wp2_with fail
    refine (pGet_any (O := O5) v7 (ids.map fun (i : Nat) => (i : Int)) (BL : Int) (HP5.out.mono HX7.out) H600.out.ok H7.out (fun _ => HV7.out) (by rw [List.length_map, HNI.out]; omega) (fun i hi => by
      obtain ⟨j, hj, rfl⟩ := List.mem_map.1 hi
      obtain ⟨c, -, hc⟩ := H600.out.holds.page j hj
      have h1 := (List.getElem?_eq_some_iff.1 hc).1
      have h2 := H600.out.len
      omega) (by omega)).mono ?_
    rintro e w8 ⟨v8, rfl, hown8, O8, hp8, ho8, hn8, hv8⟩
    rw [HGOT.out] at hown8 ⊢
    have H8 := Lib.hid (show Rd w8 v8 (rowsB y) from hown8.rd)
    have HP8 := Lib.hid hp8
    have HF8 := Lib.hid ((HF5.out.keep (OnlyS.of_ext (X := fun _ => False) HX7.out) (fun _ h => h.elim)).keep ho8 (fun b hb hf => (HFO.out b hf).2 hb))
    have HC8 := Lib.hid (show OnlyS (fun b => O2 b ∨ w4.heap.size ≤ b) w4 w8 from ((HC5.out.trans (OnlyS.of_ext (X := fun _ => False) HX7.out) (fun _ _ h => h.elim)).trans ho8 (fun b _ hb => HN5.out b hb)))
    have HX8 := Lib.hid (show Ext w w8 from Below.trans (show Below w.heap.size w w4 from HX4.out) (HC8.out.below HX4.out.size (fun b hb => by
      rcases hb with hb | hb
      · exact HO2.out b hb
      · exact Nat.le_trans HX4.out.size hb)))
    have HR8 := Lib.hid (HNO.out w8 HC8.out)
    clear hown8 hp8 ho8 hn8 hv8 HP5 HF5 HFO HC5 HN5 HR5 H7 HV7 HGOT HNO HC8 HX6 HX7 HP4 HP2 HO2 HX1 HX2 HX3 HX4 H3 HS3
    go_wp2_with fail
    have HD8 := Lib.hid (Ext.drew w8)
    have HNL := Lib.hid (show ∀ (W : World) (v : Value), RdV W v (ivs ids) → ∃ a c, v = .slice a NI c from fun W v h => by
      have e : ivs ids = (ids.map fun (i : Nat) => (i : Int)).map (Value.int .i64) := by rw [List.map_map]; rfl
      rw [e] at h
      obtain ⟨a, c, rfl, -, -, -⟩ := RdV.cellsAt h
      exact ⟨a, c, by rw [List.length_map, List.length_map, HNI.out]⟩)
    obtain ⟨ND, hND⟩ : ∃ ND, needS (BL : Int) = ND := ⟨_, rfl⟩
    have HND := Lib.hid hND
    have q1 : ((NI : Int) == ND) = true := by rw [HCNT.out, hND]; exact beq_self_eq_true _
    clear hND
    refine wp_region_segs Ext Ext.keeps [([0, 1, 2, 5], some 3), ([4], some 6), ([7, 8, 9, 10, 12], some 11), ([], some 13), ([14, 15, 16, 17, 18, 19, 20, 21, 22, 23], some 24), ([25, 26, 27, 28], none)] (by kernel_rfl) (by kernel_rfl) (fun c a a' w e h => (by exact ⟨e ▸ h.1, h.2⟩)) ?_
    simp only [pickSegs, pickOps, List.map_cons, List.map_nil, Option.map_some, Option.map_none, Option.getD_some, List.getElem?_toArray, List.getElem?_cons_zero, List.getElem?_cons_succ]
    refine wpSegs_some fun KK hKK => ?_
    repeat go_big_quiet_step (fail)
    refine wpQuiet_nil ?_
    go_wp2_with fail
    refine (pPages17_any F f p ids y.length _ (HF8.out.keep (OnlyS.of_ext (X := fun _ => False) HD8.out) (fun _ h => h.elim))).mono ?_
    rintro e w9 ⟨⟨v9, rfl, h9, -⟩, x9⟩
    obtain ⟨a9, c9, rfl⟩ := HNL.out w9 v9 h9
    have HX9 := Lib.hid x9
    have HA9 := Lib.hid (Ext.trans HD8.out x9)
    clear h9 x9
    go_wp2_with fail
    refine ⟨HX9.out, hKK _ _ ?_⟩
    clear hKK KK
    refine wpSegs_some fun KK hKK => ?_
    repeat go_big_quiet_step (fail)
    refine wpQuiet_nil ?_
    go_wp2_with fail
    refine (pNeed_any (BL : Int) (by omega)).mono ?_
    rintro e w10 ⟨rfl, x10⟩
    rw [HND.out]
    have HX10 := Lib.hid x10
    have HA10 := Lib.hid (Ext.trans HA9.out x10)
    clear x10
    go_wp2_with fail
    refine ⟨HX10.out, hKK _ _ ?_⟩
    clear hKK KK
    refine wpSegs_some fun KK hKK => ?_
    repeat go_big_quiet_step (fail)
    refine wpQuiet_nil ?_
    go_wp2_with fail
    refine (pUsed_any (HP8.out.mono HA10.out)).mono ?_
    rintro e w11 ⟨rfl, x11⟩
    rw [HUSED.out]
    have HX11 := Lib.hid x11
    have HA11 := Lib.hid (Ext.trans HA10.out x11)
    clear x11
    go_wp2_with fail
    refine ⟨HX11.out, hKK _ _ ?_⟩
    clear hKK KK
    refine wpSegs_some fun KK hKK => ?_
    refine wpQuiet_nil ?_
    go_wp2_with fail
    refine (pNeed_any (BL : Int) (by omega)).mono ?_
    rintro e w12 ⟨rfl, x12⟩
    rw [HND.out]
    have HX12 := Lib.hid x12
    have HA12 := Lib.hid (Ext.trans HA11.out x12)
    clear x12
    go_wp2_with fail
    refine ⟨HX12.out, hKK _ _ ?_⟩
    clear hKK KK
    have hc8 : ∀ z : Later Ext w12, (convert 43 9 v8).run Try.prog z.val = .ok (.string ⟨(rowsB y).toArray⟩) z.val := fun z => (Rd.mono H8.out (Ext.trans HA12.out z.ext)).string _ _ _ Try.underlying43 Try.underlying5 Try.underlying9
    refine wpSegs_some fun KK hKK => ?_
    repeat go_big_quiet_step (fail)
    refine wpQuiet_nil ?_
    clear hc8
    go_wp2_with fail
    refine (refBytes17_any v4 y _ (HR8.out.mono HA12.out) HFEW.out.fit).mono ?_
    rintro e w13 ⟨v13, rfl, h13, x13⟩
    have HX13 := Lib.hid (show Ext w12 w13 from x13)
    have H13 := Lib.hid (show Rd w13 v13 (rowsB y) from RdV.of_owns h13)
    clear h13 x13
    go_wp2_with fail
    refine ⟨HX13.out, hKK _ _ ?_⟩
    clear hKK KK
    have hc13 : ∀ z : Later Ext w13, (convert 43 9 v13).run Try.prog z.val = .ok (.string ⟨(rowsB y).toArray⟩) z.val := fun z => (Rd.mono H13.out z.ext).string _ _ _ Try.underlying43 Try.underlying5 Try.underlying9
    refine wpSegs_none ?_
    repeat go_big_quiet_step (fail)
    refine wpQuiet_nil (wpSegs_nil ?_)
    clear hc13
    go_wp2_with fail
    go_ret
    exact ⟨by simp, Ext.trans HX8.out (Ext.trans HA12.out HX13.out)⟩
  · exact absurd (by decide) hbad

end Go.Proofs.Ytoagpaphghgkmaa

/-
  What a cursor meets of the law's rows.
-/
namespace Go.Proofs.Ytoagpaphghgkmaa
open Go.RowKit Go.BigFrame

theorem Holds.read_at {s : St} : ∀ {ids : List Nat} {b : List UInt8}, Holds s ids b → ∀ j, (h : j < ids.length) → readS s (ids[j] : Int) = (fill ((b.drop (56 * j)).take 56), 0)
  | id :: t, b, ⟨_, h2, h3⟩, 0, _ => by
    have := read_laid h2 (by rw [List.length_take]; omega)
    simpa using this
  | id :: t, b, ⟨_, h2, h3⟩, j + 1, h => by
    have ih := h3.read_at j (by simpa using h)
    rw [List.drop_drop] at ih
    have e : 56 * (j + 1) = 56 + 56 * j := by omega
    rw [e]
    exact ih
theorem On600.readTo {x : List (List V)} {ids : List Nat} {s : St} (h : On600 x ids s) : ReadTo s ids (rowsB x) ids.length := ⟨Nat.le_refl _, fun j hj _ => h.holds.read_at j hj⟩

/-- Rows one after another: where each ends. -/
theorem rowsB_take (x : List (List V)) (k : Nat) (hk : k < x.length) : (rowsB (x.take (k + 1))).length = (rowsB (x.take k)).length + (rowB x[k]).length := by
  rw [List.take_succ_eq_append_getElem hk, rowsB_snoc, List.length_append]
theorem rowsB_take_le (x : List (List V)) (k : Nat) : (rowsB (x.take k)).length ≤ (rowsB x).length := by
  have h : rowsB x = rowsB (x.take k) ++ rowsB (x.drop k) := by rw [← rowsB_append, List.take_append_drop]
  rw [h, List.length_append]
  omega
/-- Every row ends within as many pages as the bytes need. -/
theorem On600.ends {x : List (List V)} {ids : List Nat} {s : St} (h : On600 x ids s) (k : Nat) : (rowsB (x.take k)).length ≤ 56 * ids.length := by
  have h1 := rowsB_take_le x k
  have h2 := h.count
  have h3 := needS_nat (rowsB x).length
  have h4 := needS_ge (rowsB x).length
  omega

end Go.Proofs.Ytoagpaphghgkmaa

/-
  Two cursors of one file: what holds between their calls.
-/
namespace Go.Proofs.Ytoagpaphghgkmaa
open Go.RowKit Go.BigFrame

/-- A store, its file, two cursors of it, each in blocks of its own; since w4 nothing has changed but the store's blocks and what is new since N. -/
structure BackI (N : Nat) (w4 w : World) (O2 O F A B : Nat → Prop) (p f a b : Nat) (s : St) (ids : List Nat) (x : List (List V)) (ka kb : Nat) : Prop where
  sto : PSto O w p s
  fil : Fil F w f p ids x.length
  curA : Cur A w a f p ids x ka
  curB : Cur B w b f p ids x kb
  of' : ∀ i, O i → ¬ F i
  oa : ∀ i, O i → ¬ A i
  ob : ∀ i, O i → ¬ B i
  fa : ∀ i, F i → ¬ A i
  fb : ∀ i, F i → ¬ B i
  ab : ∀ i, A i → ¬ B i
  only : OnlyS (fun i => O2 i ∨ N ≤ i) w4 w
  inO : ∀ i, O i → O2 i ∨ N ≤ i
  inA : ∀ i, A i → O2 i ∨ N ≤ i
  inB : ∀ i, B i → O2 i ∨ N ≤ i
  size : N ≤ w.heap.size

variable {N : Nat} {w4 w w' : World} {O2 O O' F A A' B X : Nat → Prop} {p f a b : Nat} {s : St} {ids : List Nat} {x : List (List V)} {ka kb k' : Nat}

theorem BackI.swap (h : BackI N w4 w O2 O F A B p f a b s ids x ka kb) : BackI N w4 w O2 O F B A p f b a s ids x kb ka :=
  ⟨h.sto, h.fil, h.curB, h.curA, h.of', h.ob, h.oa, h.fb, h.fa, fun i hb ha => h.ab i ha hb, h.only, h.inO, h.inB, h.inA, h.size⟩
/-- What changes others alone. -/
theorem BackI.apart (h : BackI N w4 w O2 O F A B p f a b s ids x ka kb) (ho : OnlyS X w w') (hx : ∀ i, X i → N ≤ i ∧ ¬ O i ∧ ¬ F i ∧ ¬ A i ∧ ¬ B i) : BackI N w4 w' O2 O F A B p f a b s ids x ka kb :=
  ⟨h.sto.onlyS ho (fun i hi hxi => (hx i hxi).2.1 hi), h.fil.keep ho (fun i hi => (hx i hi).2.2.1), h.curA.keep ho (fun i hi => (hx i hi).2.2.2.1), h.curB.keep ho (fun i hi => (hx i hi).2.2.2.2), h.of', h.oa, h.ob, h.fa, h.fb, h.ab,
   h.only.trans ho (fun i _ hi => .inr (hx i hi).1), h.inO, h.inA, h.inB, Nat.le_trans h.size ho.size⟩
theorem BackI.ext (h : BackI N w4 w O2 O F A B p f a b s ids x ka kb) (hx : Ext w w') : BackI N w4 w' O2 O F A B p f a b s ids x ka kb :=
  h.apart (X := fun _ => False) (OnlyS.of_ext hx) (fun _ h => h.elim)
/-- The first cursor has been asked. -/
theorem BackI.step (h : BackI N w4 w O2 O F A B p f a b s ids x ka kb) (hp : PSto O' w' p s) (hc : Cur A' w' a f p ids x k') (ho : OnlyS (fun i => O i ∨ A i) w w') (hno : ∀ i, O' i → O i ∨ w.heap.size ≤ i) (hna : ∀ i, A' i → A i ∨ w.heap.size ≤ i)
    (hoa : ∀ i, w.heap.size ≤ i → O' i → ¬ A' i) : BackI N w4 w' O2 O' F A' B p f a b s ids x k' kb := by
  have lo := fun i (hi : O i) => h.sto.lt i hi
  have lf := fun i (hi : F i) => h.fil.lt hi
  have la := fun i (hi : A i) => h.curA.lt hi
  have lb := fun i (hi : B i) => h.curB.lt hi
  have hs := h.size
  refine ⟨hp, h.fil.keep ho (fun i hi hf => ?_), hc, h.curB.keep ho (fun i hi hb => ?_), fun i hi hf => ?_, fun i hi ha => ?_, fun i hi hb => ?_, fun i hf ha => ?_, h.fb, fun i ha hb => ?_, h.only.trans ho (fun i _ hi => ?_), fun i hi => ?_, fun i hi => ?_, h.inB, Nat.le_trans hs ho.size⟩
  · rcases hi with hi | hi
    · exact h.of' i hi hf
    · exact h.fa i hf hi
  · rcases hi with hi | hi
    · exact h.ob i hi hb
    · exact h.ab i hi hb
  · rcases hno i hi with h1 | h1
    · exact h.of' i h1 hf
    · have := lf i hf; omega
  · rcases hno i hi with h1 | h1
    · rcases hna i ha with h2 | h2
      · exact h.oa i h1 h2
      · have := lo i h1; omega
    · exact hoa i h1 hi ha
  · rcases hno i hi with h1 | h1
    · exact h.ob i h1 hb
    · have := lb i hb; omega
  · rcases hna i ha with h2 | h2
    · exact h.fa i hf h2
    · have := lf i hf; omega
  · rcases hna i ha with h2 | h2
    · exact h.ab i h2 hb
    · have := lb i hb; omega
  · rcases hi with hi | hi
    · exact h.inO i hi
    · exact h.inA i hi
  · rcases hno i hi with h1 | h1
    · exact h.inO i h1
    · exact .inr (by omega)
  · rcases hna i hi with h2 | h2
    · exact h.inA i h2
    · exact .inr (by omega)

end Go.Proofs.Ytoagpaphghgkmaa
