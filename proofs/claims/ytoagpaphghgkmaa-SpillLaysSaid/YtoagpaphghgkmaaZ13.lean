/-
  Texts of this proof, merged: SpiW6, SpiW7, SpiW8, SpiCmp, Tk, SpiCutP, Shown, FormOnly, RefRead.
-/
import Derived.Lib.Bytealg
import Derived.BigQuiet
import Derived.Outline
import Derived.LoopN
import Derived.Test.YtoagpaphghgkmaaZ12
import Derived.Test.YtoagpaphghgkmaaZ9
import Derived.Test.YtoagpaphghgkmaaZ1
import Derived.Test.YtoagpaphghgkmaaZ6
import Derived.Test.YtoagpaphghgkmaaZ7
import Derived.Test.YtoagpaphghgkmaaZ8
import Derived.Test.YtoagpaphghgkmaaZ10
/-
  The program's files of layer 17: Pages, Many, Drop; Bytes; what a nil pointer answers.
-/
namespace Go.Proofs.Ytoagpaphghgkmaa
open Go.RowKit Go.BigFrame

set_option maxHeartbeats 400000 in
theorem cloneI_nil (w : World) : Calls Try.prog 47 #[.slice none 0 0] w (Fresh 3 w []) := by
  have hq := fun W : World => Lib.run_eql_slice_nil (P := Try.prog) W
  go_enter Try.func47, Try.ntmps47
  go_wp2
  go_ret
  exact ⟨_, rfl, World.ownsRow_nil _ _ _ _, Below.refl _ _⟩

set_option maxHeartbeats 400000 in
theorem cloneI_some (x : Addr) (L cap : Nat) (xs : List Value) (w : World) (hL : xs.length = L) (hc : ∀ i u, xs[i]? = some u → w.cell? (x.add i) = some u)
    (h1c : ∀ u ∈ xs, u.oneCell' = true) (h1 : L ≤ 10000000000000) : Calls Try.prog 47 #[.slice (some x) L cap] w (Fresh 3 w xs) := by
  have hq := fun W : World => Lib.run_eql_slice_nil (P := Try.prog) W
  obtain ⟨i0, hi, hz0, hz1, hz2⟩ := info_parts Try.info_int8
  have hown : (w.alloc (.cells #[] 3)).ownsRow w.heap.size 3 1 (.slice (some ⟨w.heap.size, 0, none⟩) 0 0) 0 [] := World.ownsRow_made w #[] 0 (Nat.le_refl _) (by simp [maxLen]) rfl
  have HL := Lib.hid hL
  have HC := Lib.hid (fun i u hu => (World.grownBy_alloc w (.cells #[] 3) none).cell (hc i u hu) (by simp))
  have H1 := Lib.hid h1c
  have HO := Lib.hid hown
  clear hL hc h1c hown
  go_enter Try.func47, Try.ntmps47
  go_wp2_with (at_builtin; go_loud (refine wpList_append_own _ rfl _ _ 32 rfl w.heap.size 3 i0 (.int .i64 0) 1 8 Try.underlying32 hi hz0 hz1 hz2 rfl (by decide) _ _ _ rfl HO.out x L cap xs rfl (by rw [HL.out, Nat.mul_one]) HC.out H1.out (by unfold maxLen; omega) (by omega) (by simp) ?_); intro v2 w2 hown2 hgrow2 _)
  go_ret
  refine ⟨_, rfl, ?_, ((Below.refl _ _).alloc (Nat.le_refl _) _).grown hgrow2 (by simp) ?_⟩
  · rw [HL.out]; simpa using hown2
  · intro k hk; cases hk; exact Nat.le_refl _

theorem cloneI_any (v : Value) (xs : List Value) (w : World) (hr : RdV w v xs) (h1c : ∀ u ∈ xs, u.oneCell' = true) (h1 : xs.length ≤ 10000000000000) : Calls Try.prog 47 #[v] w (Fresh 3 w xs) := by
  rcases hr with ⟨rfl, h2⟩ | ⟨x, cap, rfl, h2, h3, h4⟩
  · rw [h2]; exact cloneI_nil w
  · exact cloneI_some x _ cap _ w rfl h4 h1c h1
theorem ivs_one (ids : List Nat) : ∀ u ∈ ivs ids, u.oneCell' = true := fun u hu => by
  obtain ⟨k, _, rfl⟩ := List.mem_map.1 hu
  rfl

set_option maxRecDepth 100000 in
theorem pPagesO17_any (f p : Nat) (ids : List Nat) (many : Nat) (vi : Value) (w : World) (h : FiT w f p ids many vi) :
    Calls Try.prog 20 #[.pointer (some ⟨f, 0, none⟩)] w (Fresh 3 w (ivs ids)) := by
  obtain ⟨o, hb, -⟩ := h.blk
  have c1 := hb.cell 1 _ rfl
  have HC := Lib.hid (cloneI_any vi (ivs ids) w (RdV.of_owns h.row) (ivs_one ids) (by have := h.few.1; unfold ivs; rw [List.length_map]; omega))
  obtain ⟨ia, ic, rfl, -, -⟩ := own_shapeP h.row
  clear h hb
  go_enter Try.func20, Try.ntmps20
  go_wp2_with fail
  refine HC.out.mono ?_
  rintro e w' ⟨v, rfl, h1, h2⟩
  have H1 := Lib.hid h1
  have H2 := Lib.hid h2
  clear h1 h2
  go_wp2_with fail
  go_ret
  exact ⟨v, rfl, H1.out, H2.out⟩
theorem pPages17_any (F : Nat → Prop) (f p : Nat) (ids : List Nat) (many : Nat) (w : World) (h : Fil F w f p ids many) :
    Calls Try.prog 20 #[.pointer (some ⟨f, 0, none⟩)] w fun e w' => (∃ v, e = .returned v ∧ RdV w' v (ivs ids) ∧ ∀ k, v.ownBlock = some k → F k ∨ w.heap.size ≤ k) ∧ Ext w w' := by
  obtain ⟨vi, h1, rfl⟩ := h
  refine (pPagesO17_any f p ids many vi w h1).mono ?_
  rintro e w' ⟨v, rfl, h2, h3⟩
  exact ⟨⟨v, rfl, RdV.of_owns h2, fun k hk => .inr (h2.lt k hk).1⟩, h3⟩
set_option maxRecDepth 100000 in
theorem pPagesNil17_any (w : World) :
    Calls Try.prog 20 #[.pointer none] w fun e w' => (∃ v, e = .returned v ∧ RdV w' v (ivs [])) ∧ Ext w w' := by
  go_enter Try.func20, Try.ntmps20
  go_wp2_with fail
  go_ret
  exact ⟨⟨_, rfl, .inl ⟨rfl, rfl⟩⟩, Ext.keeps.refl _⟩
set_option maxRecDepth 100000 in
theorem pMany17_any (F : Nat → Prop) (f p : Nat) (ids : List Nat) (many : Nat) (w : World) (h : Fil F w f p ids many) :
    Calls Try.prog 21 #[.pointer (some ⟨f, 0, none⟩)] w fun e w' => e = .returned (.int .i64 many) ∧ Ext w w' := by
  obtain ⟨vi, h1, rfl⟩ := h
  obtain ⟨o, hb, -⟩ := h1.blk
  have c2 := hb.cell 2 _ rfl
  clear h1 hb
  go_enter Try.func21, Try.ntmps21
  go_wp2_with fail
  go_ret
  exact ⟨rfl, Ext.keeps.refl _⟩
set_option maxRecDepth 100000 in
theorem pManyNil17_any (w : World) :
    Calls Try.prog 21 #[.pointer none] w fun e w' => e = .returned (.int .i64 0) ∧ Ext w w' := by
  go_enter Try.func21, Try.ntmps21
  go_wp2_with fail
  go_ret
  exact ⟨rfl, Ext.keeps.refl _⟩
set_option maxRecDepth 100000 in
theorem pOpenNil17_any (w : World) :
    Calls Try.prog 27 #[.pointer none] w fun e w' => e = .returned (.pointer none) ∧ Ext w w' := by
  go_enter Try.func27, Try.ntmps27
  go_wp2_with fail
  go_ret
  exact ⟨rfl, Ext.keeps.refl _⟩
set_option maxRecDepth 100000 in
theorem pDropNil17_any (w : World) :
    Calls Try.prog 36 #[.pointer none] w fun e w' => (∃ v, e = .returned v) ∧ Ext w w' := by
  go_enter Try.func36, Try.ntmps36
  go_wp2_with fail
  refine bodyPost_ret (v := .tuple #[]) (results_none rfl _ _ _) rfl ?_
  exact ⟨⟨_, rfl⟩, Ext.keeps.refl _⟩
set_option maxRecDepth 100000 in
theorem pDoneNil17_any (w : World) :
    Calls Try.prog 34 #[.pointer none] w fun e w' => (∃ v, e = .returned (.tuple #[v, .int .i64 2])) ∧ Ext w w' := by
  have HEN := Lib.hid (pEndedNil17_any w)
  go_enter Try.func34, Try.ntmps34
  go_wp2_with fail
  refine HEN.out.mono ?_
  rintro e w' ⟨rfl, rfl⟩
  go_wp2_with fail
  go_ret2
  exact ⟨⟨_, rfl⟩, Ext.keeps.refl _⟩
set_option maxRecDepth 100000 in
theorem pCancelNil17_any (w : World) :
    Calls Try.prog 35 #[.pointer none] w fun e w' => (∃ v, e = .returned v) ∧ Ext w w' := by
  have HEN := Lib.hid (pEndedNil17_any w)
  go_enter Try.func35, Try.ntmps35
  go_wp2_with fail
  refine HEN.out.mono ?_
  rintro e w' ⟨rfl, rfl⟩
  go_wp2_with fail
  refine bodyPost_ret (v := .tuple #[]) (results_none rfl _ _ _) rfl ?_
  exact ⟨⟨_, rfl⟩, Ext.keeps.refl _⟩
set_option maxRecDepth 100000 in
theorem pAddNil17_any (u : Value) (r : List V) (w : World) (_hu : RdVals w u r) :
    Calls Try.prog 33 #[.pointer none, u] w fun e w' => e = .returned (.int .i64 2) ∧ Ext w w' := by
  have HEN := Lib.hid (pEndedNil17_any w)
  go_enter Try.func33, Try.ntmps33
  go_wp2_with fail
  refine HEN.out.mono ?_
  rintro e w' ⟨rfl, rfl⟩
  go_wp2_with fail
  go_ret
  exact ⟨rfl, Ext.keeps.refl _⟩
set_option maxRecDepth 100000 in
theorem pNextNil17_any (w : World) :
    Calls Try.prog 28 #[.pointer none] w fun e w' => (∃ v, e = .returned (.tuple #[v, .bool false, .int .i64 2])) ∧ Ext w w' := by
  go_enter Try.func28, Try.ntmps28
  go_wp2_with fail
  refine bodyPost_ret (v := .tuple #[_, _, _]) (by simp [results, Try.results28, go_sem]; exact ⟨rfl, rfl, rfl⟩) rfl ?_
  exact ⟨⟨_, rfl⟩, Ext.keeps.refl _⟩
set_option maxRecDepth 100000 in
theorem pNewNil17_any (w : World) :
    Calls Try.prog 32 #[.pointer none] w fun e w' => (∃ f, e = .returned (.pointer (some f)) ∧ WNone w' f) ∧ Ext w w' := by
  go_enter Try.func32, Try.ntmps32
  go_wp2_with fail
  go_ret
  exact ⟨⟨⟨w.heap.size, 0, none⟩, rfl, w.heap.size, rfl, (Blk.new w _ _).cell 0 _ rfl⟩, ext_new _ _⟩
set_option maxRecDepth 100000 in
theorem pAddNone17_any (f : Addr) (w : World) (h : WNone w f) :
    Calls Try.prog 33 #[.pointer (some f), .slice none 0 0] w fun e w' => e = .returned (.int .i64 2) ∧ Ext w w' := by
  obtain ⟨b, rfl, hb⟩ := h
  have HEN := Lib.hid (pEnded17_any b none w hb)
  clear hb
  go_enter Try.func33, Try.ntmps33
  go_wp2_with fail
  refine HEN.out.mono ?_
  rintro e w' ⟨rfl, rfl⟩
  go_wp2_with fail
  go_ret
  exact ⟨rfl, Ext.keeps.refl _⟩
set_option maxRecDepth 100000 in
theorem pDoneNone17_any (b : Nat) (w : World) (h : w.cell? ⟨b, 0, none⟩ = some (.pointer none)) :
    Calls Try.prog 34 #[.pointer (some ⟨b, 0, none⟩)] w fun e w' => e = .returned (.tuple #[.pointer none, .int .i64 2]) ∧ Ext w w' := by
  have HEN := Lib.hid (pEnded17_any b none w h)
  clear h
  go_enter Try.func34, Try.ntmps34
  go_wp2_with fail
  refine HEN.out.mono ?_
  rintro e w' ⟨rfl, rfl⟩
  go_wp2_with fail
  go_ret2
  exact ⟨rfl, Ext.keeps.refl _⟩
set_option maxRecDepth 100000 in
theorem pPutNil17_any (w : World) :
    Calls Try.prog 15 #[.pointer none, .slice none 0 0] w fun e w' => e = .returned (.tuple #[.pointer none, .int .i64 2]) ∧ Ext w w' := by
  have HNEW := Lib.hid (pNewNil17_any w)
  go_enter Try.func15, Try.ntmps15
  go_wp2_with fail
  refine HNEW.out.mono ?_
  rintro e w1 ⟨⟨f, rfl, b, rfl, hc⟩, hx⟩
  have HX := Lib.hid hx
  have HD := Lib.hid (pDoneNone17_any b w1 hc)
  clear hx hc
  go_wp2_with fail
  go_loopw [14] (fun i wr => i = .int .i64 0 ∧ w1 = wr) (fun _ _ => 0)
  case atStart => exact ⟨rfl, rfl⟩
  case round =>
    obtain ⟨rfl, rfl⟩ := hrel
    go_wp2_with fail
    refine HD.out.mono ?_
    rintro e w2 ⟨rfl, hx⟩
    have HX2 := Lib.hid (Ext.trans HX.out hx)
    clear hx
    go_wp2_with fail
    go_ret2
    exact ⟨rfl, HX2.out⟩
set_option maxRecDepth 100000 in
theorem nDrop17_any (w : World) : Calls Try.prog 61 #[.pointer none, .slice none 0 0] w fun e w' => e = .returned (.tuple #[]) ∧ w = w' := by
  go_enter Try.func61, Try.ntmps61
  go_wp2_with fail
  go_loopw [8] (fun i wr => i = .int .i64 0 ∧ w = wr) (fun _ _ => 0)
  case atStart => exact ⟨rfl, rfl⟩
  case round =>
    obtain ⟨rfl, rfl⟩ := hrel
    go_wp2_with fail
    go_end0
    exact ⟨rfl, rfl⟩

end Go.Proofs.Ytoagpaphghgkmaa

/-
  The program's calls of layer 17: Drop of a file; Bytes.
-/
namespace Go.Proofs.Ytoagpaphghgkmaa
open Go.RowKit Go.BigFrame

set_option maxRecDepth 100000 in
set_option maxHeartbeats 1000000 in
theorem pDrop17_any (O F : Nat → Prop) (f p : Nat) (s : St) (ids : List Nat) (many : Nat) (w : World) (h : PSto O w p s) (hok : okS s) (hF : Fil F w f p ids many) (hof : ∀ b, O b → ¬ F b) :
    Calls Try.prog 36 #[.pointer (some ⟨f, 0, none⟩)] w fun e w' => ∃ O' F', e = .returned (.tuple #[]) ∧ PSto O' w' p (dropS s (intsN ids)) ∧ Fil F' w' f p [] 0 ∧
      OnlyS (fun b => O b ∨ F b) w w' ∧ (∀ b, O' b → O b ∨ w.heap.size ≤ b) ∧ (∀ b, F' b → F b ∨ w.heap.size ≤ b) ∧ ∀ b, O' b → ¬ F' b := by
  obtain ⟨vi, hT, rfl⟩ := hF
  obtain ⟨o, hb, ho⟩ := hT.blk
  have HO := Lib.hid (show ¬ O f from fun h2 => hof f h2 (.inl rfl))
  have HF := Lib.hid hb.lt
  have HCALL : RowKit.Hid (Calls Try.prog 61 #[.pointer o, vi] w.drew fun e w2 => ∃ O2, e = .returned (.tuple #[]) ∧ PSto O2 w2 p (dropS s (intsN ids)) ∧ OnlyS O w.drew w2 ∧ ∀ b, O2 b → O b ∨ w.drew.heap.size ≤ b) := Lib.hid (by
    rcases ho with rfl | ⟨rfl, rfl, rfl, rfl⟩
    · have hrd : RdV w.drew vi ((intsN ids).map (Value.int .i64)) := by rw [intsN_ivs]; exact (RdV.of_owns hT.row).mono (Ext.drew w)
      refine (pDrop_any (w := w.drew) vi (intsN ids) (h.keep (fun b hb => rfl) (Nat.le_refl _)) hok hrd (fun _ k hk hO => hof k hO (.inr hk)) (by
        have := hT.few.1
        unfold intsN
        rw [List.length_map]
        omega) (fun i hi => by
        obtain ⟨q, hq, rfl⟩ := List.mem_map.1 hi
        have := hT.few.2.1 q hq
        omega)).mono ?_
      rintro e w2 ⟨rfl, O2, k1, k2, k3, -⟩
      exact ⟨O2, rfl, k1, k2, k3⟩
    · refine (nDrop17_any w.drew).mono ?_
      rintro e w2 ⟨rfl, rfl⟩
      exact ⟨O, rfl, h.keep (fun b hb => rfl) (Nat.le_refl _), OnlyS.refl _ _, fun b hb => .inl hb⟩)
  have HB := Lib.hid hb
  have HBZ := Lib.hid (fun z : Later (OnlyS O) w.drew => (HB.out.ext (Ext.drew w)).onlyS z.ext HO.out)
  have a0 : ∀ z : Later (OnlyS O) w.drew, z.val.cell? ⟨f, 0, none⟩ = some (.pointer o) := fun z => (HBZ.out z).cell 0 _ rfl
  have a1 : ∀ z : Later (OnlyS O) w.drew, z.val.cell? ⟨f, 1, none⟩ = some vi := fun z => (HBZ.out z).cell 1 _ rfl
  obtain ⟨ia, ic, rfl, -, -⟩ := own_shapeP hT.row
  clear h hok hT hof hb ho
  go_enter Try.func36, Try.ntmps36
  go_wp2_with fail
  refine wp_region_segs (OnlyS O) (OnlyS.keeps O) [([0, 1, 2, 3, 4, 5, 6, 7], some 8)] (by kernel_rfl) (by kernel_rfl) (fun c a a' w e h => (by exact ⟨e ▸ h.1, h.2⟩)) ?_
  simp only [pickSegs, pickOps, List.map_cons, List.map_nil, Option.map_some, Option.getD_some, List.getElem?_toArray, List.getElem?_cons_zero, List.getElem?_cons_succ]
  refine wpSegs_some fun K hK => ?_
  repeat go_big_quiet_step (fail)
  refine wpQuiet_nil ?_
  clear a0 a1
  go_wp2_with fail
  refine HCALL.out.mono ?_
  rintro e w2 ⟨O2, rfl, k1, k2, k3⟩
  have HP2 := Lib.hid k1
  have HO2 := Lib.hid k2
  have HN2 := Lib.hid k3
  clear k1 k2 k3
  go_wp2_with fail
  refine ⟨HO2.out, hK _ _ (wpSegs_nil ?_)⟩
  clear hK K
  have HB2 := Lib.hid ((HB.out.ext (Ext.drew w)).onlyS HO2.out HO.out)
  have c0 := HB2.out.cell 0 _ rfl
  have c1 := HB2.out.cell 1 _ rfl
  have c2 := HB2.out.cell 2 _ rfl
  have fz := HB2.out.free
  go_wp2_with fail
  go_end0
  have hs := (OnlyS.set0 f 0 w2 (.pointer none)).step (OnlyS.set0 f 1 _ (.slice none 0 0)) |>.step (OnlyS.set0 f 2 _ (.int .i64 0))
  have hO2f : ¬ O2 f := fun h2 => by
    rcases HN2.out f h2 with h3 | h3
    · exact HO.out h3
    · have := HF.out
      exact absurd h3 (Nat.not_le.2 this)
  refine ⟨O2, ownF f (.slice none 0 0), rfl, HP2.out.onlyS hs (fun b hb e => hO2f (e ▸ hb)), ⟨.slice none 0 0, ⟨⟨none, ((HB2.out.set 0 _).set 1 _).set 2 _, .inr ⟨rfl, rfl, rfl, rfl⟩⟩, owns_nil _ _ _ _, ⟨Nat.zero_le _, fun i hi => by simp at hi, Nat.zero_le _⟩, fun e => by cases e⟩, rfl⟩, ?_, HN2.out, fun b hb => ?_, fun b hb hw => ?_⟩
  · exact OnlyS.trans (OnlyS.of_ext (Ext.drew w)) (OnlyS.trans (HO2.out.mono fun b _ hb => .inl hb) (hs.mono fun b _ hb => .inr (.inl hb)) fun _ _ h => h) fun _ _ h => h
  · rcases hb with hb | hb
    · exact .inl (.inl hb)
    · cases hb
  · rcases hw with rfl | hw
    · exact hO2f hb
    · cases hw

set_option maxRecDepth 100000 in
set_option maxHeartbeats 1000000 in
theorem pBytes17_any (u : Value) (rows : List (List V)) (w : World) (hu : RdRows w u rows) (hf : FitB rows) (_hm : ∀ r ∈ rows, mayR r = 0) :
    Calls Try.prog 25 #[u] w fun e w' => e = .returned (.int .i64 (rowsB rows).length) ∧ Ext w w' := by
  obtain ⟨ao, ca, rfl, -, -⟩ := hu.shape
  obtain ⟨fh, hfh, -, h1, h2, hat⟩ := hu.heads
  have HAT := Lib.hid hat
  have HFH := Lib.hid hfh
  have HF := Lib.hid hf
  unfold maxLen at h2
  obtain ⟨N, hN⟩ : ∃ N, rows.length = N := ⟨_, rfl⟩
  have HN := Lib.hid hN
  rw [hN] at h1 ⊢
  clear hu hat hfh hf hN
  go_enter Try.func25, Try.ntmps25
  go_wp2_with fail
  go_loopw [3, 8] (fun sv i wr => ∃ j : Nat, j ≤ N ∧ i = .int .i64 j ∧ sv = .int .i64 (rowsB (rows.take j)).length ∧ Ext w wr) (fun _ i _ => N - (intOf i).toNat)
  case atStart => exact ⟨0, Nat.zero_le _, rfl, rfl, Ext.keeps.refl _⟩
  case round =>
    obtain ⟨j, hj, rfl, rfl, hx⟩ := hrel
    have HX := Lib.hid hx
    clear hx
    by_cases hlt : j < N
    · have hjl : j < rows.length := by have := HN.out; omega
      obtain ⟨a1, a2, a3, ha, hra⟩ := HFH.out.get j hjl
      obtain ⟨g, off, rfl, c0⟩ := HAT.out j _ ha
      have x0 := (HX.out.cell (lt_of_cell c0)).trans c0
      have hfj := HF.out.2 rows[j] (List.getElem_mem hjl)
      have HROW := Lib.hid (pEncoded17_any _ rows[j] wr (hra.mono HX.out) hfj.2 hfj.1)
      have HTS := Lib.hid (show (rowsB (rows.take (j + 1))).length = (rowsB (rows.take j)).length + (rowB rows[j]).length by rw [List.take_succ_eq_append_getElem hjl, rowsB_snoc, List.length_append])
      have hle := rowsB_le (rows := rows.take j) (fun r hr => (HF.out.2 r (List.mem_of_mem_take hr)).1)
      have hl2 := rowB_le rows[j]
      have h400 := hfj.1
      have hjn : (rows.take j).length ≤ 1000 := by rw [List.length_take]; have := HF.out.1; omega
      have HLEN := Lib.hid (show (rowsB (rows.take j)).length + (rowB rows[j]).length ≤ 1000000000 from by
        have := Nat.mul_le_mul_left 900000 hjn
        have := Nat.mul_le_mul_left 2000 h400
        omega)
      generalize rows[j] = r at HROW HTS HLEN
      generalize (rowsB (rows.take j)).length = S at HTS HLEN ⊢
      obtain ⟨R, hR⟩ : ∃ R, (rowB r).length = R := ⟨_, rfl⟩
      have hLEN := HLEN.out
      rw [hR] at hLEN
      have HTS2 := Lib.hid (HTS.out.trans (by rw [hR]))
      clear ha hra c0 hfj hle hl2 h400 hjn
      go_wp2_with fail
      refine HROW.out.mono ?_
      rintro e w1 ⟨v1, rfl, ho1, hb1⟩
      rw [List.length_map, hR] at ho1
      obtain ⟨va, vc, rfl, -, -⟩ := own_shapeP ho1
      have HX1 := Lib.hid (Ext.trans HX.out hb1)
      clear ho1 hb1 HROW hR
      go_wp2_with fail
      go_roundw
      case rel =>
        exact ⟨j + 1, by omega, by go_num, by rw [HTS2.out]; go_num, HX1.out⟩
      case measure => simp [intOf]; omega
    · have HALL := Lib.hid (show rows.take j = rows from List.take_of_length_le (by have := HN.out; omega))
      go_wp2_with fail
      go_ret
      exact ⟨by rw [HALL.out]; rfl, HX.out⟩

end Go.Proofs.Ytoagpaphghgkmaa

/-
  The program's Put of layer 17.
-/
namespace Go.Proofs.Ytoagpaphghgkmaa
open Go.RowKit Go.BigFrame

/-- Rows that are read whatever becomes of O: no head lies in O. -/
theorem rows_fixed {O : Nat → Prop} {w : World} {ao : Option Addr} {N cap : Nat} {rows : List (List V)} (hu : ∀ W, OnlyS O w W → RdRows W (.slice ao N cap) rows) (j : Nat) (hj : j < rows.length) :
    ∃ g off a1 a2 a3, ao = some ⟨g, off, none⟩ ∧ ¬ O g ∧ ∀ W, OnlyS O w W → W.cell? ⟨g, off + j, none⟩ = some (.slice a1 a2 a3) ∧ RdVals W (.slice a1 a2 a3) rows[j] := by
  obtain ⟨fh, hfh, -, -, -, hat⟩ := (hu w (OnlyS.refl _ _)).heads
  obtain ⟨a1, a2, a3, ha, hra⟩ := hfh.get j hj
  obtain ⟨g, off, rfl, c0⟩ := hat j _ ha
  have hO : ¬ O g := fun hO => by
    have ho : OnlyS O w (w.setCell ⟨g, off + j, none⟩ (.int .i64 0)) := OnlyS.of_onlyP (OnlyP.set g (off + j) w _) hO
    obtain ⟨fh', hfh', -, -, -, hat'⟩ := (hu _ ho).heads
    obtain ⟨b1, b2, b3, hb, -⟩ := hfh'.get j hj
    obtain ⟨g', off', e, c1⟩ := hat' j _ hb
    simp only [Option.some.injEq, Addr.mk.injEq, and_true] at e
    obtain ⟨rfl, rfl⟩ := e
    rw [World.cell?_setCell_same (w := w) (h := c0)] at c1
    cases c1
  refine ⟨g, off, a1, a2, a3, rfl, hO, fun W hW => ?_⟩
  have c2 := hW.cell c0 hO
  obtain ⟨fh', hfh', -, -, -, hat'⟩ := (hu _ hW).heads
  obtain ⟨b1, b2, b3, hb, hrb⟩ := hfh'.get j hj
  obtain ⟨g', off', e, c1⟩ := hat' j _ hb
  simp only [Option.some.injEq, Addr.mk.injEq, and_true] at e
  obtain ⟨rfl, rfl⟩ := e
  rw [c2] at c1
  simp only [Option.some.injEq, Value.slice.injEq] at c1
  obtain ⟨rfl, rfl, rfl⟩ := c1
  exact ⟨c2, hrb⟩

/-- Put's answer. -/
def PPutted17 (O : Nat → Prop) (w : World) (p : Nat) (s : St) (rows : List (List V)) (e : Ending) (w' : World) : Prop :=
  ∃ v O', e = .returned (.tuple #[v, .int .i64 (putR s rows).1.2]) ∧ PSto O' w' p (putR s rows).2 ∧ OnlyS O w w' ∧ (∀ b, O' b → O b ∨ w.heap.size ≤ b) ∧
    (((putR s rows).1.2 ≠ 0 ∧ v = .pointer none) ∨ ((putR s rows).1.2 = 0 ∧ ∃ f F, v = .pointer (some ⟨f, 0, none⟩) ∧ Fil F w' f p (putR s rows).1.1 rows.length ∧ ∀ b, F b → w.heap.size ≤ b ∧ ¬ O' b))
theorem PPutted17.no {O O' X' : Nat → Prop} {w w' : World} {p : Nat} {s : St} {rows : List (List V)} {E : Int} (hr : putR s rows = (([], E), s)) (hE : E ≠ 0) (hp : PSto O' w' p s) (hd : Duo O (fun _ => False) w O' X' w') : PPutted17 O w p s rows (.returned (.tuple #[.pointer none, .int .i64 E])) w' := by
  unfold PPutted17
  rw [hr]
  exact ⟨_, O', rfl, hp, hd.only.mono (fun b _ h => h.elim id False.elim), hd.os, .inl ⟨hE, rfl⟩⟩
theorem mayR_small (r : List V) : mayR r = 0 ∨ mayR r = 3 ∨ mayR r = 7 := by
  unfold mayR
  split
  · exact .inr (.inl rfl)
  · split
    · exact .inl rfl
    · exact .inr (.inr rfl)

set_option maxRecDepth 100000 in
set_option maxHeartbeats 4000000 in
theorem pPut17_any (O : Nat → Prop) (p : Nat) (s : St) (u : Value) (rows : List (List V)) (w : World) (h : PSto O w p s) (hok : okS s) (hu : ∀ W, OnlyS O w W → RdRows W u rows) (hf : FitB rows) :
    Calls Try.prog 15 #[.pointer (some ⟨p, 0, none⟩), u] w (PPutted17 O w p s rows) := by
  obtain ⟨ao, cap, rfl, hu1, hu2⟩ := (hu w (OnlyS.refl _ _)).shape
  unfold maxLen at hu2
  have HFX := Lib.hid (fun j hj => rows_fixed hu j hj)
  have HP := Lib.hid h
  have HOK := Lib.hid hok
  have HF := Lib.hid hf
  have HUS := Lib.hid (show usedS s ≤ s.length from List.countP_le_length)
  obtain ⟨N, hN⟩ : ∃ N, rows.length = N := ⟨_, rfl⟩
  have HN := Lib.hid hN
  rw [hN] at hu1 ⊢
  clear h hok hu hf hN
  go_enter Try.func15, Try.ntmps15
  go_wp2_with fail
  refine (pNew17_any p w).mono ?_
  rintro e w1 ⟨⟨f, X, rfl, hW, hX⟩, hx⟩
  have HW1 := Lib.hid hW
  have HD1 := Lib.hid (show Duo O (fun _ => False) w O X w1 from ⟨OnlyS.of_ext hx, fun _ hb => .inl hb, fun b hb => .inr (hX b hb), fun b hb hxb => by
    have := HP.out.lt b hb
    have := hX b hxb
    omega⟩)
  have HP1 := Lib.hid (HP.out.onlyS (OnlyS.of_ext (X := fun _ => False) hx) (fun _ _ h => h))
  clear hW hX hx
  go_wp2_with fail
  go_loopw [9, 14] (fun _ i wr => ∃ (j : Nat) (O' X' : Nat → Prop), j ≤ N ∧ i = .int .i64 j ∧ (∀ r ∈ rows.take j, mayR r = 0) ∧ fullK (rows.take j) + usedS s ≤ s.length ∧ PSto O' wr p (storeK s (rowsB (rows.take j)) (fullK (rows.take j))) ∧ Wri X' wr f p (atW s (rows.take j)) ∧ Duo O (fun _ => False) w O' X' wr) (fun _ i _ => N - (intOf i).toNat)
  case atStart =>
    refine ⟨0, O, X, Nat.zero_le _, rfl, fun r hr => by simp at hr, ?_, ?_, ?_, HD1.out⟩
    · have := HUS.out
      show fullK [] + usedS s ≤ s.length
      have : fullK [] = 0 := rfl
      omega
    · rw [List.take_zero, (atW_nil s).2]
      exact HP1.out
    · rw [List.take_zero, (atW_nil s).1]
      exact HW1.out
  case round =>
    obtain ⟨j, O', X', hj, rfl, hm, hk, hp, hw, hd⟩ := hrel
    have HM := Lib.hid hm
    have HK := Lib.hid hk
    have HP2 := Lib.hid hp
    have HW2 := Lib.hid hw
    have HD2 := Lib.hid hd
    clear hm hk hp hw hd
    by_cases hlt : j < N
    · have hjl : j < rows.length := by have := HN.out; omega
      obtain ⟨g, off, a1, a2, a3, rfl, hgO, hall⟩ := HFX.out j hjl
      have ho2 : OnlyS O w wr := HD2.out.only.mono fun b _ h => h.elim id False.elim
      have x0 := (hall wr ho2).1
      have HADD := Lib.hid (pAdd17_any O' X' f p _ (atW s (rows.take j)) (.slice a1 a2 a3) rows[j] wr HP2.out (storeK_ok HOK.out _ _) HW2.out HD2.out.apart (fun W' hW' => (hall W' (OnlyS.trans ho2 hW' fun i hi hb => by
        rcases hb with hb | hb
        · rcases HD2.out.os i hb with h1 | h1
          · exact h1
          · omega
        · rcases HD2.out.xs i hb with h1 | h1
          · exact h1.elim
          · omega)).2) ⟨by simp, fun r hr => by
        rw [List.mem_singleton] at hr
        exact hr ▸ HF.out.2 _ (List.getElem_mem hjl)⟩ (by
        show (rows.take j).length ≤ 1000000
        have := HF.out.1
        rw [List.length_take]
        omega))
      by_cases hmr : mayR rows[j] = 0
      · have HM2 := Lib.hid (show ∀ r ∈ rows.take (j + 1), mayR r = 0 from fun r hr => by
          rw [List.take_succ_eq_append_getElem hjl] at hr
          rcases List.mem_append.1 hr with h1 | h1
          · exact HM.out r h1
          · rw [List.mem_singleton] at h1
            exact h1 ▸ hmr)
        by_cases hroom : fullK (rows.take j ++ [rows[j]]) + usedS s ≤ s.length
        · rw [addW_room hmr hroom, ← List.take_succ_eq_append_getElem hjl] at HADD
          rw [← List.take_succ_eq_append_getElem hjl] at hroom
          have HRO := Lib.hid hroom
          clear hall ho2 hmr hroom hgO
          go_wp2_with fail
          refine HADD.out.mono ?_
          rintro e w3 ⟨O3, X3, rfl, hp3, hw3, ho3, hn3, hx3, hax3⟩
          have HP3 := Lib.hid hp3
          have HW3 := Lib.hid hw3
          have HD3 := Lib.hid (HD2.out.trans ⟨ho3, hn3, hx3, hax3⟩)
          clear hp3 hw3 ho3 hn3 hx3 hax3
          go_wp2_with fail
          go_roundw
          case rel => exact ⟨j + 1, O3, X3, by omega, by go_num, HM2.out, HRO.out, HP3.out, HW3.out, HD3.out⟩
          case measure => simp [intOf]; omega
        · have HR := Lib.hid (putR_at_full hjl HM2.out HUS.out hroom)
          rw [addW_none hmr HK.out hroom] at HADD
          clear hall ho2 hmr hroom hgO
          go_wp2_with fail
          refine HADD.out.mono ?_
          rintro e w3 ⟨O3, X3, rfl, hp3, hw3, ho3, hn3, hx3, hax3⟩
          have HD3 := Lib.hid (HD2.out.trans ⟨ho3, hn3, hx3, hax3⟩)
          have HCC := Lib.hid (pCancel17_any O3 X3 f p s offW w3 hp3 HOK.out hw3 hax3)
          clear hp3 hw3 ho3 hn3 hx3 hax3
          go_wp2_with fail
          refine HCC.out.mono ?_
          rintro e w4 ⟨O4, X4, rfl, hp4, -, ho4, hn4, hx4, hax4⟩
          have HP4 := Lib.hid hp4
          have HD4 := Lib.hid (HD3.out.trans ⟨ho4, hn4, hx4, hax4⟩)
          clear hp4 ho4 hn4 hx4 hax4
          go_wp2_with fail
          go_ret2
          exact PPutted17.no HR.out (by decide) HP4.out HD4.out
      · have HR := Lib.hid (putR_at_bad hjl HM.out hmr HK.out)
        rw [addW_bad hmr] at HADD
        have hms := mayR_small rows[j]
        generalize mayR rows[j] = m at HR HADD hmr hms
        have HMR := Lib.hid hmr
        have q1 : (m != 0) = true := by rw [bne_iff_ne]; exact hmr
        have q2 : (m == 0) = false := beq_eq_false_iff_ne.2 hmr
        clear hall ho2 hmr hgO hms
        go_wp2_with fail
        refine HADD.out.mono ?_
        rintro e w3 ⟨O3, X3, rfl, hp3, hw3, ho3, hn3, hx3, hax3⟩
        have HD3 := Lib.hid (HD2.out.trans ⟨ho3, hn3, hx3, hax3⟩)
        have HCC := Lib.hid (pCancel17_any O3 X3 f p _ _ w3 hp3 (storeK_ok HOK.out _ _) hw3 hax3)
        clear hp3 hw3 ho3 hn3 hx3 hax3
        go_wp2_with fail
        refine HCC.out.mono ?_
        rintro e w4 ⟨O4, X4, rfl, hp4, -, ho4, hn4, hx4, hax4⟩
        rw [cancelW_at] at hp4
        have HP4 := Lib.hid hp4
        have HD4 := Lib.hid (HD3.out.trans ⟨ho4, hn4, hx4, hax4⟩)
        clear hp4 ho4 hn4 hx4 hax4
        go_wp2_with fail
        go_ret2
        exact PPutted17.no HR.out HMR.out HP4.out HD4.out
    · have hALL : rows.take j = rows := List.take_of_length_le (by have := HN.out; omega)
      have hm := HM.out
      have hk := HK.out
      have hp := HP2.out
      have hw := HW2.out
      rw [hALL] at hm hk hp hw
      have HDN := Lib.hid (pDone17_any O' X' f p _ _ wr hp (storeK_ok HOK.out _ _) hw HD2.out.apart)
      obtain ⟨hd1, hd2⟩ := doneW_at hm hk
      have HD1' := Lib.hid hd1
      have HD2' := Lib.hid hd2
      clear hALL hm hk hp hw hd1 hd2
      go_wp2_with fail
      refine HDN.out.mono ?_
      rintro e w3 ⟨v, O3, X3, F, rfl, hp3, -, ho3, hn3, hx3, hf3, hax3, hfx3, hv⟩
      have hd3 : Duo O (fun _ => False) w O3 X3 w3 := HD2.out.trans ⟨ho3, hn3, hx3, hax3⟩
      have hans : PPutted17 O w p s rows (.returned (.tuple #[v, .int .i64 (doneW (storeK s (rowsB rows) (fullK rows)) (atW s rows)).1.1])) w3 := by
        have e1 := congrArg (fun x => x.1.2) HD1'.out
        have e2 := congrArg (fun x => x.1.1) HD1'.out
        have e3 := congrArg (fun x => x.2) HD1'.out
        simp only at e1 e2 e3
        unfold PPutted17
        rw [← e1, ← e2, ← e3]
        refine ⟨v, O3, rfl, hp3, hd3.only.mono (fun b _ h => h.elim id False.elim), hd3.os, ?_⟩
        rcases hv with hv | ⟨hv1, g, hv2, hv3⟩
        · exact .inl hv
        · rw [HD2'.out (e1 ▸ hv1)] at hv3
          refine .inr ⟨hv1, g, F, hv2, hv3, fun b hb => ⟨?_, (hfx3 b hb).2⟩⟩
          rcases hf3 b hb with h1 | h1
          · rcases HD2.out.xs b h1 with h2 | h2
            · exact h2.elim
            · exact h2
          · exact Nat.le_trans HD2.out.only.size h1
      have HANS := Lib.hid hans
      clear hp3 ho3 hn3 hx3 hf3 hax3 hfx3 hv hd3 hans
      obtain ⟨E, hE⟩ : ∃ E, (doneW (storeK s (rowsB rows) (fullK rows)) (atW s rows)).1.1 = E := ⟨_, rfl⟩
      rw [hE] at HANS ⊢
      go_wp2_with fail
      go_ret2
      exact HANS.out

end Go.Proofs.Ytoagpaphghgkmaa

/-
  bytes.Compare over two slices that read as bytes.
-/
namespace Go.Proofs.Ytoagpaphghgkmaa
open Go.RowKit Go.BigFrame

theorem run_loadBytes17 {P : Program} (w : World) : ∀ (l : List UInt8) (x : Addr) (acc : List UInt8) (_ : ∀ i u, (l.map bv)[i]? = some u → w.cell? (x.add i) = some u),
    (Extern.Bytes.loadBytes x l.length ⟨acc.toArray⟩).run P w = .ok ⟨(acc ++ l).toArray⟩ w
  | [], x, acc, _ => by
    rw [List.append_nil]
    rfl
  | c :: t, x, acc, hc => by
    have h0 := hc 0 (bv c) rfl
    rw [add_zero] at h0
    have ih := run_loadBytes17 (P := P) w t (x.add 1) (acc ++ [c]) (fun i u hu => by
      rw [add_more']
      have := hc (i + 1) u (by simpa using hu)
      rwa [Nat.add_comm] at this)
    rw [List.length_cons]
    unfold Extern.Bytes.loadBytes
    have e : (ByteArray.mk acc.toArray).push c = ByteArray.mk (acc ++ [c]).toArray := by
      unfold ByteArray.push
      simp
    have e2 : ((c.toNat : Int)).toNat.toUInt8 = c := by
      rw [Int.toNat_natCast]
      simp
    unfold bv at h0
    simp only [Sem.run_bind, run_load, h0, Result.andThen, e2, e]
    rw [ih]
    simp
theorem bytesOf17 {P : Program} {w : World} {v : Value} {l : List UInt8} (h : Rd w v l) : (Extern.Bytes.bytesOf v).run P w = .ok ⟨l.toArray⟩ w := by
  rcases h with ⟨rfl, h⟩ | ⟨x, cap, rfl, -, -, h4⟩
  · rw [List.map_eq_nil_iff] at h
    subst h
    rfl
  · have := run_loadBytes17 (P := P) w l x [] h4
    rw [List.nil_append] at this
    rw [List.length_map]
    exact this
theorem run_compare17 {P : Program} {w : World} {u v : Value} {a b : List UInt8} (hu : Rd w u a) (hv : Rd w v b) :
    (Extern.BytealgCompare.compare #[u, v]).run P w = .ok (.int .i64 (cmpB a b)) w := by
  change Sem.run P (do pure (goInt (Extern.BytealgCompare.cmp (← Extern.Bytes.bytesOf u) (← Extern.Bytes.bytesOf v)))) w = _
  simp only [Sem.run_bind, bytesOf17 hu, bytesOf17 hv, Sem.run_pure, Result.andThen]
  rw [Lib.cmp_eq, ← compareBytes_eq]
  rfl

set_option maxRecDepth 100000 in
theorem pCompare17_any (u v : Value) (a b : List UInt8) (w : World) (hu : Rd w u a) (hv : Rd w v b) :
    Calls Try.prog 114 #[u, v] w fun e w' => e = .returned (.int .i64 (cmpB a b)) ∧ w = w' := by
  have HR := Lib.hid (run_compare17 (P := Try.prog) hu hv)
  clear hu hv
  go_enter Try.func114, Try.ntmps114
  go_wp2
  rw [run_callFunc_extern Try.func118 (by kernel_rfl) (by kernel_rfl) (by kernel_rfl) (e := Extern.BytealgCompare.compare) (by kernel_rfl), HR.out]
  simp only [Result.andThen]
  rw [Oper.upon_value]
  go_wp2
  go_ret
  exact ⟨rfl, rfl⟩

end Go.Proofs.Ytoagpaphghgkmaa

/-
  A number taken off the front of bytes: over lists. No program.
-/
namespace Go.Proofs.Ytoagpaphghgkmaa

/-- A number taken off the front, what is left, and whether that failed. -/
def tk (l : List UInt8) : Nat × List UInt8 × Bool := if (front l).2 = 0 then (0, [], true) else ((front l).1, l.drop (front l).2, false)
theorem tk_enc (n : Nat) (t : List UInt8) (hn : n < 2 ^ 64) : tk (enc n ++ t) = (n, t, false) := by
  unfold tk
  rw [front_enc n t hn]
  have := enc_pos n
  rw [if_neg (by simp only; omega)]
  simp
theorem tk_lt (l : List UInt8) : (tk l).1 < 2 ^ 64 := by
  unfold tk
  split
  · simp
  · rename_i h
    exact (front_sound l (front l).1 (front l).2 rfl h).1
theorem tk_bad {l : List UInt8} (h : (tk l).2.2 = true) : tk l = (0, [], true) := by
  unfold tk at h ⊢
  split
  · rfl
  · rename_i hn; rw [if_neg hn] at h; cases h
theorem tk_ok {l : List UInt8} (h : (front l).2 ≠ 0) : tk l = ((front l).1, l.drop (front l).2, false) := by
  unfold tk
  rw [if_neg h]
theorem tk_no {l : List UInt8} (h : (front l).2 = 0) : tk l = (0, [], true) := by
  unfold tk
  rw [if_pos h]
theorem tk_len (l : List UInt8) : (tk l).2.1.length ≤ l.length ∧ ((tk l).2.2 = false → (tk l).2.1.length + 1 ≤ l.length) := by
  by_cases h : (front l).2 = 0
  · rw [tk_no h]
    exact ⟨Nat.zero_le _, fun h => by cases h⟩
  · rw [tk_ok h]
    obtain ⟨h1, h2, h3⟩ := front_sound l (front l).1 (front l).2 rfl h
    have h4 := congrArg List.length h3
    rw [List.length_append] at h4
    have h5 := enc_pos (front l).1
    generalize (front l).1 = q at h4 h5
    generalize l.drop (front l).2 = r at h4
    exact ⟨show r.length ≤ l.length by omega, fun _ => show r.length + 1 ≤ l.length by omega⟩
theorem tk_zig_lt {x : Int} (h0 : -9223372036854775808 ≤ x) (h1 : x ≤ 9223372036854775807) : zig x < 2 ^ 64 := by
  by_cases h : x < 0
  · have := zig_neg x h; omega
  · have := zig_pos x h; omega
theorem tk_zag_fits {n : Nat} (h : n < 2 ^ 64) : -9223372036854775808 ≤ zag n ∧ zag n ≤ 9223372036854775807 := by
  unfold zag
  split <;> omega

/-- A text taken off the front, what is left, and whether that failed. -/
def tkT (l : List UInt8) : List UInt8 × List UInt8 × Bool :=
  if (front l).2 = 0 then ([], [], true) else if 1024 < (front l).1 ∨ (l.drop (front l).2).length < (front l).1 then ([], [], true) else ((l.drop (front l).2).take (front l).1, (l.drop (front l).2).drop (front l).1, false)
theorem tkT_no {l : List UInt8} (h : (front l).2 = 0) : tkT l = ([], [], true) := if_pos h
theorem tkT_long {l : List UInt8} (h : (front l).2 ≠ 0) (hn : 1024 < (front l).1 ∨ (l.drop (front l).2).length < (front l).1) : tkT l = ([], [], true) := by
  unfold tkT
  rw [if_neg h, if_pos hn]
theorem tkT_ok {l : List UInt8} (h : (front l).2 ≠ 0) (hn : ¬ (1024 < (front l).1 ∨ (l.drop (front l).2).length < (front l).1)) : tkT l = ((l.drop (front l).2).take (front l).1, (l.drop (front l).2).drop (front l).1, false) := by
  unfold tkT
  rw [if_neg h, if_neg hn]
theorem tkT_enc (s t : List UInt8) (hs : s.length ≤ 1024) : tkT (enc s.length ++ s ++ t) = (s, t, false) := by
  have hf := front_enc s.length (s ++ t) (by omega)
  rw [← List.append_assoc] at hf
  have hp := enc_pos s.length
  have hd : (enc s.length ++ s ++ t).drop (enc s.length).length = s ++ t := by rw [List.append_assoc, List.drop_left]
  rw [tkT_ok (by rw [hf]; simp only; omega) (by rw [hf]; simp only; rw [hd, List.length_append]; omega), hf]
  simp only
  rw [hd, List.take_left, List.drop_left]
theorem tkT_bad {l : List UInt8} (h : (tkT l).2.2 = true) : tkT l = ([], [], true) := by
  by_cases h0 : (front l).2 = 0
  · exact tkT_no h0
  · by_cases hn : 1024 < (front l).1 ∨ (l.drop (front l).2).length < (front l).1
    · exact tkT_long h0 hn
    · rw [tkT_ok h0 hn] at h
      cases h
theorem tkT_len (l : List UInt8) : (tkT l).1.length ≤ 1024 ∧ (tkT l).1.length + (tkT l).2.1.length ≤ l.length := by
  by_cases h0 : (front l).2 = 0
  · rw [tkT_no h0]; exact ⟨Nat.zero_le _, Nat.zero_le _⟩
  · by_cases hn : 1024 < (front l).1 ∨ (l.drop (front l).2).length < (front l).1
    · rw [tkT_long h0 hn]; exact ⟨Nat.zero_le _, Nat.zero_le _⟩
    · rw [tkT_ok h0 hn]
      simp only [List.length_take, List.length_drop]
      omega
theorem tkT_sound {l : List UInt8} (h : (tkT l).2.2 = false) : l = enc (tkT l).1.length ++ (tkT l).1 ++ (tkT l).2.1 := by
  by_cases h0 : (front l).2 = 0
  · rw [tkT_no h0] at h; cases h
  · by_cases hn : 1024 < (front l).1 ∨ (l.drop (front l).2).length < (front l).1
    · rw [tkT_long h0 hn] at h; cases h
    · obtain ⟨h1, h2, h3⟩ := front_sound l (front l).1 (front l).2 rfl h0
      rw [tkT_ok h0 hn]
      simp only
      have e : ((l.drop (front l).2).take (front l).1).length = (front l).1 := by rw [List.length_take]; omega
      rw [e, List.append_assoc, List.take_append_drop]
      exact h3
theorem tk_sound {l : List UInt8} (h : (tk l).2.2 = false) : l = enc (tk l).1 ++ (tk l).2.1 ∧ (tk l).1 < 2 ^ 64 := by
  by_cases h0 : (front l).2 = 0
  · rw [tk_no h0] at h; cases h
  · rw [tk_ok h0]
    obtain ⟨h1, h2, h3⟩ := front_sound l (front l).1 (front l).2 rfl h0
    exact ⟨h3, h1⟩

end Go.Proofs.Ytoagpaphghgkmaa

/-
  Bytes that are cut off: whether more of them are needed for an integer, a text, a value. No program.
-/
namespace Go.Proofs.Ytoagpaphghgkmaa
open Go.RowKit

/-- What the program asks of bytes at whose front an integer is looked for. -/
def numCut : List UInt8 → Bool
  | [] => true
  | [c] => decide (247 < c.toNat)
  | c :: d :: t => decide (t.length + 2 + 247 ≤ c.toNat) && !(d == 0)
def textCut (b : List UInt8) : Bool := if numCut b = true then decide (cmpB b (enc 1024) ≤ 0) else decide ((tk b).1 ≤ 1024 ∧ (tk b).2.1.length < (tk b).1)
def valCut : List UInt8 → Bool
  | [] => true
  | c :: t => if c = 1 then decide (t.length = 0) else if c = 2 then numCut t else if c = 3 then textCut t else false

theorem take_app {α : Type} (a t : List α) (m : Nat) (h : a.length ≤ m) : (a ++ t).take m = a ++ t.take (m - a.length) := by
  rw [List.take_append, List.take_of_length_le h]
/-- The second byte of an integer is not 0. -/
theorem enc_second {n : Nat} (hn : n < 2 ^ 64) {c d : UInt8} {l : List UInt8} (h : enc n = c :: d :: l) : d ≠ 0 := by
  intro hd
  subst hd
  have hf := front_enc n [] hn
  rw [List.append_nil, h] at hf
  obtain ⟨c', l', h1, h2⟩ := enc_head n hn
  rw [h] at h1
  simp only [List.cons.injEq] at h1
  obtain ⟨rfl, rfl⟩ := h1
  simp only [List.length_cons] at h2
  simp only [front] at hf
  rw [if_neg (by omega), if_neg (by simp only [List.length_cons]; omega)] at hf
  split at hf
  · simp only [Prod.mk.injEq, List.length_cons] at hf
    omega
  · rename_i hno
    apply hno
    by_cases h1 : 1 < c.toNat - 247
    · exact .inr ⟨h1, rfl⟩
    · left
      rw [show c.toNat - 247 = 1 by omega]
      simp [val]
theorem numCut_enc {n : Nat} (hn : n < 2 ^ 64) (t b : List UInt8) (m : Nat) (hb : b = (enc n ++ t).take m) : numCut b = decide (b.length < (enc n).length) := by
  obtain ⟨c, l, h1, h2⟩ := enc_head n hn
  cases b with
  | nil => rw [h1]; rfl
  | cons c' b =>
    rw [h1] at hb ⊢
    have hm : m = (m - 1) + 1 := by
      cases m with
      | zero => simp at hb
      | succ k => omega
    rw [hm, List.cons_append, List.take_succ_cons] at hb
    simp only [List.cons.injEq] at hb
    obtain ⟨rfl, hb⟩ := hb
    cases b with
    | nil =>
      simp only [numCut, List.length_cons, List.length_nil]
      rw [decide_eq_decide]
      omega
    | cons d b =>
      simp only [numCut, List.length_cons]
      cases l with
      | nil =>
        simp only [List.length_nil] at h2 ⊢
        rw [decide_eq_false (by omega), Bool.false_and, decide_eq_false (by omega)]
      | cons d' l =>
        have hm2 : m - 1 = (m - 2) + 1 := by
          cases h3 : m - 1 with
          | zero => rw [h3] at hb; simp at hb
          | succ k => omega
        rw [hm2, List.cons_append, List.take_succ_cons] at hb
        simp only [List.cons.injEq] at hb
        obtain ⟨rfl, hb⟩ := hb
        have hd := enc_second hn h1
        have hd2 : (d == 0) = false := beq_eq_false_iff_ne.2 hd
        rw [hd2]
        simp only [List.length_cons] at h2 ⊢
        rw [Bool.not_false, Bool.and_true, decide_eq_decide]
        omega
theorem less_prefix (a : List UInt8) (c : UInt8) (t : List UInt8) : a < a ++ c :: t := by
  induction a with
  | nil => exact List.nil_lt_cons _ _
  | cons x a ih => exact List.cons_lt_cons_iff.2 (.inr ⟨rfl, ih⟩)
theorem prefix_le {b : List UInt8} {k m : Nat} (hk : k ≤ 1024) (hb : b = (enc k).take m) (hl : b.length < (enc k).length) : cmpB b (enc 1024) ≤ 0 := by
  have h1 : enc k = b ++ (enc k).drop m := by rw [hb, List.take_append_drop]
  have h2 : b < enc k := by
    cases hd : (enc k).drop m with
    | nil =>
      rw [hd, List.append_nil] at h1
      rw [h1] at hl
      omega
    | cons c t =>
      rw [hd] at h1
      conv => rhs; rw [h1]
      exact less_prefix b c t
  have h3 : b < enc 1024 := by
    by_cases e : k = 1024
    · exact e ▸ h2
    · have h4 := enc_less k 1024 (by omega) (by omega)
      rw [decide_eq_true (by omega)] at h4
      exact List.lt_trans h2 ((less_iff _ _).1 h4)
  have h5 := cmpB_lt.2 h3
  omega
theorem textCut_enc {s : List UInt8} (hs : s.length ≤ 1024) (t b : List UInt8) (m : Nat) (hb : b = ((enc s.length ++ s) ++ t).take m) : textCut b = decide (b.length < (enc s.length ++ s).length) := by
  rw [List.append_assoc] at hb
  have hn := numCut_enc (show s.length < 2 ^ 64 by omega) (s ++ t) b m hb
  have hbl : b.length ≤ m := by rw [hb, List.length_take]; omega
  unfold textCut
  rw [hn, List.length_append]
  by_cases hlt : b.length < (enc s.length).length
  · rw [decide_eq_true hlt, if_pos rfl, decide_eq_true (show b.length < (enc s.length).length + s.length by omega)]
    rw [decide_eq_true]
    have hm : m ≤ (enc s.length).length := by
      rw [hb, List.length_take, List.length_append] at hlt
      omega
    refine prefix_le hs (m := m) ?_ hlt
    rw [hb, List.take_append_of_le_length hm]
  · rw [decide_eq_false hlt, if_neg (by decide)]
    have hb2 : b = enc s.length ++ (s ++ t).take (m - (enc s.length).length) := by
      rw [hb, take_app _ _ _ (by omega)]
    generalize hr : (s ++ t).take (m - (enc s.length).length) = r at hb2
    have htk : tk b = (s.length, r, false) := by rw [hb2, tk_enc _ _ (by omega)]
    rw [htk, decide_eq_decide, hb2, List.length_append]
    simp only
    omega
theorem valCut_enc {v : V} (hv : v.fits) (hr : rightV v = true) (t b : List UInt8) (m : Nat) (hb : b = (encV v ++ t).take m) : valCut b = decide (b.length < (encV v).length) := by
  obtain ⟨k, n, s⟩ := v
  have hz := zig_lt n hv.lo hv.hi
  have he : encV ⟨k, n, s⟩ = UInt8.ofNat k.toNat :: (if k = 1 ∨ k = 2 then enc (zig n) else if k = 3 then enc s.length ++ s else []) := by
    unfold encV
    rw [if_pos hr]
  cases b with
  | nil =>
    have := encV_pos ⟨k, n, s⟩
    rw [decide_eq_true (by rw [List.length_nil]; omega)]
    rfl
  | cons c b =>
    rw [he] at hb ⊢
    have hm : m = (m - 1) + 1 := by
      cases m with
      | zero => simp at hb
      | succ k => omega
    rw [hm, List.cons_append, List.take_succ_cons] at hb
    simp only [List.cons.injEq] at hb
    obtain ⟨hc, hb⟩ := hb
    subst hc
    rcases (rightV_iff _).1 hr with ⟨h1, h2, h3⟩ | ⟨h1, h2, h3⟩ | ⟨h1, h2⟩ | ⟨h1, h2, h3⟩
    · simp only at h1
      subst h1
      rw [if_neg (by decide), if_neg (by decide)] at hb ⊢
      show false = _
      rw [decide_eq_false]
      simp
    · simp only at h1 h2
      subst h1
      rw [if_pos (by decide)] at hb ⊢
      have hz2 : (enc (zig n)).length = 1 := by
        rcases h2 with rfl | rfl <;> rfl
      show decide (b.length = 0) = _
      rw [decide_eq_decide]
      simp only [List.length_cons, hz2]
      omega
    · simp only at h1
      subst h1
      rw [if_pos (by decide)] at hb ⊢
      show numCut b = _
      rw [numCut_enc hz t b (m - 1) hb, decide_eq_decide]
      simp only [List.length_cons]
      omega
    · simp only at h1 h3
      subst h1
      rw [if_neg (by decide), if_pos rfl] at hb ⊢
      show textCut b = _
      rw [textCut_enc h3 t b (m - 1) hb, decide_eq_decide]
      simp only [List.length_cons]
      omega

/-! ### The pages of bytes, one behind the other -/

def padB (b : List UInt8) (n : Nat) : List UInt8 := b ++ zeros (56 * n - b.length)
theorem padB_length {b : List UInt8} {n : Nat} (h : b.length ≤ 56 * n) : (padB b n).length = 56 * n := by
  unfold padB zeros
  rw [List.length_append, List.length_replicate]
  omega
theorem padB_page {b : List UInt8} {n j : Nat} (h : b.length ≤ 56 * n) (hj : j < n) : ((padB b n).drop (56 * j)).take 56 = fill ((b.drop (56 * j)).take 56) := by
  unfold padB fill zeros
  apply List.ext_getElem?
  intro i
  rw [List.getElem?_take, List.getElem?_drop, List.getElem?_append, List.getElem?_append, List.length_take, List.length_drop]
  by_cases hi : i < 56
  · rw [if_pos hi]
    by_cases h2 : 56 * j + i < b.length
    · rw [if_pos h2, if_pos (by omega), List.getElem?_take, if_pos hi, List.getElem?_drop]
    · rw [if_neg h2, if_neg (by omega), List.getElem?_replicate, List.getElem?_replicate, if_pos (by omega), if_pos (by omega)]
  · rw [if_neg hi, if_neg (by omega), List.getElem?_replicate, if_neg (by omega)]
/-- One page more. -/
theorem padB_more {b : List UInt8} {n m pos : Nat} (h : b.length ≤ 56 * n) (hm : m < n) (hp : pos ≤ 56 * m) : (((padB b n).take (56 * m)).drop pos) ++ fill ((b.drop (56 * m)).take 56) = ((padB b n).take (56 * (m + 1))).drop pos := by
  rw [← padB_page h hm]
  have hl := padB_length h
  have e : (padB b n).take (56 * (m + 1)) = (padB b n).take (56 * m) ++ ((padB b n).drop (56 * m)).take 56 := by
    rw [show 56 * (m + 1) = 56 * m + 56 by omega, List.take_add]
  rw [e, List.drop_append_of_le_length (by rw [List.length_take]; omega)]
theorem padB_rest (b : List UInt8) (n m pos : Nat) : ((padB b n).take (56 * m)).drop pos = ((padB b n).drop pos).take (56 * m - pos) := by
  rw [List.drop_take]
theorem padB_rest_len {b : List UInt8} {n m : Nat} (pos : Nat) (h : b.length ≤ 56 * n) (hm : m ≤ n) : (((padB b n).take (56 * m)).drop pos).length = 56 * m - pos := by
  rw [List.length_drop, List.length_take, padB_length h]
  omega

end Go.Proofs.Ytoagpaphghgkmaa

/-
  'shown' (the document's examples) returns true; 'few' cuts to 3,000 bytes; the calls of a nil reader.
-/
namespace Go.Proofs.Ytoagpaphghgkmaa
open Go.RowKit

/-- What a call leaves that hands back bytes of its own, and what string(..) of them is. -/
def Gives (w : World) (l : List UInt8) (r : Ending) (w' : World) : Prop :=
  ∃ v, r = .returned v ∧ (convert 43 9 v).run Try.prog w' = .ok (.string ⟨l.toArray⟩) w' ∧ Rd w' v l ∧ Below w.heap.size w w'

theorem Fresh.gives {w : World} {l : List UInt8} {r : Ending} {w' : World} (h : Fresh 5 w (l.map bv) r w') : Gives w l r w' := by
  obtain ⟨v, rfl, hown, hb⟩ := h
  have hr : Rd w' v l := RdV.of_owns hown
  exact ⟨v, rfl, hr.string _ _ _ Try.underlying43 Try.underlying5 Try.underlying9, hr, hb⟩

theorem Num_const (n : Int) (out : List UInt8) (w : World) (h0 : 0 ≤ n) (h1 : n ≤ 18446744073709551615) (h : enc n.toNat = out) :
    Calls Try.prog 68 #[.slice none 0 0, .int .u64 n] w (Gives w out) := by
  have := Num_any (.slice none 0 0) [] n.toNat w (Rd.nil w) (by simp) (by omega)
  rw [h, List.nil_append, Int.toNat_of_nonneg h0] at this
  exact this.mono fun _ _ hh => hh.gives
theorem Int_const (n : Int) (out : List UInt8) (w : World) (h0 : -9223372036854775808 ≤ n) (h1 : n ≤ 9223372036854775807) (h : enc (zig n) = out) :
    Calls Try.prog 87 #[.slice none 0 0, .int .i64 n] w (Gives w out) := by
  have := Int_any (.slice none 0 0) [] n w (Rd.nil w) (by simp) h0 h1
  rw [h, List.nil_append] at this
  exact this.mono fun _ _ hh => hh.gives
theorem Text_const (s : ByteArray) (out : List UInt8) (w : World) (h1 : s.size ≤ 1000) (h : enc s.size ++ s.data.toList = out) :
    Calls Try.prog 88 #[.slice none 0 0, .string s] w (Gives w out) := by
  have := Text_any (.slice none 0 0) [] s w (Rd.nil w) (by simp; omega)
  rw [List.nil_append, h] at this
  exact this.mono fun _ _ hh => hh.gives

/-- Num onto nil, and what string(..) of it is from then on. -/
theorem Num_nil (n : Nat) (w : World) (h1 : n ≤ 18446744073709551615) :
    Calls Try.prog 68 #[.slice none 0 0, .int .u64 n] w fun e w' => ∃ v, e = .returned v ∧ (∀ p : Later Ext w', (convert 43 9 v).run Try.prog p.val = .ok (.string ⟨(enc n).toArray⟩) p.val) ∧ Ext w w' := by
  refine (Num_any (.slice none 0 0) [] n w (Rd.nil w) (by simp) h1).mono ?_
  rintro e w1 ⟨v, rfl, hown, hb⟩
  rw [List.nil_append] at hown
  exact ⟨v, rfl, fun p => (Rd.mono (RdV.of_owns hown) p.ext).string _ _ _ Try.underlying43 Try.underlying5 Try.underlying9, hb⟩

/-! ### A nil reader -/

theorem Bad_nil (w : World) : Calls Try.prog 93 #[.pointer none] w fun e w' => e = .returned (.bool true) ∧ w = w' := by
  go_enter Try.func93, Try.ntmps93
  go_wp2
  go_ret
  exact ⟨rfl, rfl⟩
theorem RNum_nil (w : World) : Calls Try.prog 92 #[.pointer none] w fun e w' => e = .returned (.int .u64 0) ∧ w = w' := by
  go_enter Try.func92, Try.ntmps92
  go_wp2_with (go_at_call 93; refine (Bad_nil _).mono ?_; rintro e w' ⟨rfl, rfl⟩)
  go_ret
  exact ⟨rfl, rfl⟩
theorem unfold_zero (w : World) : Calls Try.prog 115 #[.int .u64 0] w fun e w' => e = .returned (.int .i64 0) ∧ w = w' := by
  go_enter Try.func115, Try.ntmps115
  go_wp2
  go_ret
  exact ⟨rfl, rfl⟩
theorem RInt_nil (w : World) : Calls Try.prog 109 #[.pointer none] w fun e w' => e = .returned (.int .i64 0) ∧ w = w' := by
  go_enter Try.func109, Try.ntmps109
  go_wp2_with (first | (go_at_call 92; refine (RNum_nil _).mono ?_; rintro e w' ⟨rfl, rfl⟩) | (go_at_call 115; refine (unfold_zero _).mono ?_; rintro e w' ⟨rfl, rfl⟩))
  go_ret
  exact ⟨rfl, rfl⟩
theorem RText_nil (w : World) : Calls Try.prog 110 #[.pointer none] w fun e w' => e = .returned (.string ⟨#[]⟩) ∧ w = w' := by
  go_enter Try.func110, Try.ntmps110
  go_wp2_with (first | (go_at_call 92; refine (RNum_nil _).mono ?_; rintro e w' ⟨rfl, rfl⟩) | (go_at_call 93; refine (Bad_nil _).mono ?_; rintro e w' ⟨rfl, rfl⟩))
  go_ret
  exact ⟨rfl, rfl⟩
theorem Left_nil (w : World) : Calls Try.prog 94 #[.pointer none] w fun e w' => e = .returned (.int .i64 0) ∧ w = w' := by
  go_enter Try.func94, Try.ntmps94
  go_wp2_with (go_at_call 93; refine (Bad_nil _).mono ?_; rintro e w' ⟨rfl, rfl⟩)
  go_ret
  exact ⟨rfl, rfl⟩
/-- What a call hands back that are these bytes, in memory that was there. -/
def Few (w : World) (l : List UInt8) (r : Ending) : Prop := ∃ v, r = .returned v ∧ (convert 43 9 v).run Try.prog w = .ok (.string ⟨l.toArray⟩) w ∧ Rd w v l
theorem Few.mk {w : World} {l : List UInt8} {v : Value} (h : Rd w v l) : Few w l (.returned v) := ⟨v, rfl, h.string _ _ _ Try.underlying43 Try.underlying5 Try.underlying9, h⟩

end Go.Proofs.Ytoagpaphghgkmaa

/-
  The walk of the law FormOnly.
-/
namespace Go.Proofs.Ytoagpaphghgkmaa
open Go.RowKit Go.BigFrame

theorem Only.below {B b : Nat} {w w' : World} (h : Only b w w') (hb : B ≤ b) (hB : B ≤ w.heap.size) : Below B w w' :=
  (Below.refl B w).grown h hB (fun k hk => by cases hk; exact hb)

/-- A reader goes on as it is where its own memory is as it was. -/
theorem Rdr.mono {T : TypeId} {B b : Nat} {w w' : World} {l : List UInt8} {bad : Bool} (h : RdrT T B w b l bad) (hb : Below w.heap.size w w') : RdrT T B w' b l bad := by
  obtain ⟨v, h1, h2, h3⟩ := h
  exact ⟨v, (hb.block b (Array.getElem?_eq_some_iff.1 h1).1).trans h1, h2.mono hb, h3⟩

theorem only_ext {w1 w2 w3 : World} {b : Nat} (h2 : Below w1.heap.size w1 w2) (h3 : Only b w2 w3) (hb : w1.heap.size ≤ b) : Below w1.heap.size w1 w3 :=
  h2.trans (h3.below hb h2.size)

/-- The bytes that were taken are the number's encoding. -/
theorem cut_enc {x : Addr} {m cap n s : Nat} {l : List UInt8} (hl : l.length = m) (_hm : m ≤ cap) (hf : front l = (n, s)) (hs : s ≠ 0) (W : World) (h : Rd W (.slice (some x) m cap) l) : Rd W (.slice (some x) s cap) (enc n) := by
  obtain ⟨_, h1, h2⟩ := front_sound l n s hf hs
  have hle := front_le hf
  have he : l.take s = enc n := by
    rw [h2, h1, List.take_left]
  rcases h with ⟨h0, _⟩ | ⟨x', cap', h0, h3, h4, h5⟩
  · cases h0
  · simp only [Value.slice.injEq, Option.some.injEq] at h0
    obtain ⟨rfl, _, rfl⟩ := h0
    have := RdV.takes h3 h4 h5 s s (by rw [List.length_map]; omega)
    rw [← List.map_take, he] at this
    exact this

theorem only_end {w w1 w2 w3 : World} {b : Nat} (h1 : Below w.heap.size w w1) (h2 : Below w1.heap.size w1 w2) (h3 : Only b w2 w3) (hb : w1.heap.size ≤ b) : Below w.heap.size w w3 := by
  have s1 := h1.size
  have s2 := h2.size
  exact (h1.trans (h2.mono s1)).trans (h3.below (by omega) (by omega))

end Go.Proofs.Ytoagpaphghgkmaa

/-
  The contracts of the document's own reader.
-/
namespace Go.Proofs.Ytoagpaphghgkmaa
open Go.RowKit Go.BigFrame

theorem refSpoilt {T : TypeId} (B : Nat) {w : World} {b : Nat} {v : Value} {bad : Bool} (hb : w.heap[b]? = some (.cells #[v, .bool bad] T (0, 0))) :
    RdrT T B ((w.setCell ⟨b, 1, none⟩ (.bool true)).setCell ⟨b, 0, none⟩ (.slice none 0 0)) b [] true ∧ Only b w ((w.setCell ⟨b, 1, none⟩ (.bool true)).setCell ⟨b, 0, none⟩ (.slice none 0 0)) := by
  refine ⟨⟨.slice none 0 0, ?_, Rd.nil _, fun k hk => by cases hk⟩, ⟨rfl, rfl, rfl, by simp [World.setCell], fun k _ hk => ?_⟩⟩
  · simp [World.setCell, Array.getElem?_modify, hb]
  · have hne : k ≠ b := fun e => hk (by rw [e])
    rw [Below.heap_setCell _ _ _ _ hne, Below.heap_setCell _ _ _ _ hne]

/-- What the reference's loop comes to: the number that the first byte, or the bytes behind it, hold. -/
def refVal (c : UInt8) (t : List UInt8) : Nat := if c.toNat < 248 then c.toNat else val (t.take (c.toNat - 247))
/-- How many bytes it has looked at. -/
def refLen (c : UInt8) : Nat := if c.toNat < 248 then 1 else 1 + (c.toNat - 247)

theorem refVal_lt (c : UInt8) (t : List UInt8) : refVal c t < 18446744073709551616 := by
  have hc := c.toNat_lt
  unfold refVal
  split
  · omega
  · have h1 := val_lt (t.take (c.toNat - 247))
    have h4 := Nat.pow_le_pow_right (show 0 < 256 by decide) (show (t.take (c.toNat - 247)).length ≤ 8 by rw [List.length_take]; omega)
    have h5 : (256 : Nat) ^ 8 = 18446744073709551616 := by decide
    omega

/-- The reference's test is the document's. -/
theorem front_of_ref (c : UInt8) (t : List UInt8) (hl : refLen c ≤ t.length + 1) (h : enc (refVal c t) = (c :: t).take (refLen c)) : front (c :: t) = (refVal c t, refLen c) := by
  have h1 := front_enc (refVal c t) ((c :: t).drop (refLen c)) (refVal_lt c t)
  rw [h, List.take_append_drop] at h1
  rw [h1, List.length_take, List.length_cons, Nat.min_eq_left hl]
theorem front_is_ref (c : UInt8) (t : List UInt8) (h : (front (c :: t)).2 ≠ 0) : front (c :: t) = (refVal c t, refLen c) := by
  by_cases hs : c.toNat < 248
  · simp only [front, refVal, refLen, if_pos hs]
  · simp only [front, if_neg hs] at h ⊢
    simp only [refVal, refLen, if_neg hs]
    by_cases h4 : t.length < c.toNat - 247
    · rw [if_pos h4] at h; exact absurd rfl h
    · rw [if_neg h4] at h ⊢
      by_cases h5 : val (t.take (c.toNat - 247)) < 248 ∨ 1 < c.toNat - 247 ∧ t.head? = some 0
      · rw [if_pos h5] at h; exact absurd rfl h
      · rw [if_neg h5]
theorem ref_of_front (c : UInt8) (t : List UInt8) (h : (front (c :: t)).2 ≠ 0) : enc (refVal c t) = (c :: t).take (refLen c) := by
  have e := front_is_ref c t h
  rw [e] at h
  obtain ⟨_, h2, h3⟩ := front_sound (c :: t) _ _ e h
  have h4 := congrArg (List.take (refLen c)) h3
  rw [List.take_append_of_le_length (by omega), h2, List.take_length] at h4
  rw [← h4, h2]

/-- An encoder onto nil, and what string(..) of it is from then on. -/
theorem Num_of {f : FuncId} (H : ∀ (v : Value) (l : List UInt8) (n : Nat) (w : World), Rd w v l → l.length + 9 ≤ 140737488355328 → n ≤ 18446744073709551615 → Calls Try.prog f #[v, .int .u64 n] w (Fresh 5 w ((l ++ enc n).map bv)))
    (n : Nat) (w : World) (h1 : n ≤ 18446744073709551615) :
    Calls Try.prog f #[.slice none 0 0, .int .u64 n] w fun e w' => ∃ v, e = .returned v ∧ (∀ p : Later Ext w', (convert 43 9 v).run Try.prog p.val = .ok (.string ⟨(enc n).toArray⟩) p.val) ∧ Ext w w' := by
  refine (H (.slice none 0 0) [] n w (Rd.nil w) (by simp) h1).mono ?_
  rintro e w1 ⟨v, rfl, hown, hb⟩
  rw [List.nil_append] at hown
  exact ⟨v, rfl, fun p => (Rd.mono (RdV.of_owns hown) p.ext).string _ _ _ Try.underlying43 Try.underlying5 Try.underlying9, hb⟩

theorem only_after {b : Nat} {x y z : World} (h : Ext x y) (k : Only b y z) : Only b x z :=
  ⟨k.os.trans h.os, k.tape.trans h.tape, k.output.trans h.output, Nat.le_trans h.size k.size, fun i hi hne => (k.block i (Nat.lt_of_lt_of_le hi h.size) hne).trans (h.block i hi)⟩

end Go.Proofs.Ytoagpaphghgkmaa
