/-
  The program's contracts of layer 5: Alloc.
-/
import Derived.Test.YthelgjoobckbaaaPagesTake
namespace Go.Proofs.Ythelgjoobckbaaa
open Go.RowKit Go.BigFrame

variable {O : Nat → Prop} {p : Nat} {s : St} {w : World}

theorem allocS_neg {s : St} {n : Int} (h : n < 0) : allocS s n = (([], 1), s) := by unfold allocS; rw [if_pos h]
theorem allocS_full {s : St} {n : Int} (h : ¬ n < 0) (hf : (s.length : Int) - usedS s < n) : allocS s n = (([], 4), s) := by unfold allocS; rw [if_neg h, if_pos hf]
theorem PSto.mono {O : Nat → Prop} {w w' : World} {p : Nat} {s : St} (h : PSto O w p s) (hx : Ext w w') : PSto O w' p s := h.keep (fun b hb => hx.block b (h.lt b hb)) hx.size

/-- A page more: its bytes in a new block, its slot. -/
theorem PStoT.add {w2 w' : World} {p g : Nat} {t : Slots} {M : List UInt8} {Z : Array Value} (h : PStoT w2 p g t) (i : Nat) (hi : i < t.length) (hw : w' = (((w2.alloc (.cells Z 73)).setRow w2.heap.size (M.map bv).toArray).setCell ⟨g, i, none⟩ (.pointer (some ⟨w2.heap.size, 0, none⟩))))
    (_hM : M.length = 64) : PStoT w' p g (t.set i (some (w2.heap.size, M))) ∧ OnlyP g w2 w' := by
  obtain ⟨W, hW⟩ : ∃ W, W = (w2.alloc (.cells Z 73)).setRow w2.heap.size (M.map bv).toArray := ⟨_, rfl⟩
  rw [← hW] at hw
  have hWb : ∀ k, k < w2.heap.size → W.heap[k]? = w2.heap[k]? := fun k hk => by
    rw [hW, setRow_other _ _ _ _ (by omega), Below.heap_alloc w2 _ k hk]
  have hWn : W.heap[w2.heap.size]? = some (.cells (M.map bv).toArray 73 (0, 0)) := by
    rw [hW]; exact setRow_heap _ _ _ _ _ _ (heap_alloc_new _ _)
  have hWs : W.heap.size = w2.heap.size + 1 := by rw [hW]; simp
  have hg := h.glt
  have hp : p < w2.heap.size := lt_of_cell h.top
  have hne := h.ne
  have h' : ∀ k, k ≠ g → w'.heap[k]? = W.heap[k]? := fun k hk => by rw [hw]; exact Below.heap_setCell _ _ _ _ hk
  have hs' : w'.heap.size = w2.heap.size + 1 := by rw [hw]; simp [World.setCell, hWs]
  have hn' : w'.heap[w2.heap.size]? = some (.cells (M.map bv).toArray 73 (0, 0)) := by rw [h' _ (by omega)]; exact hWn
  refine ⟨h.change i (some (w2.heap.size, M)) (by omega) ((h' p hne).trans (hWb p hp)) (fun _ => ?_) (fun j hj => ?_) (fun j => ?_) (fun j b l hj ht => ?_) (fun b l he => ?_), ⟨?_, ?_, ?_, by omega, fun k hk hx => ?_⟩⟩
  · rw [hw]
    have hc := h.slot i _ (List.getElem?_eq_getElem hi)
    rw [← cell_of_same (hWb g hg)] at hc
    exact World.cell?_setCell_same _ _ _ hc
  · rw [hw, cell_set_other (.inr hj)]
    exact cell_of_same (hWb g hg)
  · rw [hw]
    have := h.free j
    rw [← frozen_of_same (hWb g hg)] at this
    simpa [go_sem] using this
  · have ha := h.apart j b l ht
    exact (h' b ha.2.1).trans (hWb b ha.2.2)
  · simp only [Option.some.injEq, Prod.mk.injEq] at he
    obtain ⟨rfl, rfl⟩ := he
    refine ⟨fun j u hu => ?_, fun j hj => ?_, by omega, by omega, by omega, fun j l' _ hh => ?_⟩
    · rw [Nat.zero_add, cell_of_row _ _ _ _ _ _ hn']
      simpa using hu
    · unfold World.frozen?
      rw [hn']
      simp
    · have := (h.apart j _ l' hh).2.2
      omega
  · rw [hw, hW]; rfl
  · rw [hw, hW]; rfl
  · rw [hw, hW]; rfl
  · rw [h' k (by simpa using hx)]
    exact hWb k hk

set_option maxRecDepth 100000 in
set_option maxHeartbeats 1000000 in
theorem pAlloc_any (n : Int) (h : PSto O w p s) (hok : okS s) (hn : -9223372036854775808 ≤ n ∧ n ≤ 9223372036854775807) :
    Calls Try.prog 23 #[.pointer (some ⟨p, 0, none⟩), .int .i64 n] w fun e w' => ∃ v, e = .returned (.tuple #[v, .int .i64 (allocS s n).1.2]) ∧ w'.ownsRow w.heap.size 3 1 v (allocS s n).1.1.length ((allocS s n).1.1.map iv) ∧ PStep O w p (allocS s n).2 w' v := by
  obtain ⟨hn0, hn1⟩ := hn
  have HP := Lib.hid h
  by_cases hneg : n < 0
  · rw [allocS_neg hneg]
    have hd : decide (n < 0) = true := decide_eq_true hneg
    clear h hok
    go_enter Try.func23, Try.ntmps23
    go_wp2_with fail
    go_ret2
    exact ⟨_, rfl, World.ownsRow_nil _ _ _ _, pstep_same HP.out (Below.refl _ _) (fun k hk => by cases hk)⟩
  · have hd : decide (n < 0) = false := decide_eq_false hneg
    have hus : usedS s ≤ s.length := List.countP_le_length
    have hfew := hok.1
    have HMO := Lib.hid (pMost_any (w := w) h)
    have HUS := Lib.hid (fun W (hx : Ext w W) => pUsed_any (w := W) (h.mono hx))
    by_cases hf : (s.length : Int) - usedS s < n
    · rw [allocS_full hneg hf]
      have hd2 : decide ((s.length : Int) - usedS s < n) = true := decide_eq_true hf
      clear h hok hf
      generalize usedS s = U at HUS hus hd2
      generalize s.length = L at HMO hus hd2 hfew
      go_enter Try.func23, Try.ntmps23
      go_wp2_with fail
      refine HMO.out.mono ?_
      rintro e w1 ⟨rfl, hx1⟩
      have HX1 := Lib.hid hx1
      clear hx1
      go_wp2_with fail
      refine (HUS.out w1 HX1.out).mono ?_
      rintro e w2 ⟨rfl, hx2⟩
      have HX2 := Lib.hid (Ext.trans HX1.out hx2)
      clear hx2
      go_wp2_with fail
      go_ret2
      exact ⟨_, rfl, World.ownsRow_nil _ _ _ _, pstep_same HP.out HX2.out (fun k hk => by cases hk)⟩
    · obtain ⟨N, rfl⟩ := Int.eq_ofNat_of_zero_le (show 0 ≤ n by omega)
      rw [allocS_fits _ hneg hf]
      simp only [Int.toNat_natCast]
      have hd2 : decide ((s.length : Int) - usedS s < N) = false := decide_eq_false hf
      have hNl : N ≤ 4096 := by omega
      obtain ⟨g, t, rfl, ht, rfl⟩ := h
      have HT := Lib.hid ht
      have HFF := Lib.hid (fun W (hx : Ext w W) => pFirstFree_any p g t N W (ht.mono hx) hNl)
      have hTl := takeS_lt N 0 (bytesT t)
      rw [bytesT_length, Nat.zero_add] at hTl
      have hAll := takeS_all N (bytesT t)
      obtain ⟨T, hT⟩ : ∃ T, (takeS 0 N (bytesT t)).1 = T := ⟨_, rfl⟩
      rw [hT] at HFF hTl hAll ⊢
      have HTL := Lib.hid hTl
      rw [hAll]
      have hTn : T.length ≤ 4096 := by
        rw [← hT]
        have := takeS_count N 0 (bytesT t) (by omega)
        omega
      obtain ⟨Z, hZ, hZ1⟩ := run_zeroN Try.zero64
      have HZ1 := Lib.hid hZ1
      clear hok hf ht hT hTl hAll hZ1 hNl
      have hL4 : (bytesT t).length ≤ 4096 := hfew
      generalize usedS (bytesT t) = U at HUS hus hd2
      generalize hL : (bytesT t).length = L at HMO hus hd2 hfew hL4
      replace hL := Lib.hid hL
      obtain ⟨m, hm⟩ : ∃ m, m = T.length := ⟨_, rfl⟩
      rw [← hm] at HFF hTn ⊢
      have HM := Lib.hid hm
      clear hm
      go_enter Try.func23, Try.ntmps23
      go_wp2_with fail
      refine HMO.out.mono ?_
      rintro e w1 ⟨rfl, hx1⟩
      have HX1 := Lib.hid hx1
      clear hx1
      go_wp2_with fail
      refine (HUS.out w1 HX1.out).mono ?_
      rintro e w2 ⟨rfl, hx2⟩
      have HX2 := Lib.hid (Ext.trans HX1.out hx2)
      clear hx2
      go_wp2_with fail
      refine (HFF.out w2 HX2.out).mono ?_
      rintro e w3 ⟨v, rfl, hown, hx3⟩
      have HX3 := Lib.hid (Ext.trans HX2.out hx3)
      have hsz2 := HX2.out.size
      obtain ⟨a, cap, rfl, hc1, hc2⟩ := own_shape hown
      unfold maxLen at hc2
      have HO := Lib.hid (owns_base hown hsz2)
      clear hx3 hown hsz2
      have hgw : g < w.heap.size := HT.out.glt
      go_wp2_with fail
      go_loopw [26] (fun i wr => ∃ (k : Nat) (tk : Slots), k ≤ m ∧ i = .int .i64 k ∧ PStoT wr p g tk ∧ bytesT tk = setsS (T.take k) (bytesT t) ∧ OnlyP g w3 wr ∧ (∀ b, ownT p g tk b → ownT p g t b ∨ w3.heap.size ≤ b)) (fun i _ => m - (intOf i).toNat)
      case atStart => exact ⟨0, t, Nat.zero_le _, rfl, HT.out.mono HX3.out, rfl, OnlyP.refl _ _, fun b hb => .inl hb⟩
      case round =>
        obtain ⟨k, tk, hkm, rfl, htk, hbt, hon, hnew⟩ := hrel
        have HTK := Lib.hid htk
        have HBT := Lib.hid hbt
        have HON := Lib.hid hon
        have HNEW := Lib.hid hnew
        clear htk hbt hon hnew
        by_cases hk : k < m
        · have hkT : k < T.length := by have := HM.out; omega
          obtain ⟨g', cap', he, -⟩ := owns_shape HO.out (by omega)
          simp only [Value.slice.injEq] at he
          obtain ⟨rfl, -, -⟩ := he
          have hor := own_only HO.out HON.out hgw
          have hc := hor.cellAt k (by omega)
          rw [List.getElem?_map, List.getElem?_eq_getElem hkT, Option.map_some] at hc
          unfold iv at hc
          have HID := Lib.hid (HTL.out T[k] (List.getElem_mem hkT))
          have HSTEP := Lib.hid (setsS_step T (bytesT t) k hkT)
          have hLt : (bytesT t).length = t.length := bytesT_length t
          generalize T[k] = id at hc HID HSTEP
          have hid4 : id ≤ 4096 := by have := HID.out.2; have := hL.out; omega
          have HLT := Lib.hid hLt
          clear hor hLt
          go_wp2_with fail
          refine (pStored_any id (.slice none 0 0) [] wr (Rd.nil wr) (by simp) hid4).mono ?_
          rintro e w4 ⟨rfl, hx4⟩
          have hM64 := layP_length id [] (by simp)
          obtain ⟨M, hM⟩ : ∃ M, M = layP id [] := ⟨_, rfl⟩
          rw [← hM] at hM64 HSTEP ⊢
          unfold arrP
          have HT4 := Lib.hid (HTK.out.mono hx4)
          have HON4 := Lib.hid (OnlyP.trans HON.out (OnlyP.of_ext (g := g) hx4))
          have hlen : tk.length = t.length := by
            have h := congrArg List.length HBT.out
            rw [bytesT_length, setsS_length, HLT.out] at h
            exact h
          have hidl : id < tk.length := by have := HID.out.2; omega
          have HI := Lib.hid (show (Try.prog.info? 73).map (·.size) = some (M.map bv).toArray.size from by rw [List.size_toArray, List.length_map, hM64]; kernel_rfl)
          have HZL := Lib.hid (show (Z.map bv).toArray.size = (M.map bv).toArray.size from by rw [HZ1.out]; simp [zeros, hM64])
          have HADD := Lib.hid (HT4.out.add (Z := (Z.map bv).toArray) id hidl rfl hM64)
          have HW1 := Lib.hid (show ((w4.alloc (.cells (Z.map bv).toArray 73)).setRow w4.heap.size (M.map bv).toArray).cell? ⟨p, 0, none⟩ = some (.slice (some ⟨g, 0, none⟩) tk.length tk.length) ∧ ((w4.alloc (.cells (Z.map bv).toArray 73)).setRow w4.heap.size (M.map bv).toArray).cell? ⟨g, id, none⟩ = some (ptrV tk[id]) ∧ ((w4.alloc (.cells (Z.map bv).toArray 73)).setRow w4.heap.size (M.map bv).toArray).frozen? ⟨g, id, none⟩ = false from by
            have hb : ∀ k, k < w4.heap.size → ((w4.alloc (.cells (Z.map bv).toArray 73)).setRow w4.heap.size (M.map bv).toArray).heap[k]? = w4.heap[k]? := fun k hk => by
              rw [setRow_other _ _ _ _ (by omega), Below.heap_alloc w4 _ k hk]
            exact ⟨by rw [cell_of_same (hb p (lt_of_cell HT4.out.top))]; exact HT4.out.top, by rw [cell_of_same (hb g HT4.out.glt)]; exact HT4.out.slot id _ (List.getElem?_eq_getElem hidl), by rw [frozen_of_same (hb g HT4.out.glt)]; exact HT4.out.free id⟩)
          have hlen4 : tk.length ≤ 4096 := HT4.out.few
          have HSZ4 := Lib.hid (show w3.heap.size ≤ w4.heap.size from HON4.out.size)
          generalize ptrV tk[id] = PV at HW1
          generalize hTKL : tk.length = TL at HW1 hidl hlen4
          clear hM hx4 hM64 hlen hTKL
          go_wp2_with (refine wpList_store_row rfl 73 (.tmp 9) (.tmp 31) rfl w4.heap.size (M.map bv).toArray rfl rfl 73 (Z.map bv).toArray (heap_alloc_new _ _) HI.out HZL.out (all_oneCell_toArray (bv_oneCell M)) ?_; generalize (w4.alloc (.cells (Z.map bv).toArray 73)).setRow w4.heap.size (M.map bv).toArray = W at HW1 HADD ⊢; obtain ⟨c0, c1, f1⟩ := HW1.out)
          go_roundw
          case rel =>
            refine ⟨k + 1, _, by omega, by go_num, HADD.out.1, ?_, OnlyP.trans HON4.out HADD.out.2, fun b hb => ?_⟩
            · rw [bytesT_set, HBT.out, HSTEP.out]
              rfl
            · rcases hb with h | h | ⟨l', h⟩
              · exact .inl (.inl h)
              · exact .inl (.inr (.inl h))
              · rcases List.mem_or_eq_of_mem_set h with h1 | h1
                · exact HNEW.out b (.inr (.inr ⟨l', h1⟩))
                · simp only [Option.some.injEq, Prod.mk.injEq] at h1
                  rw [h1.1]
                  exact .inr HSZ4.out
          case measure => simp [intOf]; omega
        · have hkm2 : k = m := by omega
          subst hkm2
          have HF := Lib.hid (show bytesT tk = setsS T (bytesT t) from by rw [HBT.out, List.take_of_length_le (by have := HM.out; omega)])
          have HOF := Lib.hid (own_only HO.out HON.out hgw)
          go_wp2_with fail
          go_ret2
          refine ⟨_, rfl, HOF.out, ownT p g tk, ⟨g, tk, HF.out.symm, HTK.out, rfl⟩, ?_, fun b hb => ?_, fun k hk hO => ?_⟩
          · exact OnlyS.trans (OnlyS.of_ext HX3.out) (OnlyS.of_onlyP HON.out (.inr (.inl rfl))) (fun i _ h => h)
          · rcases HNEW.out b hb with h | h
            · exact .inl h
            · exact .inr (Nat.le_trans HX3.out.size h)
          · have h1 := HO.out.lt k hk
            rcases HNEW.out k hO with h | h
            · have := HT.out.lt k h
              omega
            · omega

end Go.Proofs.Ythelgjoobckbaaa
