/-
  The contract of the program's own stored: the bytes of a page as an array.
-/
import Derived.Test.YthelgjoobckbaaaPagesBoth
import Derived.Test.YthelgjoobckbaaaCrcSeal
import Derived.Laws.CopyOwn
import Derived.Deep.MidRow
namespace Go.Proofs.Ythelgjoobckbaaa
open Go.RowKit Go.BigFrame

theorem Try.zero64 : (Try.prog.info? 73).map (fun i => (i.zero, i.size)) = some (some (.agg (Array.replicate 64 (.int .u8 0))), 64) := by kernel_rfl
theorem Try.zero60 : (Try.prog.info? 81).map (fun i => (i.zero, i.size)) = some (some (.agg (Array.replicate 60 (.int .u8 0))), 60) := by kernel_rfl
theorem run_zeroN {P : Program} {t : TypeId} {n : Nat} (h : (P.info? t).map (fun i => (i.zero, i.size)) = some (some (.agg (Array.replicate n (.int .u8 0))), n)) :
    ∃ Z : List UInt8, (∀ w : World, (zeroValue t).run P w = .ok (.agg ((Z.map bv).toArray)) w) ∧ Z = zeros n := by
  refine ⟨zeros n, fun w => ?_, rfl⟩
  cases hi : P.info? t with
  | none => rw [hi] at h; cases h
  | some i =>
    rw [hi] at h
    simp only [Option.map_some, Option.some.injEq, Prod.mk.injEq] at h
    have e : ((zeros n).map bv).toArray = Array.replicate n (.int .u8 0) := by simp [zeros, bv]
    rw [e]
    simp [zeroValue, typeInfo, hi, h.1]

/-- A page as an array. -/
def arrP (l : List UInt8) : Value := .agg (l.map bv).toArray

theorem page_splices (Y l d : List UInt8) (hY : Y = zeros 60) (hl : l.length ≤ 56) (hd : d.length = 4) : splice (splice (Y.map bv) 0 (l.map bv)) 56 (d.map bv) = (fill l ++ d).map bv := by
  have h1 : splice (Y.map bv) 0 (l.map bv) = (l ++ zeros (60 - l.length)).map bv := by
    unfold splice
    rw [hY, List.take_zero, List.nil_append, List.length_map, Nat.zero_add, ← List.map_drop, ← List.map_append]
    unfold zeros
    rw [List.drop_replicate]
  rw [h1]
  unfold splice fill
  rw [← List.map_take, ← List.map_drop, ← List.map_append, ← List.map_append]
  congr 1
  rw [List.length_map, hd, List.take_append, List.take_of_length_le hl, List.drop_of_length_le (by simp [zeros]; omega)]
  unfold zeros
  rw [List.take_replicate, Nat.min_eq_left (by omega), List.append_nil]

set_option maxRecDepth 100000 in
set_option maxHeartbeats 1000000 in
theorem pStored_any (id : Nat) (b : Value) (l : List UInt8) (w : World) (hr : Rd w b l) (hl : l.length ≤ 56) (hid : id ≤ 4096) :
    Calls Try.prog 37 #[.int .i64 id, b] w fun e w' => e = .returned (arrP (layP id l)) ∧ Ext w w' := by
  obtain ⟨Z, hZ, hZ1⟩ := run_zeroN Try.zero64
  obtain ⟨Y, hY, hY1⟩ := run_zeroN Try.zero60
  obtain ⟨a, cap, rfl, hs1, hs2⟩ := hr.shape
  have HZ1 := Lib.hid hZ1
  have HY1 := Lib.hid hY1
  have HR := Lib.hid hr
  have HID := Lib.hid (id4_values id hid)
  have hsz : (Try.prog.info? 5).map (·.size) = some 1 := by kernel_rfl
  clear hZ1 hY1 hr
  unfold maxLen at hs2
  obtain ⟨W1, hW1⟩ : ∃ W1, W1 = ((w.alloc (Obj.cells (Z.map bv).toArray 73)).alloc (Obj.cells (Y.map bv).toArray 81)) := ⟨_, rfl⟩
  have HG1 := Lib.hid (show W1.heap[w.heap.size + 1]? = some (.cells (Y.map bv).toArray 81 (0, 0)) from by rw [hW1]; exact heap_alloc2_new _ _ _)
  have HB1 := Lib.hid (show Below (w.heap.size + 1) (w.alloc (Obj.cells (Z.map bv).toArray 73)) W1 from by rw [hW1]; exact (Below.refl _ _).alloc (by simp) _)
  have HR1 := Lib.hid (show Rd W1 (.slice a l.length cap) l from by rw [hW1]; exact HR.out.mono (((Below.refl _ w).alloc (Nat.le_refl _) _).alloc (by simp) _))
  have HWE := Lib.hid hW1
  clear hW1
  obtain ⟨X, hX⟩ : ∃ X, X = l.map bv := ⟨_, rfl⟩
  have hXl : X.length = l.length := by rw [hX, List.length_map]
  have HX := Lib.hid hX
  obtain ⟨V, hV⟩ : ∃ V, V = Y.map bv := ⟨_, rfl⟩
  have hVl : V.length = 60 := by rw [hV, List.length_map, HY1.out]; simp [zeros]
  have HV := Lib.hid hV
  have HXV := Lib.hid (show X.length = l.length ∧ V.length = 60 from ⟨hXl, hVl⟩)
  rw [← hV] at HG1
  clear hX hV hXl hVl
  have HX1 := Lib.hid (show ∀ v ∈ X, v.oneCell' = true from by rw [HX.out]; exact bv_oneCell l)
  have HP1 := Lib.hid (show 0 < X.length → ∃ ad, a = some ad ∧ ∀ (j : Nat) (v : Value), X[j]? = some v → W1.cell? (ad.add j) = some v from fun h0 => by
    rcases HR1.out with ⟨h1, h2⟩ | ⟨x, cap', h1, _, _, h4⟩
    · rw [HX.out, h2] at h0; simp at h0
    · simp only [Value.slice.injEq] at h1
      exact ⟨x, h1.1, by rw [HX.out]; exact h4⟩)
  obtain ⟨D, hD⟩ : ∃ D, D = [Value.int .u8 ((id : Int) / 16777216), .int .u8 ((id : Int) / 65536), .int .u8 ((id : Int) / 256), .int .u8 ((id : Int) % 256)] := ⟨_, rfl⟩
  have HD := Lib.hid hD
  clear hD
  go_enter Try.func37, Try.ntmps37
  go_wp2_with (first
    | (refine wpList_copy_splice rfl (.tmp 6) (.tmp 7) 33 33 rfl 5 Try.underlying33 hsz (some ⟨w.heap.size + 1, 0, none⟩) a 56 60 l.length cap rfl rfl (w.heap.size + 1) 0 V 81 (by rw [← HWE.out]; exact HG1.out) X (by have := HXV.out.1; show X.length = min l.length 56; omega) (fun h0 => ⟨rfl, by rw [← HWE.out]; exact HP1.out h0⟩) (by rw [HXV.out.1, HXV.out.2]; omega) HX1.out (w.heap.size + 1) (w.alloc (Obj.cells (Z.map bv).toArray 73)) (by rw [← HWE.out]; exact HB1.out) (Nat.le_refl _) ?_
       intro w2 HG2 hb2
       have HB2 := Lib.hid hb2
       have hlt2 : w.heap.size + 1 < w2.heap.size := (Array.getElem?_eq_some_iff.1 HG2.out).1
       have HC3 := Lib.hid (show (w2.alloc (Obj.cells #[Value.int .u8 ((id : Int) / 16777216), .int .u8 ((id : Int) / 65536), .int .u8 ((id : Int) / 256), .int .u8 ((id : Int) % 256)] 5)).heap[w.heap.size + 1]? = some (.cells (splice V 0 X).toArray 81 (0, 0)) from by rw [Below.heap_alloc w2 _ _ hlt2]; exact HG2.out)
       have HB3 := Lib.hid (show Below (w.heap.size + 1) (w.alloc (Obj.cells (Z.map bv).toArray 73)) (w2.alloc (Obj.cells #[Value.int .u8 ((id : Int) / 16777216), .int .u8 ((id : Int) / 65536), .int .u8 ((id : Int) / 256), .int .u8 ((id : Int) % 256)] 5)) from HB2.out.alloc (by omega) _)
       have HN3 := Lib.hid (row_new w2 [Value.int .u8 ((id : Int) / 16777216), .int .u8 ((id : Int) / 65536), .int .u8 ((id : Int) / 256), .int .u8 ((id : Int) % 256)] 5)
       have HLS := Lib.hid (show (splice V 0 X).length = 60 from by rw [length_splice _ _ _ (by rw [HXV.out.1, HXV.out.2]; omega), HXV.out.2])
       clear hb2 hlt2)
    | (refine wpList_copy_splice rfl (.tmp 9) (.tmp 21) 33 33 rfl 5 Try.underlying33 hsz (some ⟨w.heap.size + 1, 56, none⟩) (some ⟨w2.heap.size, 0, none⟩) 4 4 4 4 rfl rfl (w.heap.size + 1) 56 (splice V 0 X) 81 HC3.out [Value.int .u8 ((id : Int) / 16777216), .int .u8 ((id : Int) / 65536), .int .u8 ((id : Int) / 256), .int .u8 ((id : Int) % 256)] rfl (fun _ => ⟨rfl, _, rfl, HN3.out⟩) (by rw [HLS.out]; exact Nat.le_refl _) (by simp [Value.oneCell']) (w.heap.size + 1) (w.alloc (Obj.cells (Z.map bv).toArray 73)) HB3.out (Nat.le_refl _) ?_
       intro w3 HG3 hb3
       have HB4 := Lib.hid hb3
       clear hb3))
  have HSP := Lib.hid (show splice (splice V 0 X) 56 [Value.int .u8 ((id : Int) / 16777216), .int .u8 ((id : Int) / 65536), .int .u8 ((id : Int) / 256), .int .u8 ((id : Int) % 256)] = (fill l ++ id4 id).map bv from by
    rw [HX.out, HV.out, ← HID.out]
    exact page_splices Y l (id4 id) HY1.out hl rfl)
  have HL60 := Lib.hid (show (fill l ++ id4 id).length = 60 from by rw [List.length_append, fill_length l hl]; rfl)
  have HR3 := Lib.hid (show Rd w3 (.slice (some ⟨w.heap.size + 1, 0, none⟩) 60 60) (fill l ++ id4 id) from by
    refine .inr ⟨⟨w.heap.size + 1, 0, none⟩, 60, by rw [List.length_map, HL60.out], by rw [List.length_map, HL60.out]; exact Nat.le_refl _, by simp [maxLen], fun i u hu => ?_⟩
    rw [add_at, Nat.zero_add, cell_of_row _ _ _ _ _ _ HG3.out, HSP.out]
    simpa using hu)
  refine (Seal_any _ (fill l ++ id4 id) w3 HR3.out (by rw [HL60.out]; omega)).mono ?_
  rintro e w4 ⟨v4, rfl, hown, hb4⟩
  have hL4 := layP_length id l hl
  change w4.ownsRow w3.heap.size 5 1 v4 ((layP id l).map bv).length ((layP id l).map bv) at hown
  generalize hM : layP id l = M at hown hL4 ⊢
  rw [List.length_map, hL4] at hown
  obtain ⟨g, cap4, rfl, hg1, hg2, hg3, hg4⟩ := owns_shape hown (by omega)
  unfold maxLen at hg4
  have HC4 := Lib.hid (show w4.rangeAt g 0 (M.map bv) from fun j u hj => by
    have := hown.cells (g := g) rfl j u hj
    rw [add_at] at this
    exact this)
  have hlt3 : w.heap.size + 1 < w3.heap.size := (Array.getElem?_eq_some_iff.1 HG3.out).1
  have HZ4 := Lib.hid (show w4.heap[w.heap.size]? = some (.cells (Z.map bv).toArray 73 (0, 0)) from by
    rw [hb4.block _ (by omega), HB4.out.block _ (by omega)]
    exact heap_alloc_new _ _)
  have HI := Lib.hid (show (Try.prog.info? 73).map (·.size) = some (M.map bv).length from by rw [List.length_map, hL4]; kernel_rfl)
  have HZL := Lib.hid (show (Z.map bv).toArray.size = (M.map bv).toArray.size from by rw [HZ1.out]; simp [zeros, hL4])
  have HB5 := Lib.hid (show Ext w w4 from (((Below.refl _ w).alloc (Nat.le_refl _) _).trans (HB4.out.mono (by omega))).trans (hb4.mono (by omega)))
  have harr : ∀ W : World, (Instr.arrayAt 73 (.slice (some ⟨g, 0, none⟩) 64 cap4)).run Try.prog W = .ok (.pointer (some ⟨g, 0, none⟩)) W := fun W => by
    unfold Instr.arrayAt
    simp [run_underlying Try.underlying73]
  have HM := Lib.hid hM
  clear hown hg1 hb4 hM hlt3 hL4
  go_wp2_with (first
    | (refine wpList_load_mid rfl 73 (.tmp 25) rfl g 0 rfl (M.map bv) _ HC4.out Try.underlying73 rfl HI.out ?_)
    | (refine wpList_store_row rfl 73 (.tmp 4) (.tmp 26) rfl w.heap.size (M.map bv).toArray rfl rfl 73 (Z.map bv).toArray HZ4.out (by rw [HI.out]; simp) HZL.out (all_oneCell_toArray (bv_oneCell M)) ?_))
  refine bodyPost_ret (v := arrP M) ?_ rfl ⟨by rw [HM.out], ?_⟩
  · exact results_cell_row (P := Try.prog) (fn := Try.f37) rfl _ _ w.heap.size 73 (M.map bv).toArray (0, 0) _ rfl (setRow_heap _ _ _ _ _ _ HZ4.out) Try.underlying73 rfl (by rw [HI.out]; simp)
  · exact Below.trans (show Below w.heap.size w w4 from HB5.out) (below_setRow (Below.refl _ _) (Nat.le_refl _) _)

end Go.Proofs.Ythelgjoobckbaaa
