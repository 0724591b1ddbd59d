/-
  The walk of the law PagesNil: the program's calls at a nil store.
-/
import Derived.Test.YthelgjoobckbaaaPagesShown
namespace Go.Proofs.Ythelgjoobckbaaa
open Go.RowKit Go.BigFrame

theorem nAlloc (n : Int) (w : World) (hn : -9223372036854775808 ≤ n ∧ n ≤ 9223372036854775807) : Calls Try.prog 23 #[.pointer none, .int .i64 n] w fun e w' => e = .returned (.tuple #[.slice none 0 0, .int .i64 2]) ∧ w = w' := by
  obtain ⟨h0, h1⟩ := hn
  go_enter Try.func23, Try.ntmps23
  go_wp2_with fail
  go_ret2
  exact ⟨rfl, rfl⟩
theorem nAllocated (n : Int) (w : World) (hn : -9223372036854775808 ≤ n ∧ n ≤ 9223372036854775807) : Calls Try.prog 36 #[.pointer none, .int .i64 n] w fun e w' => e = .returned (.pointer none) ∧ w = w' := by
  obtain ⟨h0, h1⟩ := hn
  go_enter Try.func36, Try.ntmps36
  go_wp2_with fail
  go_ret
  exact ⟨rfl, rfl⟩
theorem nRead (n : Int) (w : World) (hn : -9223372036854775808 ≤ n ∧ n ≤ 9223372036854775807) : Calls Try.prog 16 #[.pointer none, .int .i64 n] w fun e w' => e = .returned (.tuple #[.slice none 0 0, .int .i64 2]) ∧ w = w' := by
  have H := Lib.hid (nAllocated n w hn)
  obtain ⟨h0, h1⟩ := hn
  go_enter Try.func16, Try.ntmps16
  go_wp2_with fail
  refine H.out.mono ?_
  rintro e w2 ⟨rfl, rfl⟩
  go_wp2_with fail
  go_ret2
  exact ⟨rfl, rfl⟩
theorem nRaw (n : Int) (w : World) (hn : -9223372036854775808 ≤ n ∧ n ≤ 9223372036854775807) : Calls Try.prog 18 #[.pointer none, .int .i64 n] w fun e w' => e = .returned (.tuple #[.slice none 0 0, .int .i64 2]) ∧ w = w' := by
  have H := Lib.hid (nAllocated n w hn)
  obtain ⟨h0, h1⟩ := hn
  go_enter Try.func18, Try.ntmps18
  go_wp2_with fail
  refine H.out.mono ?_
  rintro e w2 ⟨rfl, rfl⟩
  go_wp2_with fail
  go_ret2
  exact ⟨rfl, rfl⟩
theorem nFree (n : Int) (w : World) (hn : -9223372036854775808 ≤ n ∧ n ≤ 9223372036854775807) : Calls Try.prog 24 #[.pointer none, .int .i64 n] w fun e w' => e = .returned (.int .i64 2) ∧ w = w' := by
  have H := Lib.hid (nAllocated n w hn)
  obtain ⟨h0, h1⟩ := hn
  go_enter Try.func24, Try.ntmps24
  go_wp2_with fail
  refine H.out.mono ?_
  rintro e w2 ⟨rfl, rfl⟩
  go_wp2_with fail
  go_ret
  exact ⟨rfl, rfl⟩
theorem nWrite (n : Int) (v : Value) (w : World) (hn : -9223372036854775808 ≤ n ∧ n ≤ 9223372036854775807) : Calls Try.prog 26 #[.pointer none, .int .i64 n, v] w fun e w' => e = .returned (.int .i64 2) ∧ w = w' := by
  have H := Lib.hid (nAllocated n w hn)
  obtain ⟨h0, h1⟩ := hn
  go_enter Try.func26, Try.ntmps26
  go_wp2_with fail
  refine H.out.mono ?_
  rintro e w2 ⟨rfl, rfl⟩
  go_wp2_with fail
  go_ret
  exact ⟨rfl, rfl⟩
theorem nFlip (n k m : Int) (w : World) (hn : -9223372036854775808 ≤ n ∧ n ≤ 9223372036854775807) : Calls Try.prog 22 #[.pointer none, .int .i64 n, .int .i64 k, .int .u8 m] w fun e w' => e = .returned (.tuple #[]) ∧ w = w' := by
  have H := Lib.hid (nAllocated n w hn)
  obtain ⟨h0, h1⟩ := hn
  go_enter Try.func22, Try.ntmps22
  go_wp2_with fail
  refine H.out.mono ?_
  rintro e w2 ⟨rfl, rfl⟩
  go_wp2_with fail
  refine bodyPost_ret (v := .tuple #[]) (results_none rfl _ _ _) rfl ?_
  exact ⟨rfl, rfl⟩
theorem nPut (v : Value) (l : List UInt8) (w : World) (hr : Rd w v l) : Calls Try.prog 20 #[.pointer none, v] w fun e w' => e = .returned (.tuple #[.slice none 0 0, .int .i64 2]) ∧ Ext w w' := by
  obtain ⟨ab, cb, rfl, hcb1, hcb2⟩ := hr.shape
  unfold maxLen at hcb2
  have hnb : 0 ≤ needS (l.length : Int) ∧ needS (l.length : Int) ≤ 9223372036854775807 := by unfold needS; split <;> omega
  have HND := Lib.hid (pNeed_any (w := w) (l.length : Int) (by omega))
  have HAL := Lib.hid (fun W => nAlloc (needS l.length) W (by omega))
  generalize needS (l.length : Int) = ND at HAL HND hnb
  generalize l.length = N at HND hcb1
  clear hr
  go_enter Try.func20, Try.ntmps20
  go_wp2_with fail
  refine HND.out.mono ?_
  rintro e w1 ⟨rfl, hx1⟩
  have HX1 := Lib.hid hx1
  clear hx1
  go_wp2_with fail
  refine (HAL.out w1).mono ?_
  rintro e w2 ⟨rfl, rfl⟩
  go_wp2_with fail
  go_ret2
  exact ⟨rfl, HX1.out⟩
theorem nGet (u : Value) (n : Int) (w : World) : Calls Try.prog 21 #[.pointer none, u, .int .i64 n] w fun e w' => e = .returned (.tuple #[.slice none 0 0, .int .i64 2]) ∧ w = w' := by
  go_enter Try.func21, Try.ntmps21
  go_wp2_with fail
  go_ret2
  exact ⟨rfl, rfl⟩
theorem nUsed (w : World) : Calls Try.prog 14 #[.pointer none] w fun e w' => e = .returned (.int .i64 0) ∧ w = w' := by
  go_enter Try.func14, Try.ntmps14
  go_wp2_with fail
  go_ret
  exact ⟨rfl, rfl⟩
theorem nMost (w : World) : Calls Try.prog 11 #[.pointer none] w fun e w' => e = .returned (.int .i64 0) ∧ w = w' := by
  go_enter Try.func11, Try.ntmps11
  go_wp2_with fail
  go_ret
  exact ⟨rfl, rfl⟩
set_option maxRecDepth 100000 in
theorem nDrop (u : Value) (ids : List Int) (w : World) (hu : RdV w u (ids.map (Value.int .i64))) (hw : ∀ i ∈ ids, -9223372036854775808 ≤ i ∧ i ≤ 9223372036854775807) :
    Calls Try.prog 25 #[.pointer none, u] w fun e w' => e = .returned (.tuple #[]) ∧ w = w' := by
  obtain ⟨ai, capi, rfl, hc1, hc2, hca⟩ := RdV.cellsAt hu
  have HCA := Lib.hid hca
  have HW := Lib.hid hw
  rw [List.length_map] at hc1 ⊢
  unfold maxLen at hc2
  obtain ⟨N, hN⟩ : ∃ N, ids.length = N := ⟨_, rfl⟩
  have HN := Lib.hid hN
  rw [hN] at hc1 ⊢
  clear hu hw hca hN
  go_enter Try.func25, Try.ntmps25
  go_wp2_with fail
  go_loopw [8] (fun i wr => ∃ k : Nat, k ≤ N ∧ i = .int .i64 k ∧ w = wr) (fun i _ => N - (intOf i).toNat)
  case atStart => exact ⟨0, Nat.zero_le _, rfl, rfl⟩
  case round =>
    obtain ⟨k, hk, rfl, rfl⟩ := hrel
    by_cases hlt : k < N
    · have hki : k < ids.length := by have := HN.out; omega
      obtain ⟨x, rfl, hcx⟩ := HCA.out k (.int .i64 ids[k]) (by rw [List.getElem?_map, List.getElem?_eq_getElem hki]; rfl)
      have HF := Lib.hid (nFree ids[k] w (HW.out _ (List.getElem_mem hki)))
      generalize ids[k] = id at hcx HF
      clear hki
      go_wp2_with fail
      refine HF.out.mono ?_
      rintro e w3 ⟨rfl, rfl⟩
      go_wp2_with fail
      go_roundw
      case rel => exact ⟨k + 1, by omega, by go_num, trivial⟩
      case measure => simp [intOf]; omega
    · go_wp2_with fail
      go_end0
      exact ⟨rfl, rfl⟩

set_option maxRecDepth 100000 in
set_option maxHeartbeats 2000000 in
theorem pagesNil_walk (cs : List Value) (a : Act5) (n : Int) (w : World) (ha : ActAt w cs a) (hf : a.fits) (hn : -9223372036854775808 ≤ n ∧ n ≤ 9223372036854775807) :
    Calls Try.prog 7 #[.agg cs.toArray, .int .i64 n] w fun e w' => e = .returned (.bool true) ∧ Below w.heap.size w w' := by
  obtain ⟨vb, vl, rfl, hrb, hrl⟩ := ha
  obtain ⟨fk, fa, fn, fl⟩ := hf
  obtain ⟨ab, cb, rfl, -, -⟩ := hrb.shape
  obtain ⟨al, cl, rfl, -, -, -⟩ := RdV.cellsAt hrl
  rw [List.length_map] at hrl ⊢
  have HRB := Lib.hid hrb
  have HRL := Lib.hid hrl
  have HFL := Lib.hid fl
  have HFA := Lib.hid fa
  have HFN := Lib.hid fn
  have HND := Lib.hid (fun W => pNeed_any (w := W) n hn)
  have HNR := Lib.hid (fun W => refNeed_any n W hn.1 hn.2)
  clear hrb hrl fl fk fa fn
  generalize a.b.length = nb at HRB ⊢
  generalize a.l.length = nl at HRL ⊢
  generalize a.at' = A at HFA ⊢
  generalize a.n = AN at HFN ⊢
  generalize a.k = AK
  generalize (a.m.toNat : Int) = AM
  generalize a.b = bl at HRB
  generalize a.l = ll at HRL HFL
  generalize needS n = ND at HND HNR
  obtain ⟨hn0, hn1⟩ := hn
  obtain ⟨W0, hW0⟩ : ∃ W0, W0 = w.alloc (Obj.cells #[.int .u8 AK, .int .i64 A, .int .i64 AN, .slice ab nb cb, .slice al nl cl, .int .u8 AM] 36) := ⟨_, rfl⟩
  have HC := Lib.hid (show ∀ W, Ext W0 W → W.cell? ⟨w.heap.size, 1, none⟩ = some (.int .i64 A) ∧ W.cell? ⟨w.heap.size, 2, none⟩ = some (.int .i64 AN) ∧ W.cell? ⟨w.heap.size, 3, none⟩ = some (.slice ab nb cb) ∧ W.cell? ⟨w.heap.size, 4, none⟩ = some (.slice al nl cl) ∧ W.cell? ⟨w.heap.size, 5, none⟩ = some (.int .u8 AM) from fun W hx => by
    have hc : ∀ (i : Nat) u, #[Value.int .u8 AK, .int .i64 A, .int .i64 AN, .slice ab nb cb, .slice al nl cl, .int .u8 AM][i]? = some u → W.cell? ⟨w.heap.size, i, none⟩ = some u := fun i u hu => by
      have h0 : W0.cell? ⟨w.heap.size, i, none⟩ = some u := by
        rw [hW0]
        unfold World.cell?
        rw [heap_alloc_new]
        simpa using hu
      exact (hx.cell (lt_of_cell h0)).trans h0
    exact ⟨hc 1 _ rfl, hc 2 _ rfl, hc 3 _ rfl, hc 4 _ rfl, hc 5 _ rfl⟩)
  have HW0 := Lib.hid (show Ext w W0 from by rw [hW0]; exact ext_new w _)
  go_enter Try.func7, Try.ntmps7
  go_wp2_with fail
  rw [← hW0]
  clear hW0
  refine (shown5_any _).mono ?_
  rintro e w1 ⟨rfl, hx1⟩
  have HX1 := Lib.hid hx1
  obtain ⟨c1, c2, c3, c4, c5⟩ := HC.out w1 hx1
  clear hx1
  go_wp2_with fail
  refine (nAlloc AN w1 HFN.out).mono ?_
  rintro e w2 ⟨rfl, rfl⟩
  go_wp2_with fail
  refine (nRead A w1 HFA.out).mono ?_
  rintro e w2 ⟨rfl, rfl⟩
  go_wp2_with fail
  refine (nRaw A w1 HFA.out).mono ?_
  rintro e w2 ⟨rfl, rfl⟩
  go_wp2_with fail
  refine (nPut _ bl w1 (HRB.out.mono (Ext.trans HW0.out HX1.out))).mono ?_
  rintro e w2 ⟨rfl, hx2⟩
  have HX2 := Lib.hid (Ext.trans HX1.out hx2)
  clear c1 c2 c3 c4 c5 hx2
  obtain ⟨c1, c2, c3, c4, c5⟩ := HC.out w2 HX2.out
  go_wp2_with fail
  refine (nGet _ AN w2).mono ?_
  rintro e w3 ⟨rfl, rfl⟩
  go_wp2_with fail
  refine (nFlip A AN AM w2 HFA.out).mono ?_
  rintro e w3 ⟨rfl, rfl⟩
  go_wp2_with fail
  refine (nDrop _ ll w2 (HRL.out.mono (Ext.trans HW0.out HX2.out)) HFL.out).mono ?_
  rintro e w3 ⟨rfl, rfl⟩
  go_wp2_with fail
  refine (nFree A w2 HFA.out).mono ?_
  rintro e w3 ⟨rfl, rfl⟩
  go_wp2_with fail
  refine (nWrite A _ w2 HFA.out).mono ?_
  rintro e w3 ⟨rfl, rfl⟩
  go_wp2_with fail
  refine (nUsed w2).mono ?_
  rintro e w3 ⟨rfl, rfl⟩
  go_wp2_with fail
  refine (nMost w2).mono ?_
  rintro e w3 ⟨rfl, rfl⟩
  go_wp2_with fail
  refine (HND.out w2).mono ?_
  rintro e w3 ⟨rfl, hx3⟩
  have HX3 := Lib.hid (Ext.trans HW0.out (Ext.trans HX2.out hx3))
  clear hx3
  go_wp2_with fail
  refine (HNR.out w3).mono ?_
  rintro e w4 ⟨rfl, rfl⟩
  go_wp2_with fail
  go_ret
  exact ⟨by simp, HX3.out⟩

end Go.Proofs.Ythelgjoobckbaaa
