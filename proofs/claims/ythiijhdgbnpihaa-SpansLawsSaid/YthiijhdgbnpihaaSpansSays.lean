/-
  The program's spans: Of; and what all calls answer.
-/
import Derived.Laws.Rows
import Derived.Test.YthiijhdgbnpihaaSpansP9
namespace Go.Proofs.Ythiijhdgbnpihaa
open Go.RowKit Go.BigFrame

/-- A block that is an array of 4096 bools. -/
structure ArrF (w : World) (g : Nat) (f : Int → Bool) : Prop where
  row : ∃ cur : Array Value, w.heap[g]? = some (.cells cur 41 (0, 0)) ∧ cur.size = 4096 ∧ ∀ k : Nat, k < 4096 → cur[k]? = some (.bool (f k))
theorem ArrF.on {w : World} {g : Nat} {f : Int → Bool} (h : ArrF w g f) : OnF w g f := by
  obtain ⟨cur, h1, h2, h3⟩ := h.row
  exact ⟨fun k hk => by rw [cell_of_row _ _ _ _ _ _ h1]; exact h3 k hk, fun k => by simp [World.frozen?, h1], (Array.getElem?_eq_some_iff.1 h1).1⟩
theorem ArrF.put {w : World} {g : Nat} {f : Int → Bool} (h : ArrF w g f) (i : Nat) (b : Bool) : ArrF (w.setCell ⟨g, i, none⟩ (.bool b)) g (fun k => if k = i then b else f k) := by
  obtain ⟨cur, h1, h2, h3⟩ := h.row
  refine ⟨_, heap_setCell_same w g i cur 41 (.bool b) h1, by simpa using h2, fun k hk => ?_⟩
  by_cases e : k = i
  · subst e
    rw [if_pos rfl, Array.getElem?_setIfInBounds_self_of_lt (by omega)]
  · rw [if_neg (by omega), Array.getElem?_setIfInBounds_ne (by omega)]
    exact h3 k hk
theorem ArrF.congr {w : World} {g : Nat} {f f' : Int → Bool} (h : ArrF w g f) (he : ∀ k : Int, 0 ≤ k → k < 4096 → f k = f' k) : ArrF w g f' := by
  obtain ⟨cur, h1, h2, h3⟩ := h.row
  exact ⟨cur, h1, h2, fun k hk => by rw [← he k (by omega) (by omega)]; exact h3 k hk⟩

theorem Try.zero4096 : (Try.prog.info? 41).map (fun i => (i.zero, i.size)) = some (some (.agg (Array.replicate 4096 (.bool false))), 4096) := by kernel_rfl
theorem run_zero4096 : ∃ Z : Array Value, (∀ w : World, (zeroValue 41).run Try.prog w = .ok (.agg Z) w) ∧ Z.size = 4096 ∧ ∀ k, k < 4096 → Z[k]? = some (.bool false) := by
  refine ⟨Array.replicate 4096 (.bool false), fun w => ?_, by simp, fun k hk => by rw [Array.getElem?_replicate, if_pos hk]⟩
  have h := Try.zero4096
  cases hi : Try.prog.info? 41 with
  | none => rw [hi] at h; cases h
  | some i =>
    rw [hi] at h
    simp only [Option.map_some, Option.some.injEq, Prod.mk.injEq] at h
    simp [zeroValue, typeInfo, hi, h.1]

theorem index_on (cur : Array Value) (k : Nat) (b : Bool) (w : World) (hk : k < 4096) (hc : cur[k]? = some (.bool b)) :
    (Instr.index 41 (.agg cur) (.int .i64 k)).run Try.prog w = .ok (.bool b) w := by
  obtain ⟨i0, hi, hz0, hz1, hz2⟩ := info_parts Try.info_bool7
  have hlt : (0 : Int) ≤ (k : Int) ∧ (k : Int) < ((4096 : Nat) : Int) := by omega
  have hty : Try.prog.underlying 4 = some .bool := by kernel_rfl
  simp [Instr.index, run_underlying Try.underlying41, asIntOf, part, sizeOf, typeInfo, hi, hz1, go_sem, hc, hk]

set_option maxRecDepth 100000 in
set_option maxHeartbeats 1000000 in
theorem pOfSpR_any (u : Value) (xs : List Int) (w : World) (hu : RdV w u (xs.map (Value.int .i64))) :
    Calls Try.prog 10 #[u] w fun e w' => AnsSp w (ofS xs) e w' := by
  obtain ⟨Z, hZ, hZ1, hZ2⟩ := run_zero4096
  obtain ⟨ao, cap, rfl, h1, h2, hat⟩ := RdV.cellsAt hu
  rw [List.length_map] at h1 ⊢
  have HAT := Lib.hid hat
  obtain ⟨N, hN⟩ : ∃ N, xs.length = N := ⟨_, rfl⟩
  have HN := Lib.hid hN
  have HZ1 := Lib.hid hZ1
  have HZ2 := Lib.hid hZ2
  obtain ⟨G, hG⟩ : ∃ G, w.heap.size = G := ⟨_, rfl⟩
  have HG := Lib.hid hG
  unfold maxLen at h2
  rw [hN] at h1 ⊢
  clear hat hN hu hZ1 hZ2
  go_enter Try.func10, Try.ntmps10
  go_wp2_with fail
  have HON := Lib.hid (show ArrF (w.alloc (.cells Z 41)) G (fun _ => false) from ⟨Z, by rw [← HG.out]; exact heap_alloc_new _ _, HZ1.out, fun k hk => HZ2.out k hk⟩)
  have HX0 := Lib.hid (ext_new w (.cells Z 41))
  generalize w.alloc (.cells Z 41) = W at HON HX0
  clear hG hZ
  go_loopw [6, 12] (fun _ i wr => ∃ j : Nat, j ≤ N ∧ i = .int .i64 j ∧ okPlaces (xs.take j) = true ∧ ArrF wr G (fun k => (xs.take j).contains k) ∧ Below w.heap.size w wr) (fun _ i _ => N - (intOf i).toNat)
  case atStart => exact ⟨0, Nat.zero_le _, rfl, rfl, HON.out.congr (fun _ _ _ => rfl), HX0.out⟩
  case round =>
    obtain ⟨j, hj, rfl, hok, hon, hx⟩ := hrel
    have HOKP := Lib.hid hok
    have HO := Lib.hid hon
    have HX := Lib.hid hx
    clear hok hon hx
    by_cases hlt : j < N
    · have hjl : j < xs.length := by have := HN.out; omega
      obtain ⟨x, rfl, hcv⟩ := HAT.out j (.int .i64 xs[j]) (by rw [List.getElem?_map, List.getElem?_eq_getElem hjl]; rfl)
      have hcx := (HX.out.cell (lt_of_cell hcv)).trans hcv
      have HTK := Lib.hid (okPlaces_take hjl)
      have HBD := Lib.hid (okPlaces_bad hjl)
      have HST := Lib.hid (List.take_succ_eq_append_getElem hjl)
      generalize xs[j] = p at hcx HTK HBD HST
      clear hcv hjl
      by_cases hp0 : p < 0
      · have HANS := Lib.hid (show ofS xs = ([], 1) by unfold ofS; rw [HBD.out (by omega)]; rfl)
        have d1 : decide (p < 0) = true := decide_eq_true hp0
        go_wp2_with fail
        go_ret2
        exact ⟨_, by rw [HANS.out]; rfl, by rw [HANS.out]; exact .inl ⟨rfl, rfl⟩, HX.out⟩
      · have d1 : decide (p < 0) = false := decide_eq_false hp0
        by_cases hp1 : 4096 ≤ p
        · have HANS := Lib.hid (show ofS xs = ([], 1) by unfold ofS; rw [HBD.out (by omega)]; rfl)
          have d2 : decide (4096 ≤ p) = true := decide_eq_true hp1
          go_wp2_with fail
          go_ret2
          exact ⟨_, by rw [HANS.out]; rfl, by rw [HANS.out]; exact .inl ⟨rfl, rfl⟩, HX.out⟩
        · have d2 : decide (4096 ≤ p) = false := decide_eq_false hp1
          obtain ⟨P, rfl⟩ := Int.eq_ofNat_of_zero_le (show 0 ≤ p by omega)
          have hcg := HO.out.on.cell P (by omega)
          have hfg := HO.out.on.free P
          have hP4 : P < 4096 := by omega
          have HBX := Lib.hid (show Below w.heap.size w (wr.setCell ⟨G, P, none⟩ (.bool true)) from HX.out.trans ((OnlyS.of_onlyP (X := fun b => b = G) (OnlyP.set G P wr (.bool true)) rfl).below HX.out.size (fun b hb => by rw [hb, HG.out]; exact Nat.le_refl _)))
          generalize (xs.take j).contains (P : Int) = B0 at hcg
          go_wp2_with fail
          go_roundw
          case rel => exact ⟨j + 1, by omega, by go_num, by rw [HTK.out, HOKP.out, decide_eq_true (show (0 : Int) ≤ (P : Int) by omega), decide_eq_true (show (P : Int) < 4096 by omega)]; rfl, (HO.out.put P true).congr (fun k k0 k1 => by
            rw [HST.out, List.contains_append]
            by_cases e : k = P
            · subst e
              rw [if_pos rfl]
              simp
            · rw [if_neg e]
              simp [e]), HBX.out⟩
          case measure => simp [intOf]; omega
    · have HFULL := Lib.hid (show xs.take j = xs from List.take_of_length_le (by have := HN.out; omega))
      have HANS := Lib.hid (show ofS xs = (normS fun k => (xs.take j).contains k, 0) by
        have h := HOKP.out
        unfold ofS
        rw [HFULL.out] at h ⊢
        rw [if_pos h])
      generalize (fun k => (xs.take j).contains k) = f at HO HANS
      obtain ⟨cur, hcur, hsz, hcs⟩ := HO.out.row
      have HCUR := Lib.hid hcur
      have hinfo : (Try.prog.info? 41).map (·.size) = some cur.size := by rw [hsz]; kernel_rfl
      have HH := Lib.hid hinfo
      have HCS := Lib.hid hcs
      have HSZ := Lib.hid hsz
      clear hcur hinfo hcs hsz
      go_wp2_with (refine wpList_load_row rfl 41 (.tmp 4) rfl G rfl 41 cur (0, 0) _ HCUR.out Try.underlying41 rfl HH.out ?_)
      have HY := Lib.hid HX.out
      go_loopw [7, 8, 9, 26] (fun l _ _ i wk => ∃ k : Nat, k ≤ 4096 ∧ i = .int .i64 k ∧ wk.ownsRow w.heap.size 39 2 l (spansTo f k).length ((spansTo f k).flatMap Sp.cells) ∧ Below w.heap.size w wk) (fun _ _ _ i _ => 4096 - (intOf i).toNat)
      case atStart => exact ⟨0, Nat.zero_le _, rfl, ⟨rfl, .inl ⟨rfl, rfl⟩⟩, HY.out⟩
      case round =>
        obtain ⟨k, hk, rfl, hown, hx⟩ := hrel
        have HOWN := Lib.hid hown
        have HX3 := Lib.hid hx
        clear hown hx
        by_cases hlt2 : k < 4096
        · have hix := fun W => index_on cur k (f k) W hlt2 (HCS.out k hlt2)
          have hsz := HSZ.out
          have HLN := Lib.hid (spansTo_len f k)
          have HEXC := Lib.hid (extend_any w.heap.size u7 (spansTo f k) (k : Int) ((k : Int) + 1) wr HX3.out.size (by have := HLN.out; omega) HOWN.out)
          cases hf : f k with
          | false =>
            rw [hf] at hix
            have HS := Lib.hid (spansTo_off hf)
            clear hf
            go_wp2_with fail
            go_roundw
            case rel => exact ⟨k + 1, by omega, by go_num, by rw [HS.out]; exact HOWN.out, HX3.out⟩
            case measure => simp [intOf]; omega
          | true =>
            rw [hf] at hix
            have HS := Lib.hid (extS_spans (on := f) (k := k) (n := k + 1) (by omega) (by omega) (fun m h1 h2 => by rw [show m = k by omega]; exact hf))
            clear hf
            go_wp2_with fail
            refine HEXC.out.mono ?_
            rintro e w4 ⟨⟨v4, rfl, ho4⟩, hx4⟩
            have HO4 := Lib.hid ho4
            have HX4 := Lib.hid (HX3.out.trans hx4)
            clear ho4 hx4
            go_wp2_with fail
            go_roundw
            case rel => exact ⟨k + 1, by omega, by go_num, by rw [← HS.out]; exact HO4.out, HX4.out⟩
            case measure => simp [intOf]; omega
        · have HK := Lib.hid (show k = 4096 by omega)
          go_wp2_with fail
          go_ret2
          exact ⟨_, by rw [HANS.out]; rfl, by rw [HANS.out]; show OwnSp _ _ _ (spansTo f 4096); rw [← HK.out]; exact OwnSp.of_owns HOWN.out, HX3.out⟩
theorem pOfSp_any (u : Value) (xs : List Int) (w : World) (hu : RdV w u (xs.map (Value.int .i64))) (_hl : xs.length ≤ 100000) (_hf : ∀ x ∈ xs, -9223372036854775808 ≤ x ∧ x ≤ 9223372036854775807) :
    Calls Try.prog 10 #[u] w fun e w' => AnsSp w (ofS xs) e w' := pOfSpR_any u xs w hu
theorem pRightSp_any (u : Value) (l : List Sp) (w : World) (hu : InSp w u l) :
    Calls Try.prog 17 #[u] w fun e w' => e = .returned (.bool (rightSp l)) ∧ Ext w w' := pRightRd_any u l w hu.rd

end Go.Proofs.Ythiijhdgbnpihaa
