/-
  The program's spans: List.
-/
import Derived.Test.YthiijhdgbnpihaaSpansP2
namespace Go.Proofs.Ythiijhdgbnpihaa
open Go.RowKit Go.BigFrame

theorem placesTo_on {f : Int → Bool} {m : Nat} (h : f m = true) : placesTo f (m + 1) = placesTo f m ++ [(m : Int)] := by
  rw [placesTo_succ, if_pos h]

set_option maxRecDepth 100000 in
set_option maxHeartbeats 1000000 in
theorem pListSpO_any (u : Value) (l : List Sp) (w : World) (hu : RdSp w u l) :
    Calls Try.prog 18 #[u] w fun e w' => (∃ v, e = .returned v ∧ w'.ownsRow w.heap.size 3 1 v (listS l).length ((listS l).map (Value.int .i64))) ∧ Ext w w' := by
  have HR := Lib.hid (pRightRd_any u l w hu)
  obtain ⟨i0, hi, hy0, hy1, hy2⟩ := info_parts Try.info_int7
  obtain ⟨ao, cap, rfl, h1, h2, hat, -⟩ := hu
  have HAT := Lib.hid hat
  obtain ⟨N, hN⟩ : ∃ N, l.length = N := ⟨_, rfl⟩
  have HN := Lib.hid hN
  unfold maxLen at h2
  rw [hN] at h1 HR ⊢
  clear hat hN
  cases hb : rightSp l with
  | false =>
    rw [hb] at HR
    have HL := Lib.hid (listS_wrong hb)
    clear hb
    go_enter Try.func18, Try.ntmps18
    go_wp2_with fail
    refine HR.out.mono ?_
    rintro e w1 ⟨rfl, hx1⟩
    have HX1 := Lib.hid hx1
    clear hx1
    go_wp2_with fail
    go_ret
    exact ⟨⟨_, rfl, by rw [HL.out]; exact ⟨rfl, .inl ⟨rfl, rfl⟩⟩⟩, HX1.out⟩
  | true =>
    rw [hb] at HR
    have HL := Lib.hid (listS_to hb)
    have HST := Lib.hid (SpAt.start (of_decide_eq_true hb))
    clear hb
    go_enter Try.func18, Try.ntmps18
    go_wp2_with fail
    refine HR.out.mono ?_
    rintro e w1 ⟨rfl, hx1⟩
    have HX1 := Lib.hid hx1
    clear hx1
    go_wp2_with fail
    go_loopw [3, 12] (fun v i wr => ∃ j T : Nat, j ≤ N ∧ i = .int .i64 j ∧ wr.ownsRow w.heap.size 3 1 v (placesTo (inB l) T).length ((placesTo (inB l) T).map (Value.int .i64)) ∧ SpAt l (l.drop j) T ∧ Ext w wr) (fun _ i _ => N - (intOf i).toNat)
    case atStart => exact ⟨0, 0, Nat.zero_le _, rfl, ⟨rfl, .inl ⟨rfl, rfl⟩⟩, HST.out, HX1.out⟩
    case round =>
      obtain ⟨j, T, hj, rfl, hown, hat, hx⟩ := hrel
      have HA := Lib.hid hat
      have HX := Lib.hid hx
      have HOWN := Lib.hid hown
      clear hat hx hown
      by_cases hlt : j < N
      · have hjl : j < l.length := by have := HN.out; omega
        obtain ⟨g, off, rfl, hx0, hx1⟩ := HAT.out j hjl
        have hz0 := (HX.out.cell (lt_of_cell hx0)).trans hx0
        have hz1 := (HX.out.cell (lt_of_cell hx1)).trans hx1
        have hstep := HA.out
        rw [List.drop_eq_getElem_cons hjl] at hstep
        obtain ⟨F, C, he, h3, h4, h5, h6, h7, h8⟩ := hstep.step
        rw [he] at hz0 hz1
        simp only at hz0 hz1
        have HNX := Lib.hid h6
        have HON := Lib.hid h7
        have HSK := Lib.hid (placesTo_skip h3 h8)
        have HAL := Lib.hid (ext_new wr (.cells #[.int .i64 F, .int .i64 C] 39))
        have HC := Lib.hid (show (wr.alloc (.cells #[.int .i64 F, .int .i64 C] 39)).cell? ⟨wr.heap.size, 1, none⟩ = some (.int .i64 C) from row_new wr [.int .i64 F, .int .i64 C] 39 1 (.int .i64 C) rfl)
        clear hx0 hx1 hstep he h6 h7 h8 hjl
        go_wp2_with fail
        generalize hB : wr.heap.size = B at HC ⊢
        have HB := Lib.hid hB
        have HSZ := Lib.hid (show w.heap.size ≤ B by have := HX.out.size; omega)
        have HBW := Lib.hid (show B < (wr.alloc (.cells #[.int .i64 F, .int .i64 C] 39)).heap.size by simp; omega)
        have HO0 := Lib.hid (HOWN.out.alloc (.cells #[.int .i64 F, .int .i64 C] 39))
        have HNE := Lib.hid (show ∀ k, u3.ownBlock = some k → k ≠ B from fun k hk => by have := (HOWN.out.lt k hk).2; omega)
        have HEX := Lib.hid (Ext.trans HX.out HAL.out)
        generalize wr.alloc (.cells #[.int .i64 F, .int .i64 C] 39) = w5 at HC HBW HO0 HEX ⊢
        clear hB
        go_loopw [3, 6] (fun v k wk => ∃ m : Nat, F ≤ m ∧ m ≤ C ∧ k = .int .i64 m ∧ wk.ownsRow w.heap.size 3 1 v (placesTo (inB l) m).length ((placesTo (inB l) m).map (Value.int .i64)) ∧ (∀ k, v.ownBlock = some k → k ≠ B) ∧ wk.cell? ⟨B, 1, none⟩ = some (.int .i64 C) ∧ Ext w wk) (fun _ k _ => C - (intOf k).toNat)
        case atStart => exact ⟨F, Nat.le_refl _, by omega, rfl, by rw [HSK.out]; exact HO0.out, HNE.out, HC.out, HEX.out⟩
        case round =>
          obtain ⟨m, hm0, hm1, rfl, hown, hne, hc, hx⟩ := hrel
          have HO3 := Lib.hid hown
          have HX3 := Lib.hid hx
          have HN3 := Lib.hid hne
          have HC3 := Lib.hid hc
          clear hown hx hne
          by_cases hmt : m < C
          · have HLEN := Lib.hid (placesTo_len (inB l) m)
            have HS := Lib.hid (placesTo_on (HON.out m hm0 hmt))
            have HZ := Lib.hid HX3.out.size
            go_wp2_with (at_builtin; go_must (refine wpList_append_apart _ rfl (.tmp 24) (.tmp 26) 22 rfl w.heap.size 3 i0 (.int .i64 0) 1 8 Try.underlying22 hi hy0 hy1 hy2 rfl (by decide) u3 _ _ rfl (HO3.out.alloc _) ⟨_, 0, none⟩ 1 1 [_] rfl rfl (row_new _ _ _) (by simp [Value.oneCell']) (by have := HLEN.out; unfold maxLen; omega) (by have := HLEN.out; omega) (by have := HZ.out; simp; omega) ?_); intro v3 w3 hown3 hgrow3 hbl3; have HO4 := Lib.hid hown3; have HG4 := Lib.hid hgrow3; have HB4 := Lib.hid hbl3; clear hown3 hgrow3 hbl3)
            have HLB := Lib.hid (lt_of_cell HC3.out)
            have HCA := Lib.hid (((ext_new wr (.cells #[.int .i64 m] 3)).cell HLB.out).trans HC3.out)
            go_roundw
            case rel => exact ⟨m + 1, by omega, by omega, by go_num, by rw [HS.out, List.map_append, List.length_append]; exact HO4.out,
                fun k hk => by
                  rcases HB4.out with h | ⟨k', h, h'⟩
                  · exact HN3.out k (by rw [← h]; exact hk)
                  · rw [h] at hk
                    cases hk
                    have := HLB.out
                    simp only [World.size_alloc] at h'
                    simp only at this
                    omega,
                (OnlyS.of_grown HG4.out).cell HCA.out (fun e => HN3.out B e rfl),
                (show Below w.heap.size w wr from HX3.out).trans (((Below.refl w.heap.size wr).alloc HZ.out _).grown HG4.out (by simp; have := HZ.out; omega) (fun b hb => (HO3.out.lt b hb).1))⟩
            case measure => simp [intOf]; omega
          · have HM := Lib.hid (show m = C by omega)
            go_wp2_with fail
            go_roundw
            case rel => exact ⟨j + 1, C, by omega, by go_num, by rw [← HM.out]; exact HO3.out, HNX.out, HX3.out⟩
            case measure => simp [intOf]; omega
      · have HE := Lib.hid (show placesTo (inB l) 4096 = placesTo (inB l) T by have h := HA.out; rw [List.drop_eq_nil_of_le (by have := HN.out; omega)] at h; exact h.done)
        go_wp2_with fail
        go_ret
        exact ⟨⟨_, rfl, by rw [HL.out, HE.out]; exact HOWN.out⟩, HX.out⟩
theorem pListSp_any (u : Value) (l : List Sp) (w : World) (hu : InSp w u l) :
    Calls Try.prog 18 #[u] w fun e w' => (∃ v, e = .returned v ∧ RdV w' v ((listS l).map (Value.int .i64))) ∧ Ext w w' := by
  refine (pListSpO_any u l w hu.rd).mono ?_
  rintro e w1 ⟨⟨v, rfl, h⟩, hx⟩
  exact ⟨⟨v, rfl, RdV.of_owns h⟩, hx⟩

end Go.Proofs.Ythiijhdgbnpihaa
