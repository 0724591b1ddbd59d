/-
  The walk of the law DeltaShift.
-/
import Derived.Laws.OwnMore
import Derived.Test.YtepbdlmpknegiaaDeltaSmall
import Derived.Test.YtepbdlmpknegiaaApart
namespace Go.Proofs.Ytepbdlmpknegiaa
open Go.ChangeAt Go.RowKit Go.BigFrame

theorem stepsD_shift (k a : Int) (l : List Int) : stepsD (a + k) (l.map (· + k)) = stepsD a l := by
  induction l generalizing a with
  | nil => rfl
  | cons x l ih =>
    rw [List.map_cons, stepsD, stepsD, ih]
    congr 1
    omega
theorem okD_small (a : Int) (l : List Int) (ha : -8589934592 ≤ a ∧ a ≤ 8589934592) (h : ∀ x ∈ l, -8589934592 ≤ x ∧ x ≤ 8589934592) : okD a l := by
  induction l generalizing a with
  | nil => trivial
  | cons x l ih =>
    have hx := h x (by simp)
    exact ⟨⟨by omega, by omega⟩, ih x hx fun y hy => h y (by simp [hy])⟩
theorem risesS_shift (k : Int) (l : List Int) : risesS (l.map (· + k)) = risesS l := by
  have h : risesS (l.map (· + k)) = true ↔ risesS l = true := by
    rw [risesS_iff, risesS_iff]
    constructor
    · intro h j hj
      have := h j (by simpa using hj)
      simp only [List.getElem_map] at this
      omega
    · intro h j hj
      have := h j (by simpa using hj)
      simp only [List.getElem_map]
      omega
  cases h1 : risesS l <;> cases h2 : risesS (l.map (· + k)) <;> simp_all
theorem encI_zeros (n : Nat) : encI (stepsD 0 (List.replicate n 0)) = List.replicate n 0 := by
  induction n with
  | zero => rfl
  | succ n ih =>
    rw [List.replicate_succ, stepsD, encI_cons, List.replicate_succ]
    show enc (zig (0 - 0)) ++ encI (stepsD 0 (List.replicate n 0)) = _
    rw [ih]
    rfl
theorem putD_one (a : Int) : putD [a] = enc 1 ++ enc (zig (a - 0)) := by
  show enc 1 ++ encI [a - 0] = _
  rw [encI_one]
theorem putD_cons (a : Int) (l : List Int) : putD (a :: l) = (enc (l.length + 1) ++ enc (zig (a - 0))) ++ encI (stepsD a l) := by
  show enc (l.length + 1) ++ encI ((a - 0) :: stepsD a l) = _
  rw [encI_cons, List.append_assoc]
theorem owns_onlyD {X : Nat → Prop} {base : Nat} {e : TypeId} {size : Nat} {w w' : World} {v : Value} {n : Nat} {xs : List Value} (h : w.ownsRow base e size v n xs) (ho : OnlyS X w w') (hx : ∀ k, v.ownBlock = some k → ¬ X k) : w'.ownsRow base e size v n xs := by
  refine ⟨h.1, ?_⟩
  rcases h.2 with h | ⟨g, cap, cur, rfl, h2, h3, h4⟩
  · exact .inl h
  · exact .inr ⟨g, cap, cur, rfl, h2, by rw [ho.block g (Array.getElem?_eq_some_iff.1 h3).1 (hx g rfl)]; exact h3, h4⟩
/-- make([]int, n), as a fact of the walk. -/
theorem make_ints (w : World) (n : Nat) (hn : n ≤ 5000) : ∃ w', (Instr.makeSlice 22 (.int .i64 (n : Int)) (.int .i64 (n : Int))).run Try.prog w = .ok (.slice (some ⟨w.heap.size, 0, none⟩) n n) w' ∧ RdV w' (.slice (some ⟨w.heap.size, 0, none⟩) n n) ((List.replicate n 0).map (Value.int .i64)) ∧ Ext w w' := by
  obtain ⟨i0, hi, hz0, hz1, hz2⟩ := info_parts Try.info_int8
  obtain ⟨w', hrun, hown, hgrow⟩ := run_makeSlice_full (P := Try.prog) w w.heap.size 22 3 i0 (.int .i64 0) 1 Try.underlying22 hi hz0 hz1 .i64 .i64 n (by omega) (by rw [hz2]; omega) (by unfold maxLen; omega) (Nat.le_refl _)
  refine ⟨w', hrun, ?_, ⟨hgrow.os, hgrow.tape, hgrow.output, hgrow.size, fun k hk => hgrow.block k hk (by simp)⟩⟩
  have e : (madeCells (Value.int .i64 0).cells (n * 1)).toList = (List.replicate n 0).map (Value.int .i64) := by
    rw [Nat.mul_one, List.map_replicate]
    exact toList_madeCells_one _ _
  rw [e] at hown
  exact RdV.of_owns hown
theorem i32_fits {n : Int} (h : (Lit.int .i32 n).wf = true) : -2147483648 ≤ n ∧ n ≤ 2147483647 := bounds_i32 h

/-- All that the law asks of a row and the same row moved. -/
structure ShiftD (a0 : Int) (R : List Int) (k : Int) where
  E : Nat
  la : Nat
  lb : Nat
  S : List UInt8
  x1 : (putD (a0 :: R)).length = E + la + S.length
  x2 : (putD (a0 :: R)).drop (E + la) = S
  y1 : (putD ((a0 :: R).map (· + k))).length = E + lb + S.length
  y2 : (putD ((a0 :: R).map (· + k))).drop (E + lb) = S
  p1 : (putD [a0]).length = 1 + la
  q1 : (putD [a0 + k]).length = 1 + lb
  m1 : (putD (List.replicate (R.length + 1) 0)).length = E + (R.length + 1)
  sm : E ≤ 9 ∧ la ≤ 9 ∧ lb ≤ 9
  pos : 1 ≤ E ∧ 1 ≤ la ∧ 1 ≤ lb
  sl : S.length ≤ 9 * R.length
def shiftD (a0 : Int) (R : List Int) (k : Int) : ShiftD a0 R k where
  E := (enc (R.length + 1)).length
  la := (enc (zig (a0 - 0))).length
  lb := (enc (zig (a0 + k - 0))).length
  S := encI (stepsD a0 R)
  x1 := by rw [putD_cons, List.length_append, List.length_append]
  x2 := by rw [putD_cons, List.drop_append_of_le_length (by rw [List.length_append]; exact Nat.le_refl _), List.drop_of_length_le (by rw [List.length_append]; exact Nat.le_refl _)]; rfl
  y1 := by rw [List.map_cons, putD_cons, List.length_append, List.length_append, List.length_map, stepsD_shift]
  y2 := by rw [List.map_cons, putD_cons, List.length_map, stepsD_shift, List.drop_append_of_le_length (by rw [List.length_append]; exact Nat.le_refl _), List.drop_of_length_le (by rw [List.length_append]; exact Nat.le_refl _)]; rfl
  p1 := by rw [putD_one, List.length_append]; rfl
  q1 := by rw [putD_one, List.length_append]; rfl
  m1 := by
    unfold putD
    rw [encI_zeros, List.length_append, List.length_replicate, List.length_replicate]
  sm := ⟨enc_length _, enc_length _, enc_length _⟩
  pos := ⟨enc_pos _, enc_pos _, enc_pos _⟩
  sl := by
    have := encI_len (stepsD a0 R)
    rwa [stepsD_length] at this

theorem own_posD {base : Nat} {e : TypeId} {w : World} {v : Value} {n : Nat} {xs : List Value} (h : w.ownsRow base e 1 v n xs) (hn : 0 < n) : ∃ g cap, v = .slice (some ⟨g, 0, none⟩) n cap ∧ n ≤ cap ∧ cap ≤ maxLen := by
  rcases h.2 with ⟨_, h0⟩ | ⟨g, cap, cur, rfl, h2, h3, h4, h5, _⟩
  · omega
  · exact ⟨g, cap, rfl, h4, h5⟩
theorem rd_restD {w : World} {g N cap : Nat} {l : List UInt8} (h : Rd w (.slice (some ⟨g, 0, none⟩) N cap) l) (k : Nat) (hk : k ≤ N) : Rd w (.slice (some ⟨g, k, none⟩) (N - k) (cap - k)) (l.drop k) := by
  obtain ⟨e, h2, h3, -⟩ := RdV.plainV h
  rw [List.length_map] at e
  subst e
  rcases h with ⟨h1, _⟩ | ⟨x, cap', h1, h4, h5, h6⟩
  · cases h1
  · simp only [Value.slice.injEq, Option.some.injEq] at h1
    obtain ⟨rfl, -, rfl⟩ := h1
    refine .inr ⟨⟨g, k, none⟩, cap - k, by rw [List.length_map, List.length_drop], by rw [List.length_map, List.length_drop]; omega, by omega, fun i u hu => ?_⟩
    have := h6 (k + i) u (by rw [List.map_drop, List.getElem?_drop] at hu; exact hu)
    rw [add_at] at this ⊢
    rwa [Nat.zero_add] at this
theorem rd_none {w : World} {a : Option Addr} {g : Nat} (ha : a = some ⟨g, 0, none⟩) : Rd w (.slice a 0 0) [] := by
  subst ha
  exact .inr ⟨_, 0, rfl, Nat.le_refl _, Nat.zero_le _, fun i u hu => by simp at hu⟩
def addK (k z : Int) : Int := z + k

set_option maxRecDepth 100000 in
set_option maxHeartbeats 4000000 in
theorem deltaShift_walk (u : Value) (zs : List Int) (by' : Int) (w : World) (hu : RdV w u (zs.map (Value.int .i32))) (hf : ∀ n ∈ zs, (Lit.int .i32 n).wf = true) (hby : -2147483648 ≤ by' ∧ by' ≤ 2147483647) :
    Calls Try.prog 6 #[u, .int .i32 by'] w fun e w' => e = .returned (.bool true) ∧ Below w.heap.size w w' := by
  obtain ⟨i0, hi, hi0, hi1, hi2⟩ := info_parts Try.info_int8
  obtain ⟨ao, cap, rfl, h1, h2, hat⟩ := RdV.cellsAt hu
  rw [List.length_map] at h1 ⊢
  have HAT := Lib.hid hat
  have HF := Lib.hid (show ∀ z ∈ zs, -2147483648 ≤ z ∧ z ≤ 2147483647 from fun z hz => i32_fits (hf z hz))
  obtain ⟨N, hN⟩ : ∃ N, zs.length = N := ⟨_, rfl⟩
  have HN := Lib.hid hN
  unfold maxLen at h2
  rw [hN] at h1 ⊢
  obtain ⟨hb0, hb1⟩ := hby
  clear hu hat hf hN
  go_enter Try.func6, Try.ntmps6
  go_wp2_with fail
  refine (shown11_any w).mono ?_
  rintro e w1 ⟨rfl, hx1⟩
  have HX1 := Lib.hid (show Ext w w1 from hx1)
  clear hx1
  go_wp2_with fail
  go_loopw [6, 7, 8, 9, 26] (fun va vb _ _ i wr => ∃ j : Nat, j ≤ N ∧ j ≤ 500 ∧ i = .int .i64 j ∧ wr.ownsRow w1.heap.size 3 1 va (zs.take j).length ((zs.take j).map (Value.int .i64)) ∧ wr.ownsRow w1.heap.size 3 1 vb ((zs.take j).map (addK by')).length (((zs.take j).map (addK by')).map (Value.int .i64)) ∧ (∀ k, va.ownBlock = some k → vb.ownBlock ≠ some k) ∧ Below w1.heap.size w1 wr) (fun _ _ _ _ i _ => N - (intOf i).toNat)
  case atStart => exact ⟨0, Nat.zero_le _, Nat.zero_le _, rfl, owns_nil _ _ _ _, owns_nil _ _ _ _, fun k hk => (by cases hk), Below.refl _ _⟩
  case round =>
    obtain ⟨j, hj, hj5, rfl, hoa, hob, hd, hx⟩ := hrel
    have HA := Lib.hid hoa
    have HB := Lib.hid hob
    have HD := Lib.hid hd
    have HX := Lib.hid hx
    have HLA := Lib.hid (show (zs.take j).length ≤ 500 by rw [List.length_take]; omega)
    clear hoa hob hd hx
    by_cases hgo : j < N ∧ j < 500
    · obtain ⟨hlt, hj500⟩ := hgo
      have hjl : j < zs.length := by have := HN.out; omega
      obtain ⟨y, rfl, hcv⟩ := HAT.out j (.int .i32 zs[j]) (by rw [List.getElem?_map, List.getElem?_eq_getElem hjl]; rfl)
      have hcx := (HX.out.cell (Nat.lt_of_lt_of_le (lt_of_cell hcv) HX1.out.size)).trans ((HX1.out.cell (lt_of_cell hcv)).trans hcv)
      have HST := Lib.hid (List.take_succ_eq_append_getElem hjl)
      obtain ⟨hz0, hz1⟩ := HF.out zs[j] (List.getElem_mem hjl)
      generalize zs[j] = z at hcx HST hz0 hz1
      clear hcv hjl
      have HLB := Lib.hid (show ((zs.take j).map (addK by')).length ≤ 500 by rw [List.length_map]; exact HLA.out)
      have HSZ := Lib.hid HX.out.size
      go_wp2_with (at_builtin; first | (refine wpList_append_apart _ rfl (.tmp 38) (.tmp 44) 22 rfl w1.heap.size 3 i0 (.int .i64 0) 1 8 Try.underlying22 hi hi0 hi1 hi2 rfl (by decide) _ _ _ rfl (HB3.out.alloc _) ⟨w3.heap.size, 0, none⟩ 1 1 [_] rfl rfl (row_new _ _ _) (by simp [Value.oneCell']) (by have := HLB.out; unfold maxLen; omega) (by have := HLB.out; omega) (by have := HSZ3.out; simp; omega) ?_; intro v4 w4 hown4 hgrow4 hblk4; have HO4 := Lib.hid hown4; have HG4 := Lib.hid (OnlyS.of_grown hgrow4); have HK4 := Lib.hid hblk4; clear hown4 hgrow4 hblk4) | (go_must (refine wpList_append_apart _ rfl (.tmp 33) (.tmp 36) 22 rfl w1.heap.size 3 i0 (.int .i64 0) 1 8 Try.underlying22 hi hi0 hi1 hi2 rfl (by decide) _ _ _ rfl (HA.out.alloc _) ⟨wr.heap.size, 0, none⟩ 1 1 [_] rfl rfl (row_new _ _ _) (by simp [Value.oneCell']) (by have := HLA.out; unfold maxLen; omega) (by have := HLA.out; omega) (by have := HSZ.out; simp; omega) ?_); intro v3 w3 hown3 hgrow3 hblk3; have HO3 := Lib.hid hown3; have HG3 := Lib.hid (OnlyS.of_grown hgrow3); have HK3 := Lib.hid hblk3; have HB3 := Lib.hid (owns_onlyD (HB.out.alloc _) HG3.out (fun k hk hx => HD.out k hx hk)); have HSZ3 := Lib.hid (show w1.heap.size ≤ w3.heap.size from by have := HSZ.out; have := HG3.out.size; simp at this; omega); clear hown3 hgrow3 hblk3))
      have HD3 := Lib.hid (show ∀ k, v3.ownBlock = some k → u7.ownBlock ≠ some k from fun k hk hb => by
        rcases HK3.out with h | ⟨k', h, hle⟩
        · rw [h] at hk
          exact HD.out k hk hb
        · rw [h] at hk
          cases hk
          have h1 := (HB.out.lt _ hb).2
          simp at hle
          omega)
      have HE3 := Lib.hid (show Below w1.heap.size wr w3 from ((Below.refl w1.heap.size wr).alloc HSZ.out _).trans (HG3.out.below (by have := HSZ.out; simp; omega) (fun b hb => (HA.out.lt b hb).1)))
      have HE4 := Lib.hid (show Below w1.heap.size w3 w4 from ((Below.refl w1.heap.size w3).alloc HSZ3.out _).trans (HG4.out.below (by have := HSZ3.out; simp; omega) (fun b hb => (HB3.out.lt b hb).1)))
      go_roundw
      case rel =>
        refine ⟨j + 1, by omega, by omega, by go_num, ?_, ?_, fun k hk hb => ?_, HX.out.trans (HE3.out.trans HE4.out)⟩
        · have h := owns_onlyD (HO3.out.alloc _) HG4.out (fun k hk hx => HD3.out k hk hx)
          rw [HST.out, List.map_append, List.length_append]
          exact h
        · have h := HO4.out
          rw [HST.out, List.map_append, List.map_append, List.length_append]
          exact h
        · rcases HK4.out with h | ⟨k', h, hle⟩
          · rw [h] at hb
            exact HD3.out k hk hb
          · rw [h] at hb
            cases hb
            have h1 := (HO3.out.lt _ hk).2
            simp at hle
            omega
      case measure => simp [intOf]; omega
    · have hcase : j = N ∨ (j < N ∧ j = 500) := by omega
      have HCELL := Lib.hid (fun (h : j < N) => (show ∃ g off c, ao = some ⟨g, off, none⟩ ∧ wr.cell? ⟨g, off + j, none⟩ = some (.int .i32 c) ∧ (-2147483648 ≤ c ∧ c ≤ 2147483647) from by
        have hjl : j < zs.length := by have := HN.out; omega
        obtain ⟨⟨g, off, sp⟩, rfl, hcv⟩ := HAT.out j (.int .i32 zs[j]) (by rw [List.getElem?_map, List.getElem?_eq_getElem hjl]; rfl)
        have hcx := (HX.out.cell (Nat.lt_of_lt_of_le (lt_of_cell hcv) HX1.out.size)).trans ((HX1.out.cell (lt_of_cell hcv)).trans hcv)
        have hsp : sp = none := by
          obtain ⟨a0, ha0, hc0⟩ := HAT.out 0 (.int .i32 (zs[0]'(by omega))) (by rw [List.getElem?_map, List.getElem?_eq_getElem (by omega)]; rfl)
          obtain rfl := Option.some.inj ha0
          have h := World.cell?_spot hc0
          simpa [Addr.add] using h
        subst hsp
        rw [add_at] at hcx
        exact ⟨g, off, _, rfl, hcx, HF.out _ (List.getElem_mem hjl)⟩))
      have HAF := Lib.hid (show ∀ x ∈ zs.take j, -2147483648 ≤ x ∧ x ≤ 2147483647 from fun x hx => HF.out x (List.mem_of_mem_take hx))
      have HRA := Lib.hid (RdV.of_owns HA.out)
      have HRB := Lib.hid (RdV.of_owns HB.out)
      obtain ⟨xo, xc, rfl, hxc1, hxc2⟩ := own_shapeP HA.out
      obtain ⟨yo, yc, rfl, hyc1, hyc2⟩ := own_shapeP HB.out
      have HXW := Lib.hid (Ext.trans HX1.out HX.out)
      unfold maxLen at hxc2 hyc2
      clear HA HB HD hgo
      generalize zs.take j = A at HRA HRB HLA HAF hxc1 hyc1 ⊢
      rw [List.length_map] at HRB hyc1 ⊢
      cases A with
      | nil =>
        rcases hcase with rfl | ⟨hlt, rfl⟩
        · go_wp2_with fail
          go_ret
          exact ⟨by simp, HXW.out⟩
        · obtain ⟨g, off, c, rfl, hc, hcb⟩ := HCELL.out hlt
          go_wp2_with fail
          go_ret
          exact ⟨by simp, HXW.out⟩
      | cons a0 R =>
        have ha0 := HAF.out a0 (by simp)
        have HFA := Lib.hid (show fitsI (a0 :: R) from fun x hx => by have := HAF.out x hx; omega)
        have HMB := Lib.hid (show ∀ x ∈ (a0 :: R).map (addK by'), -8589934592 ≤ x ∧ x ≤ 8589934592 from fun x hx => by
          obtain ⟨z, hz, rfl⟩ := List.mem_map.1 hx
          have := HAF.out z hz
          unfold addK
          omega)
        have HFB := Lib.hid (show fitsI ((a0 :: R).map (addK by')) from fun x hx => by have := HMB.out x hx; omega)
        have HPA := Lib.hid (show putS11 (a0 :: R) = (putD (a0 :: R), 0) from putS11_ok (by have := HLA.out; omega) (okD_small _ _ (by omega) (fun x hx => by have := HAF.out x hx; omega)))
        have HPB := Lib.hid (show putS11 ((a0 :: R).map (addK by')) = (putD ((a0 :: R).map (addK by')), 0) from putS11_ok (by rw [List.length_map]; have := HLA.out; omega) (okD_small _ _ (by omega) HMB.out))
        have HF1 := Lib.hid (show fitsI [a0] from fun x hx => by rw [List.mem_singleton.1 hx]; omega)
        have HF2 := Lib.hid (show fitsI [addK by' a0] from fun x hx => by rw [List.mem_singleton.1 hx]; unfold addK; omega)
        have HP1 := Lib.hid (show putS11 [a0] = (putD [a0], 0) from putS11_ok (by show ¬ 4096 < 1; decide) (okD_small _ _ (by omega) (fun x hx => by rw [List.mem_singleton.1 hx]; omega)))
        have HP2 := Lib.hid (show putS11 [addK by' a0] = (putD [addK by' a0], 0) from putS11_ok (by show ¬ 4096 < 1; decide) (okD_small _ _ (by omega) (fun x hx => by rw [List.mem_singleton.1 hx]; unfold addK; omega)))
        have HA1 := Lib.hid (show RdV wr (.slice xo 1 xc) (([a0] : List Int).map (Value.int .i64)) from rdV_first HRA.out 1 (by simp))
        have HB1 := Lib.hid (show RdV wr (.slice yo 1 yc) (([addK by' a0] : List Int).map (Value.int .i64)) from rdV_first HRB.out 1 (by simp))
        have HRS := Lib.hid (show risesS ((a0 :: R).map (addK by')) = risesS (a0 :: R) from risesS_shift by' (a0 :: R))
        obtain ⟨E, la, lb, S, x1, x2, y1, y2, p1, q1, m1, ⟨sm1, sm2, sm3⟩, ⟨po1, po2, po3⟩, sl⟩ := shiftD a0 R by'
        have y1 : (putD ((a0 :: R).map (addK by'))).length = E + lb + S.length := y1
        have y2 : (putD ((a0 :: R).map (addK by'))).drop (E + lb) = S := y2
        have q1 : (putD [addK by' a0]).length = 1 + lb := q1
        have HSL := Lib.hid (show S.length ≤ 5000 by have := HLA.out; rw [List.length_cons] at this; omega)
        obtain ⟨n, hn⟩ : ∃ n, (a0 :: R).length = n := ⟨_, rfl⟩
        have hn1 : R.length + 1 = n := hn
        have HN2 := Lib.hid hn
        have hla := HLA.out
        rw [hn1] at m1
        rw [hn] at HRA HRB hxc1 hyc1 hla ⊢
        have hn5 : n ≤ 5000 := by omega
        have hn0 : 1 ≤ n := by omega
        have hx1c : 1 ≤ xc := by omega
        have hy1c : 1 ≤ yc := by omega
        have HFZ := Lib.hid (show fitsI (List.replicate n 0) from fun x hx => by rw [(List.mem_replicate.1 hx).2]; decide)
        have HPZ := Lib.hid (show putS11 (List.replicate n 0) = (putD (List.replicate n 0), 0) from putS11_ok (by rw [List.length_replicate]; omega) (okD_small _ _ (by decide) (fun x hx => by rw [(List.mem_replicate.1 hx).2]; decide)))
        clear hn hn1
        rcases hcase with rfl | ⟨hlt, rfl⟩
        · go_wp2_with fail
          refine (pPut11_any _ (a0 :: R) wr HRA.out (by have := HLA.out; omega) HFA.out).mono ?_
          rintro e w2 ⟨v2, rfl, ho2, hx2⟩
          rw [HPA.out] at ho2 ⊢
          simp only at ho2 ⊢
          obtain ⟨g2, c2, rfl, hc2, hm2⟩ := own_posD ho2 (by rw [x1]; omega)
          have HX2 := Lib.hid hx2
          have HR2 := Lib.hid (show Rd w2 _ (putD (a0 :: R)) from RdV.of_owns ho2)
          rw [x1] at hc2 HR2 ⊢
          clear ho2 hx2
          go_wp2_with fail
          refine (pPut11_any _ ((a0 :: R).map (addK by')) w2 (HRB.out.mono HX2.out) (by rw [List.length_map]; have := HLA.out; omega) HFB.out).mono ?_
          rintro e w3 ⟨v3, rfl, ho3, hx3⟩
          rw [HPB.out] at ho3 ⊢
          simp only at ho3 ⊢
          obtain ⟨g3, c3, rfl, hc3, hm3⟩ := own_posD ho3 (by rw [y1]; omega)
          have HX3 := Lib.hid (Ext.trans HX2.out hx3)
          have HR3 := Lib.hid (show Rd w3 _ (putD ((a0 :: R).map (addK by'))) from RdV.of_owns ho3)
          have HR2a := Lib.hid (HR2.out.mono hx3)
          rw [y1] at hc3 HR3 ⊢
          clear ho3 hx3
          go_wp2_with fail
          refine (pPut11_any _ [a0] w3 ((HA1.out).mono HX3.out) (by show 1 ≤ 100000; decide) HF1.out).mono ?_
          rintro e w4 ⟨v4, rfl, ho4, hx4⟩
          rw [HP1.out] at ho4 ⊢
          simp only at ho4 ⊢
          obtain ⟨g4, c4, rfl, hc4, hm4⟩ := own_posD ho4 (by rw [p1]; omega)
          have HX4 := Lib.hid (Ext.trans HX3.out hx4)
          have HR3b := Lib.hid (HR3.out.mono hx4)
          have HR2b := Lib.hid (HR2a.out.mono hx4)
          rw [p1] at hc4 ⊢
          clear ho4 hx4
          go_wp2_with fail
          refine (pPut11_any _ [addK by' a0] w4 ((HB1.out).mono HX4.out) (by show 1 ≤ 100000; decide) HF2.out).mono ?_
          rintro e w5 ⟨v5, rfl, ho5, hx5⟩
          rw [HP2.out] at ho5 ⊢
          simp only at ho5 ⊢
          obtain ⟨g5, c5, rfl, hc5, hm5⟩ := own_posD ho5 (by rw [q1]; omega)
          have HX5 := Lib.hid (Ext.trans HX4.out hx5)
          have HR3c := Lib.hid (HR3b.out.mono hx5)
          have HR2c := Lib.hid (HR2b.out.mono hx5)
          rw [q1] at hc5 ⊢
          clear ho5 hx5
          obtain ⟨w6, hmk, hz6, hx6⟩ := make_ints w5 n hn5
          have HZ6 := Lib.hid hz6
          have HX6 := Lib.hid hx6
          clear hz6 hx6
          go_wp2_with fail
          clear hmk
          refine (pPut11_any _ (List.replicate n 0) w6 HZ6.out (by rw [List.length_replicate]; omega) HFZ.out).mono ?_
          rintro e w7 ⟨v7, rfl, ho7, hx7⟩
          rw [HPZ.out] at ho7 ⊢
          simp only at ho7 ⊢
          obtain ⟨g7, c7, rfl, hc7, hm7⟩ := own_posD ho7 (by rw [m1]; omega)
          have HX67 := Lib.hid (Ext.trans HX6.out hx7)
          have HX7 := Lib.hid (Ext.trans HX5.out HX67.out)
          have HR3d := Lib.hid (HR3c.out.mono HX67.out)
          have HR2d := Lib.hid (HR2c.out.mono HX67.out)
          rw [m1] at hc7 ⊢
          clear ho7 hx7
          unfold maxLen at hm2 hm3 hm4 hm5 hm7
          have HS2 := Lib.hid (show Rd w7 (.slice (some ⟨g2, E + la, none⟩) S.length (c2 - (E + la))) S from by
            have h := rd_restD HR2d.out (E + la) (by omega)
            rw [x2, show E + la + S.length - (E + la) = S.length by omega] at h
            exact h)
          have HS3 := Lib.hid (show Rd w7 (.slice (some ⟨g3, E + lb, none⟩) S.length (c3 - (E + lb))) S from by
            have h := rd_restD HR3d.out (E + lb) (by omega)
            rw [y2, show E + lb + S.length - (E + lb) = S.length by omega] at h
            exact h)
          obtain ⟨s, hs⟩ : ∃ s, S.length = s := ⟨_, rfl⟩
          have HSZ0 := Lib.hid hs
          rw [hs] at hc2 hc3 HS2 HS3 ⊢
          have hsl : s ≤ 5000 := by have := HSL.out; omega
          clear hs x1 x2 y1 y2 p1 q1 m1 sl
          go_wp2_with fail
          obtain ⟨I, hI⟩ : ∃ I, E + la = I := ⟨_, rfl⟩
          obtain ⟨K, hK⟩ : ∃ K, E + lb = K := ⟨_, rfl⟩
          have e1 : (E : Int) + (1 + (la : Int)) - 1 = (I : Int) := by omega
          have e2 : (E : Int) + (1 + (lb : Int)) - 1 = (K : Int) := by omega
          rw [e1, e2, hI, hK]
          rw [hI] at HS2 hc2
          rw [hK] at HS3 hc3
          have hI0 : I ≤ 18 ∧ K ≤ 18 := by omega
          clear e1 e2 hI hK
          have HPR1 := Lib.hid (fun W (h : Ext wr W) => pRises11_any _ (a0 :: R) W (HRA.out.mono h) (by have := HLA.out; omega) HFA.out)
          have HPR2 := Lib.hid (fun W (h : Ext wr W) => pRises11_any _ ((a0 :: R).map (addK by')) W (HRB.out.mono h) (by rw [List.length_map]; have := HLA.out; omega) HFB.out)
          rw [HRS.out] at HPR2
          generalize risesS (a0 :: R) = rr at HPR1 HPR2
          have hrr : (rr == rr) = true := beq_self_eq_true _
          have hSS : (S == S) = true := beq_self_eq_true _
          have HX8 := Lib.hid (Ext.trans HX7.out (Ext.drew w7))
          have d1 : decide ((I : Int) ≤ (I : Int) + (s : Int)) = true := decide_eq_true (by omega)
          have d2 : decide ((K : Int) ≤ (K : Int) + (s : Int)) = true := decide_eq_true (by omega)
          have HX9 := Lib.hid (Ext.trans HXW.out HX8.out)
          rcases Classical.em (c2 = I) with hcI | hcI
          · obtain rfl : s = 0 := by omega
            obtain rfl : S = [] := List.length_eq_zero_iff.1 HSZ0.out
            subst hcI
            have hs1 := str_later (rd_none (w := w7) (a := some ⟨g2, 0, none⟩) rfl)
            rcases Classical.em (c3 = K) with hcK | hcK
            · subst hcK
              have hs2 := str_later (rd_none (w := w7) (a := some ⟨g3, 0, none⟩) rfl)
              refine wp_region_segs Ext Ext.keeps [([0, 1, 2, 3, 4, 5, 6, 7, 8, 9, 10, 11, 12, 13, 14, 15, 16, 17, 18, 19, 20, 21, 22, 23, 24, 25, 26, 27, 28, 29, 30, 31, 32, 33, 35], some 34), ([], some 36), ([37, 38, 39], none)] (by kernel_rfl) (by kernel_rfl) (fun c a a' w e h => (by exact ⟨e ▸ h.1, h.2⟩)) ?_
              simp only [pickSegs, pickOps, List.map_cons, List.map_nil, Option.map_some, Option.map_none, Option.getD_some, List.getElem?_toArray, List.getElem?_cons_zero, List.getElem?_cons_succ]
              refine wpSegs_some fun KK hKK => ?_
              repeat go_big_quiet_step (fail)
              refine wpQuiet_nil ?_
              clear hs1 hs2
              go_wp2_with fail
              refine (HPR1.out _ HX8.out).mono ?_
              rintro e w9 ⟨rfl, hx9⟩
              have HX9a := Lib.hid hx9
              clear hx9
              go_wp2_with fail
              refine ⟨HX9a.out, hKK _ _ ?_⟩
              clear hKK KK
              refine wpSegs_some fun KK hKK => ?_
              refine wpQuiet_nil ?_
              go_wp2_with fail
              refine (HPR2.out _ (Ext.trans HX8.out HX9a.out)).mono ?_
              rintro e w10 ⟨rfl, hx10⟩
              have HX10 := Lib.hid hx10
              clear hx10
              go_wp2_with fail
              refine ⟨HX10.out, hKK _ _ ?_⟩
              clear hKK KK
              refine wpSegs_none ?_
              repeat go_big_quiet_step (fail)
              refine wpQuiet_nil (wpSegs_nil ?_)
              go_wp2_with fail
              go_ret
              exact ⟨by simp, Ext.trans HX9.out (Ext.trans HX9a.out HX10.out)⟩
            · have hs2 := str_later HS3.out
              refine wp_region_segs Ext Ext.keeps [([0, 1, 2, 3, 4, 5, 6, 7, 8, 9, 10, 11, 12, 13, 14, 15, 16, 17, 18, 19, 20, 21, 22, 23, 24, 25, 26, 27, 28, 29, 30, 31, 32, 33, 35], some 34), ([], some 36), ([37, 38, 39], none)] (by kernel_rfl) (by kernel_rfl) (fun c a a' w e h => (by exact ⟨e ▸ h.1, h.2⟩)) ?_
              simp only [pickSegs, pickOps, List.map_cons, List.map_nil, Option.map_some, Option.map_none, Option.getD_some, List.getElem?_toArray, List.getElem?_cons_zero, List.getElem?_cons_succ]
              refine wpSegs_some fun KK hKK => ?_
              repeat go_big_quiet_step (fail)
              refine wpQuiet_nil ?_
              clear hs1 hs2
              go_wp2_with fail
              refine (HPR1.out _ HX8.out).mono ?_
              rintro e w9 ⟨rfl, hx9⟩
              have HX9a := Lib.hid hx9
              clear hx9
              go_wp2_with fail
              refine ⟨HX9a.out, hKK _ _ ?_⟩
              clear hKK KK
              refine wpSegs_some fun KK hKK => ?_
              refine wpQuiet_nil ?_
              go_wp2_with fail
              refine (HPR2.out _ (Ext.trans HX8.out HX9a.out)).mono ?_
              rintro e w10 ⟨rfl, hx10⟩
              have HX10 := Lib.hid hx10
              clear hx10
              go_wp2_with fail
              refine ⟨HX10.out, hKK _ _ ?_⟩
              clear hKK KK
              refine wpSegs_none ?_
              repeat go_big_quiet_step (fail)
              refine wpQuiet_nil (wpSegs_nil ?_)
              go_wp2_with fail
              go_ret
              exact ⟨by simp, Ext.trans HX9.out (Ext.trans HX9a.out HX10.out)⟩
          · have hs1 := str_later HS2.out
            rcases Classical.em (c3 = K) with hcK | hcK
            · obtain rfl : s = 0 := by omega
              obtain rfl : S = [] := List.length_eq_zero_iff.1 HSZ0.out
              subst hcK
              have hs2 := str_later (rd_none (w := w7) (a := some ⟨g3, 0, none⟩) rfl)
              refine wp_region_segs Ext Ext.keeps [([0, 1, 2, 3, 4, 5, 6, 7, 8, 9, 10, 11, 12, 13, 14, 15, 16, 17, 18, 19, 20, 21, 22, 23, 24, 25, 26, 27, 28, 29, 30, 31, 32, 33, 35], some 34), ([], some 36), ([37, 38, 39], none)] (by kernel_rfl) (by kernel_rfl) (fun c a a' w e h => (by exact ⟨e ▸ h.1, h.2⟩)) ?_
              simp only [pickSegs, pickOps, List.map_cons, List.map_nil, Option.map_some, Option.map_none, Option.getD_some, List.getElem?_toArray, List.getElem?_cons_zero, List.getElem?_cons_succ]
              refine wpSegs_some fun KK hKK => ?_
              repeat go_big_quiet_step (fail)
              refine wpQuiet_nil ?_
              clear hs1 hs2
              go_wp2_with fail
              refine (HPR1.out _ HX8.out).mono ?_
              rintro e w9 ⟨rfl, hx9⟩
              have HX9a := Lib.hid hx9
              clear hx9
              go_wp2_with fail
              refine ⟨HX9a.out, hKK _ _ ?_⟩
              clear hKK KK
              refine wpSegs_some fun KK hKK => ?_
              refine wpQuiet_nil ?_
              go_wp2_with fail
              refine (HPR2.out _ (Ext.trans HX8.out HX9a.out)).mono ?_
              rintro e w10 ⟨rfl, hx10⟩
              have HX10 := Lib.hid hx10
              clear hx10
              go_wp2_with fail
              refine ⟨HX10.out, hKK _ _ ?_⟩
              clear hKK KK
              refine wpSegs_none ?_
              repeat go_big_quiet_step (fail)
              refine wpQuiet_nil (wpSegs_nil ?_)
              go_wp2_with fail
              go_ret
              exact ⟨by simp, Ext.trans HX9.out (Ext.trans HX9a.out HX10.out)⟩
            · have hs2 := str_later HS3.out
              refine wp_region_segs Ext Ext.keeps [([0, 1, 2, 3, 4, 5, 6, 7, 8, 9, 10, 11, 12, 13, 14, 15, 16, 17, 18, 19, 20, 21, 22, 23, 24, 25, 26, 27, 28, 29, 30, 31, 32, 33, 35], some 34), ([], some 36), ([37, 38, 39], none)] (by kernel_rfl) (by kernel_rfl) (fun c a a' w e h => (by exact ⟨e ▸ h.1, h.2⟩)) ?_
              simp only [pickSegs, pickOps, List.map_cons, List.map_nil, Option.map_some, Option.map_none, Option.getD_some, List.getElem?_toArray, List.getElem?_cons_zero, List.getElem?_cons_succ]
              refine wpSegs_some fun KK hKK => ?_
              repeat go_big_quiet_step (fail)
              refine wpQuiet_nil ?_
              clear hs1 hs2
              go_wp2_with fail
              refine (HPR1.out _ HX8.out).mono ?_
              rintro e w9 ⟨rfl, hx9⟩
              have HX9a := Lib.hid hx9
              clear hx9
              go_wp2_with fail
              refine ⟨HX9a.out, hKK _ _ ?_⟩
              clear hKK KK
              refine wpSegs_some fun KK hKK => ?_
              refine wpQuiet_nil ?_
              go_wp2_with fail
              refine (HPR2.out _ (Ext.trans HX8.out HX9a.out)).mono ?_
              rintro e w10 ⟨rfl, hx10⟩
              have HX10 := Lib.hid hx10
              clear hx10
              go_wp2_with fail
              refine ⟨HX10.out, hKK _ _ ?_⟩
              clear hKK KK
              refine wpSegs_none ?_
              repeat go_big_quiet_step (fail)
              refine wpQuiet_nil (wpSegs_nil ?_)
              go_wp2_with fail
              go_ret
              exact ⟨by simp, Ext.trans HX9.out (Ext.trans HX9a.out HX10.out)⟩
        · obtain ⟨g, off, c, rfl, hc, hcb⟩ := HCELL.out hlt
          go_wp2_with fail
          refine (pPut11_any _ (a0 :: R) wr HRA.out (by have := HLA.out; omega) HFA.out).mono ?_
          rintro e w2 ⟨v2, rfl, ho2, hx2⟩
          rw [HPA.out] at ho2 ⊢
          simp only at ho2 ⊢
          obtain ⟨g2, c2, rfl, hc2, hm2⟩ := own_posD ho2 (by rw [x1]; omega)
          have HX2 := Lib.hid hx2
          have HR2 := Lib.hid (show Rd w2 _ (putD (a0 :: R)) from RdV.of_owns ho2)
          rw [x1] at hc2 HR2 ⊢
          clear ho2 hx2 hc
          go_wp2_with fail
          refine (pPut11_any _ ((a0 :: R).map (addK by')) w2 (HRB.out.mono HX2.out) (by rw [List.length_map]; have := HLA.out; omega) HFB.out).mono ?_
          rintro e w3 ⟨v3, rfl, ho3, hx3⟩
          rw [HPB.out] at ho3 ⊢
          simp only at ho3 ⊢
          obtain ⟨g3, c3, rfl, hc3, hm3⟩ := own_posD ho3 (by rw [y1]; omega)
          have HX3 := Lib.hid (Ext.trans HX2.out hx3)
          have HR3 := Lib.hid (show Rd w3 _ (putD ((a0 :: R).map (addK by'))) from RdV.of_owns ho3)
          have HR2a := Lib.hid (HR2.out.mono hx3)
          rw [y1] at hc3 HR3 ⊢
          clear ho3 hx3
          go_wp2_with fail
          refine (pPut11_any _ [a0] w3 ((HA1.out).mono HX3.out) (by show 1 ≤ 100000; decide) HF1.out).mono ?_
          rintro e w4 ⟨v4, rfl, ho4, hx4⟩
          rw [HP1.out] at ho4 ⊢
          simp only at ho4 ⊢
          obtain ⟨g4, c4, rfl, hc4, hm4⟩ := own_posD ho4 (by rw [p1]; omega)
          have HX4 := Lib.hid (Ext.trans HX3.out hx4)
          have HR3b := Lib.hid (HR3.out.mono hx4)
          have HR2b := Lib.hid (HR2a.out.mono hx4)
          rw [p1] at hc4 ⊢
          clear ho4 hx4
          go_wp2_with fail
          refine (pPut11_any _ [addK by' a0] w4 ((HB1.out).mono HX4.out) (by show 1 ≤ 100000; decide) HF2.out).mono ?_
          rintro e w5 ⟨v5, rfl, ho5, hx5⟩
          rw [HP2.out] at ho5 ⊢
          simp only at ho5 ⊢
          obtain ⟨g5, c5, rfl, hc5, hm5⟩ := own_posD ho5 (by rw [q1]; omega)
          have HX5 := Lib.hid (Ext.trans HX4.out hx5)
          have HR3c := Lib.hid (HR3b.out.mono hx5)
          have HR2c := Lib.hid (HR2b.out.mono hx5)
          rw [q1] at hc5 ⊢
          clear ho5 hx5
          obtain ⟨w6, hmk, hz6, hx6⟩ := make_ints w5 n hn5
          have HZ6 := Lib.hid hz6
          have HX6 := Lib.hid hx6
          clear hz6 hx6
          go_wp2_with fail
          clear hmk
          refine (pPut11_any _ (List.replicate n 0) w6 HZ6.out (by rw [List.length_replicate]; omega) HFZ.out).mono ?_
          rintro e w7 ⟨v7, rfl, ho7, hx7⟩
          rw [HPZ.out] at ho7 ⊢
          simp only at ho7 ⊢
          obtain ⟨g7, c7, rfl, hc7, hm7⟩ := own_posD ho7 (by rw [m1]; omega)
          have HX67 := Lib.hid (Ext.trans HX6.out hx7)
          have HX7 := Lib.hid (Ext.trans HX5.out HX67.out)
          have HR3d := Lib.hid (HR3c.out.mono HX67.out)
          have HR2d := Lib.hid (HR2c.out.mono HX67.out)
          rw [m1] at hc7 ⊢
          clear ho7 hx7
          unfold maxLen at hm2 hm3 hm4 hm5 hm7
          have HS2 := Lib.hid (show Rd w7 (.slice (some ⟨g2, E + la, none⟩) S.length (c2 - (E + la))) S from by
            have h := rd_restD HR2d.out (E + la) (by omega)
            rw [x2, show E + la + S.length - (E + la) = S.length by omega] at h
            exact h)
          have HS3 := Lib.hid (show Rd w7 (.slice (some ⟨g3, E + lb, none⟩) S.length (c3 - (E + lb))) S from by
            have h := rd_restD HR3d.out (E + lb) (by omega)
            rw [y2, show E + lb + S.length - (E + lb) = S.length by omega] at h
            exact h)
          obtain ⟨s, hs⟩ : ∃ s, S.length = s := ⟨_, rfl⟩
          have HSZ0 := Lib.hid hs
          rw [hs] at hc2 hc3 HS2 HS3 ⊢
          have hsl : s ≤ 5000 := by have := HSL.out; omega
          clear hs x1 x2 y1 y2 p1 q1 m1 sl
          go_wp2_with fail
          obtain ⟨I, hI⟩ : ∃ I, E + la = I := ⟨_, rfl⟩
          obtain ⟨K, hK⟩ : ∃ K, E + lb = K := ⟨_, rfl⟩
          have e1 : (E : Int) + (1 + (la : Int)) - 1 = (I : Int) := by omega
          have e2 : (E : Int) + (1 + (lb : Int)) - 1 = (K : Int) := by omega
          rw [e1, e2, hI, hK]
          rw [hI] at HS2 hc2
          rw [hK] at HS3 hc3
          have hI0 : I ≤ 18 ∧ K ≤ 18 := by omega
          clear e1 e2 hI hK
          have HPR1 := Lib.hid (fun W (h : Ext wr W) => pRises11_any _ (a0 :: R) W (HRA.out.mono h) (by have := HLA.out; omega) HFA.out)
          have HPR2 := Lib.hid (fun W (h : Ext wr W) => pRises11_any _ ((a0 :: R).map (addK by')) W (HRB.out.mono h) (by rw [List.length_map]; have := HLA.out; omega) HFB.out)
          rw [HRS.out] at HPR2
          generalize risesS (a0 :: R) = rr at HPR1 HPR2
          have hrr : (rr == rr) = true := beq_self_eq_true _
          have hSS : (S == S) = true := beq_self_eq_true _
          have HX8 := Lib.hid (Ext.trans HX7.out (Ext.drew w7))
          have d1 : decide ((I : Int) ≤ (I : Int) + (s : Int)) = true := decide_eq_true (by omega)
          have d2 : decide ((K : Int) ≤ (K : Int) + (s : Int)) = true := decide_eq_true (by omega)
          have HX9 := Lib.hid (Ext.trans HXW.out HX8.out)
          rcases Classical.em (c2 = I) with hcI | hcI
          · obtain rfl : s = 0 := by omega
            obtain rfl : S = [] := List.length_eq_zero_iff.1 HSZ0.out
            subst hcI
            have hs1 := str_later (rd_none (w := w7) (a := some ⟨g2, 0, none⟩) rfl)
            rcases Classical.em (c3 = K) with hcK | hcK
            · subst hcK
              have hs2 := str_later (rd_none (w := w7) (a := some ⟨g3, 0, none⟩) rfl)
              refine wp_region_segs Ext Ext.keeps [([0, 1, 2, 3, 4, 5, 6, 7, 8, 9, 10, 11, 12, 13, 14, 15, 16, 17, 18, 19, 20, 21, 22, 23, 24, 25, 26, 27, 28, 29, 30, 31, 32, 33, 35], some 34), ([], some 36), ([37, 38, 39], none)] (by kernel_rfl) (by kernel_rfl) (fun c a a' w e h => (by exact ⟨e ▸ h.1, h.2⟩)) ?_
              simp only [pickSegs, pickOps, List.map_cons, List.map_nil, Option.map_some, Option.map_none, Option.getD_some, List.getElem?_toArray, List.getElem?_cons_zero, List.getElem?_cons_succ]
              refine wpSegs_some fun KK hKK => ?_
              repeat go_big_quiet_step (fail)
              refine wpQuiet_nil ?_
              clear hs1 hs2
              go_wp2_with fail
              refine (HPR1.out _ HX8.out).mono ?_
              rintro e w9 ⟨rfl, hx9⟩
              have HX9a := Lib.hid hx9
              clear hx9
              go_wp2_with fail
              refine ⟨HX9a.out, hKK _ _ ?_⟩
              clear hKK KK
              refine wpSegs_some fun KK hKK => ?_
              refine wpQuiet_nil ?_
              go_wp2_with fail
              refine (HPR2.out _ (Ext.trans HX8.out HX9a.out)).mono ?_
              rintro e w10 ⟨rfl, hx10⟩
              have HX10 := Lib.hid hx10
              clear hx10
              go_wp2_with fail
              refine ⟨HX10.out, hKK _ _ ?_⟩
              clear hKK KK
              refine wpSegs_none ?_
              repeat go_big_quiet_step (fail)
              refine wpQuiet_nil (wpSegs_nil ?_)
              go_wp2_with fail
              go_ret
              exact ⟨by simp, Ext.trans HX9.out (Ext.trans HX9a.out HX10.out)⟩
            · have hs2 := str_later HS3.out
              refine wp_region_segs Ext Ext.keeps [([0, 1, 2, 3, 4, 5, 6, 7, 8, 9, 10, 11, 12, 13, 14, 15, 16, 17, 18, 19, 20, 21, 22, 23, 24, 25, 26, 27, 28, 29, 30, 31, 32, 33, 35], some 34), ([], some 36), ([37, 38, 39], none)] (by kernel_rfl) (by kernel_rfl) (fun c a a' w e h => (by exact ⟨e ▸ h.1, h.2⟩)) ?_
              simp only [pickSegs, pickOps, List.map_cons, List.map_nil, Option.map_some, Option.map_none, Option.getD_some, List.getElem?_toArray, List.getElem?_cons_zero, List.getElem?_cons_succ]
              refine wpSegs_some fun KK hKK => ?_
              repeat go_big_quiet_step (fail)
              refine wpQuiet_nil ?_
              clear hs1 hs2
              go_wp2_with fail
              refine (HPR1.out _ HX8.out).mono ?_
              rintro e w9 ⟨rfl, hx9⟩
              have HX9a := Lib.hid hx9
              clear hx9
              go_wp2_with fail
              refine ⟨HX9a.out, hKK _ _ ?_⟩
              clear hKK KK
              refine wpSegs_some fun KK hKK => ?_
              refine wpQuiet_nil ?_
              go_wp2_with fail
              refine (HPR2.out _ (Ext.trans HX8.out HX9a.out)).mono ?_
              rintro e w10 ⟨rfl, hx10⟩
              have HX10 := Lib.hid hx10
              clear hx10
              go_wp2_with fail
              refine ⟨HX10.out, hKK _ _ ?_⟩
              clear hKK KK
              refine wpSegs_none ?_
              repeat go_big_quiet_step (fail)
              refine wpQuiet_nil (wpSegs_nil ?_)
              go_wp2_with fail
              go_ret
              exact ⟨by simp, Ext.trans HX9.out (Ext.trans HX9a.out HX10.out)⟩
          · have hs1 := str_later HS2.out
            rcases Classical.em (c3 = K) with hcK | hcK
            · obtain rfl : s = 0 := by omega
              obtain rfl : S = [] := List.length_eq_zero_iff.1 HSZ0.out
              subst hcK
              have hs2 := str_later (rd_none (w := w7) (a := some ⟨g3, 0, none⟩) rfl)
              refine wp_region_segs Ext Ext.keeps [([0, 1, 2, 3, 4, 5, 6, 7, 8, 9, 10, 11, 12, 13, 14, 15, 16, 17, 18, 19, 20, 21, 22, 23, 24, 25, 26, 27, 28, 29, 30, 31, 32, 33, 35], some 34), ([], some 36), ([37, 38, 39], none)] (by kernel_rfl) (by kernel_rfl) (fun c a a' w e h => (by exact ⟨e ▸ h.1, h.2⟩)) ?_
              simp only [pickSegs, pickOps, List.map_cons, List.map_nil, Option.map_some, Option.map_none, Option.getD_some, List.getElem?_toArray, List.getElem?_cons_zero, List.getElem?_cons_succ]
              refine wpSegs_some fun KK hKK => ?_
              repeat go_big_quiet_step (fail)
              refine wpQuiet_nil ?_
              clear hs1 hs2
              go_wp2_with fail
              refine (HPR1.out _ HX8.out).mono ?_
              rintro e w9 ⟨rfl, hx9⟩
              have HX9a := Lib.hid hx9
              clear hx9
              go_wp2_with fail
              refine ⟨HX9a.out, hKK _ _ ?_⟩
              clear hKK KK
              refine wpSegs_some fun KK hKK => ?_
              refine wpQuiet_nil ?_
              go_wp2_with fail
              refine (HPR2.out _ (Ext.trans HX8.out HX9a.out)).mono ?_
              rintro e w10 ⟨rfl, hx10⟩
              have HX10 := Lib.hid hx10
              clear hx10
              go_wp2_with fail
              refine ⟨HX10.out, hKK _ _ ?_⟩
              clear hKK KK
              refine wpSegs_none ?_
              repeat go_big_quiet_step (fail)
              refine wpQuiet_nil (wpSegs_nil ?_)
              go_wp2_with fail
              go_ret
              exact ⟨by simp, Ext.trans HX9.out (Ext.trans HX9a.out HX10.out)⟩
            · have hs2 := str_later HS3.out
              refine wp_region_segs Ext Ext.keeps [([0, 1, 2, 3, 4, 5, 6, 7, 8, 9, 10, 11, 12, 13, 14, 15, 16, 17, 18, 19, 20, 21, 22, 23, 24, 25, 26, 27, 28, 29, 30, 31, 32, 33, 35], some 34), ([], some 36), ([37, 38, 39], none)] (by kernel_rfl) (by kernel_rfl) (fun c a a' w e h => (by exact ⟨e ▸ h.1, h.2⟩)) ?_
              simp only [pickSegs, pickOps, List.map_cons, List.map_nil, Option.map_some, Option.map_none, Option.getD_some, List.getElem?_toArray, List.getElem?_cons_zero, List.getElem?_cons_succ]
              refine wpSegs_some fun KK hKK => ?_
              repeat go_big_quiet_step (fail)
              refine wpQuiet_nil ?_
              clear hs1 hs2
              go_wp2_with fail
              refine (HPR1.out _ HX8.out).mono ?_
              rintro e w9 ⟨rfl, hx9⟩
              have HX9a := Lib.hid hx9
              clear hx9
              go_wp2_with fail
              refine ⟨HX9a.out, hKK _ _ ?_⟩
              clear hKK KK
              refine wpSegs_some fun KK hKK => ?_
              refine wpQuiet_nil ?_
              go_wp2_with fail
              refine (HPR2.out _ (Ext.trans HX8.out HX9a.out)).mono ?_
              rintro e w10 ⟨rfl, hx10⟩
              have HX10 := Lib.hid hx10
              clear hx10
              go_wp2_with fail
              refine ⟨HX10.out, hKK _ _ ?_⟩
              clear hKK KK
              refine wpSegs_none ?_
              repeat go_big_quiet_step (fail)
              refine wpQuiet_nil (wpSegs_nil ?_)
              go_wp2_with fail
              go_ret
              exact ⟨by simp, Ext.trans HX9.out (Ext.trans HX9a.out HX10.out)⟩

end Go.Proofs.Ytepbdlmpknegiaa
