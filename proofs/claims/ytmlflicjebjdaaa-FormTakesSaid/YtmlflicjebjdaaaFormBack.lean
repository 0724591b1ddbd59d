/-
  The walk of the law FormBack.
-/
import Derived.Test.YtmlflicjebjdaaaShown
import Derived.Test.YtmlflicjebjdaaaFormOnly
import Derived.Lib.Strings
import Derived.OpenShut
namespace Go.Proofs.Ytmlflicjebjdaaa
open Go.RowKit Go.BigFrame Go.ChangeShapes

def un (n : Int) : Nat := (IntKind.u64.wrap n).toNat
theorem un_eq (n : Int) : ((un n : Nat) : Int) = IntKind.u64.wrap n := by
  unfold un
  rw [Int.toNat_of_nonneg]
  rw [IntKind.wrap_u64]
  omega
theorem un_lt (n : Int) : un n ≤ 18446744073709551615 := by
  have := un_eq n
  rw [IntKind.wrap_u64] at this
  omega
theorem zig_lt (n : Int) (h0 : -9223372036854775808 ≤ n) (h1 : n ≤ 9223372036854775807) : zig n ≤ 18446744073709551615 := by unfold zig; split <;> omega

/-- What is laid of a number. -/
def num2 (n : Int) : List UInt8 := enc (zig n) ++ enc (un n)
def nums (zs : List Int) : List UInt8 := zs.flatMap num2
/-- The text that is laid: its first 1,024 bytes. -/
def cutS (s : ByteArray) : ByteArray := s.extract 0 (min (s.size : Int) 1024).toNat
def txt (s : ByteArray) : List UInt8 := enc (cutS s).size ++ (cutS s).data.toList
def txts (ss : List ByteArray) : List UInt8 := ss.flatMap txt

theorem cutS_size (s : ByteArray) : (cutS s).size ≤ 1024 := by
  unfold cutS
  rw [ByteArray.size_extract]
  omega
theorem data_size (s : ByteArray) : s.data.toList.length = s.size := Array.length_toList
theorem num2_len (n : Int) : (num2 n).length ≤ 18 := by
  have h1 := enc_length (zig n)
  have h2 := enc_length (un n)
  rw [num2, List.length_append]
  omega
theorem txt_len (s : ByteArray) : (txt s).length ≤ 1033 := by
  have h1 := enc_length (cutS s).size
  have h2 := cutS_size s
  rw [txt, List.length_append, data_size]
  omega
theorem nums_len (zs : List Int) : (nums zs).length ≤ 18 * zs.length := by
  induction zs with
  | nil => simp [nums]
  | cons n zs ih =>
    have := num2_len n
    simp only [nums, List.flatMap_cons, List.length_append, List.length_cons] at *
    omega
theorem txts_len (ss : List ByteArray) : (txts ss).length ≤ 1033 * ss.length := by
  induction ss with
  | nil => simp [txts]
  | cons n zs ih =>
    have := txt_len n
    simp only [txts, List.flatMap_cons, List.length_append, List.length_cons] at *
    omega

/-- A slice as its cells, nil or not. -/
theorem RdV.cellsAt {w : World} {v : Value} {xs : List Value} (h : RdV w v xs) :
    ∃ ao cap, v = .slice ao xs.length cap ∧ xs.length ≤ cap ∧ cap ≤ maxLen ∧ ∀ i u, xs[i]? = some u → ∃ x, ao = some x ∧ w.cell? (x.add i) = some u := by
  rcases h with ⟨rfl, rfl⟩ | ⟨x, cap, rfl, h2, h3, h4⟩
  · exact ⟨none, 0, rfl, Nat.le_refl _, by simp [maxLen], fun i u hu => by simp at hu⟩
  · exact ⟨some x, cap, rfl, h2, h3, fun i u hu => ⟨x, rfl, h4 i u hu⟩⟩

theorem nums_snoc (zs : List Int) (k : Nat) (h : k < zs.length) : nums (zs.take (k + 1)) = nums (zs.take k) ++ enc (zig zs[k]) ++ enc (un zs[k]) := by
  rw [List.take_succ_eq_append_getElem h]
  simp only [nums, List.flatMap_append, List.flatMap_cons, List.flatMap_nil, List.append_nil, num2, List.append_assoc]
theorem txts_snoc (ss : List ByteArray) (k : Nat) (h : k < ss.length) : txts (ss.take (k + 1)) = txts (ss.take k) ++ enc (cutS ss[k]).size ++ (cutS ss[k]).data.toList := by
  rw [List.take_succ_eq_append_getElem h]
  simp only [txts, List.flatMap_append, List.flatMap_cons, List.flatMap_nil, List.append_nil, txt, List.append_assoc]

theorem nums_step (zs : List Int) (k m : Nat) (hk : k ≤ zs.length) (h : m < k) : nums ((zs.take k).drop m) = enc (zig (zs[m]'(by omega))) ++ (enc (un (zs[m]'(by omega))) ++ nums ((zs.take k).drop (m + 1))) := by
  rw [List.drop_eq_getElem_cons (by rw [List.length_take]; omega), List.getElem_take]
  simp only [nums, List.flatMap_cons, num2, List.append_assoc]
theorem txts_step (ss : List ByteArray) (k m : Nat) (hk : k ≤ ss.length) (h : m < k) : txts ((ss.take k).drop m) = enc (cutS (ss[m]'(by omega))).size ++ ((cutS (ss[m]'(by omega))).data.toList ++ txts ((ss.take k).drop (m + 1))) := by
  rw [List.drop_eq_getElem_cons (by rw [List.length_take]; omega), List.getElem_take]
  simp only [txts, List.flatMap_cons, txt, List.append_assoc]

theorem cut_same (s : ByteArray) : ((⟨(cutS s).data.toList.toArray⟩ : ByteArray).toList == (s.extract 0 (min (s.size : Int) 1024).toNat).toList) = true := by
  rw [beq_iff_eq, Lib.toList_data, Lib.toList_data]
  rfl

theorem Rdr.weaken {T : TypeId} {B B' b : Nat} {w : World} {l : List UInt8} {bad : Bool} (h : RdrT T B w b l bad) (hB : B' ≤ B) : RdrT T B' w b l bad := by
  obtain ⟨v, h1, h2, h3⟩ := h
  exact ⟨v, h1, h2, fun k hk => Nat.le_trans hB (h3 k hk)⟩

set_option maxRecDepth 100000 in
set_option maxHeartbeats 4000000 in
theorem formBack_cells (ao bo : Option Addr) (zs : List Int) (ss : List ByteArray) (L M capA capB : Nat) (w : World) (hL : L = zs.length) (hM : M = ss.length) (hA : L ≤ capA) (_hA2 : capA ≤ 9223372036854775807) (hB : M ≤ capB) (_hB2 : capB ≤ 9223372036854775807)
    (ca : ∀ i u, (zs.map (Value.int .i64))[i]? = some u → ∃ x, ao = some x ∧ w.cell? (x.add i) = some u) (fa : ∀ n ∈ zs, (Lit.int .i64 n).wf = true)
    (cb : ∀ i u, (ss.map Value.string)[i]? = some u → ∃ x, bo = some x ∧ w.cell? (x.add i) = some u) (fb : ∀ s ∈ ss, s.size ≤ maxLen) :
    Calls Try.prog 5 #[.slice ao L capA, .slice bo M capB] w fun e w' => e = .returned (.bool true) ∧ Below w.heap.size w w' := by
  have CA := Lib.hid ca
  have CB := Lib.hid cb
  have FA := Lib.hid fa
  have FB := Lib.hid fb
  have HL := Lib.hid hL
  have HM := Lib.hid hM
  have hsl : ∀ a h m s, sliced a 0 h m s = .slice a h m := fun a h m s => by
    unfold sliced
    cases a <;> simp [add_zero]
  clear ca cb fa fb hL hM
  go_enter Try.func5, Try.ntmps5
  go_wp2_with fail
  refine (shown_any _).mono ?_
  rintro e w1 ⟨rfl, hb1⟩
  have H1 := Lib.hid hb1
  clear hb1
  go_wp2_with fail
  obtain ⟨X, hX⟩ : ∃ X : Nat, X = min L 200 := ⟨_, rfl⟩
  rw [show (min (L : Int) 200) = (X : Int) by omega, Int.toNat_natCast, show max (X : Int) 0 = (X : Int) by omega]
  have hX2 : X ≤ 200 := by omega
  have HX := Lib.hid (show X = min zs.length 200 by rw [hX, HL.out])
  clear hX
  go_loopw [6, 26] (fun v i wr => ∃ k : Nat, k ≤ X ∧ i = .int .i64 k ∧ Rd wr v (nums (zs.take k)) ∧ Below w.heap.size w wr) (fun _ i _ => X - (intOf i).toNat)
  case atStart => exact ⟨0, Nat.zero_le _, rfl, Rd.nil _, H1.out⟩
  case round =>
    obtain ⟨k, hk, rfl, hrd, hbel⟩ := hrel
    have HRD := Lib.hid hrd
    have HBE := Lib.hid hbel
    clear hrd hbel
    by_cases hlt : k < X
    · have hkz : k < zs.length := by have := HX.out; omega
      obtain ⟨x, hx, hc⟩ := CA.out k (.int .i64 zs[k]) (by rw [List.getElem?_map, List.getElem?_eq_getElem hkz]; rfl)
      obtain ⟨hn0, hn1⟩ := bounds_i64 (FA.out zs[k] (List.getElem_mem hkz))
      have htk : nums (zs.take (k + 1)) = nums (zs.take k) ++ enc (zig zs[k]) ++ enc (un zs[k]) := nums_snoc zs k hkz
      have HTK := Lib.hid htk
      have hun := un_eq zs[k]
      generalize zs[k] = n at *
      have hc2 := (HBE.out.cell (lt_of_cell hc)).trans hc
      have HUN := Lib.hid hun
      have hlen := nums_len (zs.take k)
      rw [List.length_take] at hlen
      subst hx
      clear hc hun htk
      go_wp2_with fail
      refine (Int_any _ _ n _ HRD.out (by omega) hn0 hn1).mono ?_
      rintro e w2 ⟨v2, rfl, hown2, hb2⟩
      have HR2 := Lib.hid (show Rd w2 v2 _ from RdV.of_owns hown2)
      have HB2 := Lib.hid hb2
      have hl2 : (nums (zs.take k) ++ enc (zig n)).length + 9 ≤ 140737488355328 := by
        have := enc_length (zig n)
        rw [List.length_append]
        omega
      clear hown2 hb2
      go_wp2_with fail
      rw [← HUN.out]
      refine (Num_any _ _ (un n) _ HR2.out hl2 (un_lt n)).mono ?_
      rintro e w3 ⟨v3, rfl, hown3, hb3⟩
      have HR3 := Lib.hid (show Rd w3 v3 _ from RdV.of_owns hown3)
      have HB3 := Lib.hid (Below.trans HBE.out ((HB2.out.trans (hb3.mono HB2.out.size)).mono HBE.out.size))
      clear hown3 hb3 hl2
      go_wp2_with fail
      go_roundw
      case rel => exact ⟨k + 1, by omega, by go_num, by rw [HTK.out]; exact HR3.out, HB3.out⟩
      case measure => simp [intOf]; omega
    · have hkX : k = X := by omega
      subst hkX
      go_wp2_with fail
      obtain ⟨Y, hY⟩ : ∃ Y : Nat, Y = min M 50 := ⟨_, rfl⟩
      rw [show (min (M : Int) 50) = (Y : Int) by omega, Int.toNat_natCast, show max (Y : Int) 0 = (Y : Int) by omega]
      have hY2 : Y ≤ 50 := by omega
      have HY := Lib.hid (show Y = min ss.length 50 by rw [hY, HM.out])
      clear hY
      have hlenX := nums_len (zs.take k)
      rw [List.length_take] at hlenX
      obtain ⟨N, hN⟩ : ∃ N, N = nums (zs.take k) := ⟨_, rfl⟩
      rw [← hN] at hlenX HRD
      have HN := Lib.hid hN
      clear hN
      go_loopw [6, 12, 44] (fun v _ i wr => ∃ j : Nat, j ≤ Y ∧ i = .int .i64 j ∧ Rd wr v (N ++ txts (ss.take j)) ∧ Below w.heap.size w wr) (fun _ _ i _ => Y - (intOf i).toNat)
      case atStart => exact ⟨0, Nat.zero_le _, rfl, by simpa [txts] using HRD.out, HBE.out⟩
      case round =>
        obtain ⟨j, hj, rfl, hrd, hbel⟩ := hrel
        have HRD2 := Lib.hid hrd
        have HBE2 := Lib.hid hbel
        clear hrd hbel
        by_cases hltY : j < Y
        · have hjz : j < ss.length := by have := HY.out; omega
          obtain ⟨x, hx, hc⟩ := CB.out j (.string ss[j]) (by rw [List.getElem?_map, List.getElem?_eq_getElem hjz]; rfl)
          have hsz := FB.out ss[j] (List.getElem_mem hjz)
          have htk : txts (ss.take (j + 1)) = txts (ss.take j) ++ enc (cutS ss[j]).size ++ (cutS ss[j]).data.toList := txts_snoc ss j hjz
          have HTK := Lib.hid htk
          have hcut : cutS ss[j] = (ss[j]).extract 0 (min ((ss[j]).size : Int) 1024).toNat := rfl
          have hcs := cutS_size ss[j]
          generalize ss[j] = s at *
          have hc2 := (HBE2.out.cell (lt_of_cell hc)).trans hc
          have HCUT := Lib.hid hcut
          have hlen := txts_len (ss.take j)
          rw [List.length_take] at hlen
          have hlt2 : (N ++ txts (ss.take j)).length + 9 + (cutS s).size ≤ 140737488355328 := by rw [List.length_append]; omega
          have HLT := Lib.hid hlt2
          subst hx
          unfold maxLen at hsz
          clear hc hcut htk hlt2 hcs
          go_wp2_with fail
          rw [← HCUT.out]
          refine (Text_any _ _ (cutS s) _ HRD2.out HLT.out).mono ?_
          rintro e w2 ⟨v2, rfl, hown2, hb2⟩
          have HR2 := Lib.hid (show Rd w2 v2 _ from RdV.of_owns hown2)
          have HB2 := Lib.hid (Below.trans HBE2.out (hb2.mono HBE2.out.size))
          clear hown2 hb2
          go_wp2_with fail
          go_roundw
          case rel => exact ⟨j + 1, by omega, by go_num, by rw [HTK.out, ← List.append_assoc, ← List.append_assoc]; exact HR2.out, HB2.out⟩
          case measure => simp [intOf]; omega
        · have hjY : j = Y := by omega
          subst hjY
          have hlenY := txts_len (ss.take j)
          rw [List.length_take] at hlenY
          go_wp2_with fail
          refine (New_any _ _ _ HRD2.out (by rw [List.length_append]; omega)).mono ?_
          rintro e w4 ⟨b, rfl, hb, hr4, hbel4⟩
          have HR4 := Lib.hid (Rdr.weaken hr4 HBE2.out.size)
          have HB4 := Lib.hid (Below.trans HBE2.out (hbel4.mono HBE2.out.size))
          have hbw : w.heap.size ≤ b := Nat.le_trans HBE2.out.size hb
          clear hr4 hbel4
          go_wp2_with fail
          obtain ⟨T, hT⟩ : ∃ T, T = txts (ss.take j) := ⟨_, rfl⟩
          rw [← hT, HN.out] at HR4
          have HT := Lib.hid hT
          clear hT hlenY hlenX
          go_loopw [15, 60] (fun _ i wr => ∃ m : Nat, m ≤ k ∧ i = .int .i64 m ∧ Rdr w.heap.size wr b (nums ((zs.take k).drop m) ++ T) false ∧ Below w.heap.size w wr) (fun _ i _ => k - (intOf i).toNat)
          case atStart => exact ⟨0, Nat.zero_le _, rfl, HR4.out, HB4.out⟩
          case round =>
            obtain ⟨m, hm, rfl, hrd, hbel⟩ := hrel
            have HRD3 := Lib.hid hrd
            have HBE3 := Lib.hid hbel
            clear hrd hbel
            by_cases hltm : m < k
            · have hmz : m < zs.length := by have := HX.out; omega
              obtain ⟨x, hx, hc⟩ := CA.out m (.int .i64 zs[m]) (by rw [List.getElem?_map, List.getElem?_eq_getElem hmz]; rfl)
              obtain ⟨hn0, hn1⟩ := bounds_i64 (FA.out zs[m] (List.getElem_mem hmz))
              have hst : nums ((zs.take k).drop m) = enc (zig zs[m]) ++ (enc (un zs[m]) ++ nums ((zs.take k).drop (m + 1))) := nums_step zs k m (by have := HX.out; omega) hltm
              have hun := un_eq zs[m]
              generalize zs[m] = n at *
              have hzz := zag_zig n hn0 hn1
              have hc2 := (HBE3.out.cell (lt_of_cell hc)).trans hc
              have hr1 := HRD3.out
              rw [hst, List.append_assoc, List.append_assoc] at hr1
              have HR1 := Lib.hid hr1
              have HUN := Lib.hid hun
              have HZZ := Lib.hid hzz
              have hne : (n != n) = false := by simp
              have hz64 := zig_lt n hn0 hn1
              have hu64 := un_lt n
              subst hx
              clear hc hun hst hzz hr1
              go_wp2_with fail
              refine (RInt_yes _ b _ (zig n) _ _ HR1.out (front_enc _ _ (by omega)) (by have := enc_pos (zig n); omega)).mono ?_
              rintro e w5 ⟨rfl, hr5, ho5⟩
              rw [List.drop_left] at hr5
              have HR5 := Lib.hid hr5
              have HO5 := Lib.hid ho5
              clear hr5 ho5
              rw [HZZ.out]
              go_wp2_with fail
              refine (RNum_yes _ b _ (un n) _ _ HR5.out (front_enc _ _ (by omega)) (by have := enc_pos (un n); omega)).mono ?_
              rintro e w6 ⟨rfl, hr6, ho6⟩
              rw [List.drop_left] at hr6
              have HR6 := Lib.hid hr6
              have HB6 := Lib.hid ((HBE3.out.trans (HO5.out.below hbw HBE3.out.size)).trans (ho6.below hbw (Nat.le_trans HBE3.out.size HO5.out.size)))
              clear hr6 ho6
              have hne2 : ((un n : Int) != IntKind.u64.wrap n) = false := by rw [HUN.out]; simp
              go_wp2_with fail
              go_roundw
              case rel => exact ⟨m + 1, by omega, by go_num, HR6.out, HB6.out⟩
              case measure => simp [intOf]; omega
            · have hmk : m = k := by omega
              subst hmk
              have hr7 := HRD3.out
              rw [List.drop_of_length_le (by rw [List.length_take]; omega), show nums [] = [] from rfl, List.nil_append, HT.out] at hr7
              have HR7 := Lib.hid hr7
              clear hr7
              go_wp2_with fail
              go_loopw [17, 78] (fun _ i wr => ∃ q : Nat, q ≤ j ∧ i = .int .i64 q ∧ Rdr w.heap.size wr b (txts ((ss.take j).drop q)) false ∧ Below w.heap.size w wr) (fun _ i _ => j - (intOf i).toNat)
              case atStart => exact ⟨0, Nat.zero_le _, rfl, HR7.out, HBE3.out⟩
              case round =>
                obtain ⟨q, hq, rfl, hrd, hbel⟩ := hrel
                have HRD4 := Lib.hid hrd
                have HBE4 := Lib.hid hbel
                clear hrd hbel
                by_cases hltq : q < j
                · have hqz : q < ss.length := by have := HY.out; omega
                  obtain ⟨x, hx, hc⟩ := CB.out q (.string ss[q]) (by rw [List.getElem?_map, List.getElem?_eq_getElem hqz]; rfl)
                  have hsz := FB.out ss[q] (List.getElem_mem hqz)
                  have hst := txts_step ss j q (by have := HY.out; omega) hltq
                  have hcut : cutS ss[q] = (ss[q]).extract 0 (min ((ss[q]).size : Int) 1024).toNat := rfl
                  have hcs := cutS_size ss[q]
                  generalize ss[q] = s at *
                  have hc2 := (HBE4.out.cell (lt_of_cell hc)).trans hc
                  have hr1 := HRD4.out
                  rw [hst] at hr1
                  have HR1 := Lib.hid hr1
                  have HCUT := Lib.hid hcut
                  subst hx
                  unfold maxLen at hsz
                  clear hc hcut hst hr1
                  go_wp2_with fail
                  refine wp_region_segs Free Free.keeps [([0, 2, 3, 4, 5, 6], some 1), ([7], none)] (by kernel_rfl) (by kernel_rfl) (fun c a a' w e h => (by exact ⟨e ▸ h.1, h.2⟩)) ?_
                  simp only [pickSegs, pickOps, List.map_cons, List.map_nil, Option.map_some, Option.map_none, Option.getD_some, List.getElem?_toArray, List.getElem?_cons_zero, List.getElem?_cons_succ]
                  refine wpSegs_some fun K hK => ?_
                  repeat go_big_quiet_step (fail)
                  refine wpQuiet_nil ?_
                  go_wp2_with fail
                  refine (RText_yes _ b _ _ _ _ _ (Rdr.mono HR1.out (Ext.drew _)) (front_enc _ _ (by omega)) (by have := enc_pos (cutS s).size; omega) rfl hcs (by rw [List.drop_left, List.length_append, data_size]; omega)).mono ?_
                  rintro e w5 ⟨rfl, hr5, ho5⟩
                  rw [List.drop_left] at hr5 ⊢
                  have hl5 := data_size (cutS s)
                  rw [← hl5] at hr5 ⊢
                  rw [List.drop_left] at hr5
                  rw [List.take_left]
                  have HR5 := Lib.hid hr5
                  have HB5 := Lib.hid (HBE4.out.drew.trans (ho5.below hbw HBE4.out.size))
                  clear hr5 ho5
                  go_wp2_with fail
                  refine ⟨trivial, hK _ _ ?_⟩
                  clear hK K
                  have heq := cut_same s
                  refine wpSegs_none ?_
                  repeat go_big_quiet_step (fail)
                  refine wpQuiet_nil ?_
                  refine wpSegs_nil ?_
                  go_wp2_with fail
                  go_roundw
                  case rel => exact ⟨q + 1, by omega, by go_num, HR5.out, HB5.out⟩
                  case measure => simp [intOf]; omega
                · have hqj : q = j := by omega
                  subst hqj
                  have hr8 := HRD4.out
                  rw [List.drop_of_length_le (by rw [List.length_take]; omega), show txts [] = [] from rfl] at hr8
                  have HR8 := Lib.hid hr8
                  clear hr8
                  go_wp2_with fail
                  refine (Bad_any _ b _ false _ HR8.out).mono ?_
                  rintro e w7 ⟨rfl, rfl⟩
                  go_wp2_with fail
                  refine (Left_any _ b _ _ HR8.out).mono ?_
                  rintro e w7 ⟨rfl, rfl⟩
                  go_wp2_with fail
                  refine (End_any _ b _ _ HR8.out).mono ?_
                  rintro e w7 ⟨rfl, rfl⟩
                  rw [List.length_nil, if_pos rfl]
                  go_wp2_with fail
                  go_ret
                  exact ⟨rfl, HBE4.out⟩

theorem formBack_walk (v : Value) (zs : List Int) (u : Value) (ss : List ByteArray) (w : World) (hr : RdV w v (zs.map (Value.int .i64))) (fa : ∀ n ∈ zs, (Lit.int .i64 n).wf = true)
    (hu : RdV w u (ss.map Value.string)) (fb : ∀ s ∈ ss, s.size ≤ maxLen) :
    Calls Try.prog 5 #[v, u] w fun e w' => e = .returned (.bool true) ∧ Below w.heap.size w w' := by
  obtain ⟨ao, capA, rfl, hA, hA2, ca⟩ := hr.cellsAt
  obtain ⟨bo, capB, rfl, hB, hB2, cb⟩ := hu.cellsAt
  unfold maxLen at hA2 hB2
  exact formBack_cells ao bo zs ss _ _ capA capB w (by rw [List.length_map]) (by rw [List.length_map]) hA (by omega) hB (by omega) ca fa cb fb

end Go.Proofs.Ytmlflicjebjdaaa
