/-
  Texts of this proof, merged.
-/
import Derived.Lib.Strings
import Derived.Lib.AppendZeros
import Derived.Laws.CopyOwn
import Derived.Deep.MidRow
import Derived.Test.YtaoegcakefodaaaGreatZ1
namespace Go.Proofs.YtaoegcakefodaaaGreat
open Go.RowKit
set_option maxRecDepth 100000 in
set_option maxHeartbeats 1000000 in
theorem More_cells (s : BitVec 32) (ao : Option Addr) (l : List UInt8) (L cap : Nat) (w : World) (hL : L = l.length) (_h1 : L ≤ cap) (_h2 : cap ≤ 9223372036854775807)
    (ca : ∀ i u, (l.map bv)[i]? = some u → ∃ x, ao = some x ∧ w.cell? (x.add i) = some u) :
    Calls Tryz.prog 115 #[.int .u32 s.toNat, .slice ao L cap] w fun e w' => e = .returned (.int .u32 (more s l).toNat) ∧ Ext w w' := by
  have CA := Lib.hid ca
  have HL := Lib.hid hL
  clear ca hL
  by_cases h0 : L = 0
  · have hl0 : l = [] := List.length_eq_zero_iff.1 (by rw [← HL.out, h0])
    subst hl0
    subst h0
    go_enter Tryz.func115, Tryz.ntmps115
    go_wp2_with fail
    go_ret
    exact ⟨rfl, Below.refl _ _⟩
  · obtain ⟨n, hn⟩ : ∃ n, n = s.toNat := ⟨_, rfl⟩
    have HN := Lib.hid hn
    rw [← hn]
    have hL0 : ((L : Int) == 0) = false := by rw [beq_eq_false_iff_ne]; omega
    clear hn
    go_enter Tryz.func115, Tryz.ntmps115
    go_wp2_with fail
    refine (stepper_any _).mono ?_
    rintro e w1 ⟨⟨fv, rfl, g, cur, rfl, hg, hsz, hcs⟩, hb⟩
    have HG := Lib.hid hg
    have HSZ := Lib.hid hsz
    have HCS := Lib.hid hcs
    have HB := Lib.hid hb
    clear hg hsz hcs hb
    go_wp2_with fail
    go_loopw [0, 15] (fun m i wr => ∃ j : Nat, j ≤ L ∧ i = .int .i64 j ∧ m = .int .u32 (more s (l.take j)).toNat ∧ w1 = wr) (fun _ i _ => L - (intOf i).toNat)
    case atStart => exact ⟨0, Nat.zero_le _, rfl, by rw [List.take_zero, more_nil, HN.out], rfl⟩
    case round =>
      obtain ⟨j, hj, rfl, rfl, rfl⟩ := hrel
      by_cases hlt : j < L
      · have hjl : j < l.length := by have := HL.out; omega
        obtain ⟨x, rfl, hc⟩ := CA.out j (bv l[j]) (by rw [List.getElem?_map, List.getElem?_eq_getElem hjl]; rfl)
        have HST := Lib.hid (more_step s l j hjl)
        have hc : w1.cell? (x.add j) = some (bv l[j]) := by rw [HB.out.cell (lt_of_cell hc)]; exact hc
        unfold bv at hc
        have HNX := Lib.hid (next_any g cur (more s (l.take j)) l[j] w1 HG.out HSZ.out HCS.out)
        generalize l[j] = c at hc HST HNX
        generalize more s (l.take j) = S at HST HNX ⊢
        obtain ⟨C, hC⟩ : ∃ C, C = c.toNat := ⟨_, rfl⟩
        rw [← hC] at hc HNX
        obtain ⟨m, hm⟩ : ∃ m, m = S.toNat := ⟨_, rfl⟩
        rw [← hm] at HNX ⊢
        clear hC hm
        go_wp2_with fail
        refine HNX.out.mono ?_
        rintro e w2 ⟨rfl, rfl⟩
        go_wp2_with fail
        go_roundw
        case rel =>
          refine ⟨j + 1, by omega, by go_num, ?_, trivial⟩
          rw [HST.out]
        case measure => simp [intOf]; omega
      · have hjL : l.take j = l := List.take_of_length_le (by have := HL.out; omega)
        rw [hjL]
        go_wp2_with fail
        go_ret
        exact ⟨rfl, HB.out⟩
theorem More_any (s : BitVec 32) (v : Value) (l : List UInt8) (w : World) (hr : Rd w v l) :
    Calls Tryz.prog 115 #[.int .u32 s.toNat, v] w fun e w' => e = .returned (.int .u32 (more s l).toNat) ∧ Ext w w' := by
  obtain ⟨ao, cap, rfl, h1, h2, ca⟩ := RdV.cellsAt hr
  unfold maxLen at h2
  exact More_cells s ao l _ cap w (by rw [List.length_map]) h1 (by omega) ca
theorem Of_any (v : Value) (l : List UInt8) (w : World) (hr : Rd w v l) :
    Calls Tryz.prog 93 #[v] w fun e w' => e = .returned (.int .u32 (sumOf l).toNat) ∧ Ext w w' := by
  have HM := Lib.hid (More_any 0xFFFFFFFF#32 v l w hr)
  go_enter Tryz.func93, Tryz.ntmps93
  go_wp2_with fail
  refine HM.out.mono ?_
  rintro e w1 ⟨rfl, hb⟩
  have HB := Lib.hid hb
  clear hb
  go_wp2_with fail
  go_ret
  exact ⟨rfl, HB.out⟩
def arr4 (s : BitVec 32) : Value := .agg ((be4 s).map bv).toArray
set_option maxRecDepth 100000 in
set_option maxHeartbeats 1000000 in
theorem inBytes_any (s : BitVec 32) (w : World) :
    Calls Tryz.prog 92 #[.int .u32 s.toNat] w fun e w' => e = .returned (arr4 s) ∧ Ext w w' := by
  have hs := s.isLt
  have HV := Lib.hid (be4_values s)
  obtain ⟨A, hA⟩ : ∃ A, A = arr4 s := ⟨_, rfl⟩
  have HA := Lib.hid hA
  rw [← hA]
  generalize s.toNat = n at hs HV ⊢
  clear hA
  go_enter Tryz.func92, Tryz.ntmps92
  go_wp2_with fail
  refine bodyPost_ret (v := A) ?_ rfl ⟨rfl, (Below.refl _ w).alloc (Nat.le_refl _) _⟩
  rw [HA.out]
  unfold arr4
  rw [HV.out]
  exact results_cell_row (P := Tryz.prog) (fn := Tryz.f92) rfl _ _ w.heap.size 132 _ (0, 0) _ rfl (heap_alloc_new _ _) Tryz.underlying132 rfl (by kernel_rfl)
end Go.Proofs.YtaoegcakefodaaaGreat

namespace Go.Proofs.YtaoegcakefodaaaGreat
open Go.RowKit
set_option maxRecDepth 100000 in
set_option maxHeartbeats 400000 in
theorem Clone_any (v : Value) (l : List UInt8) (w : World) (hr : Rd w v l) (hl : l.length ≤ 140737488355328) :
    Calls Tryz.prog 56 #[v] w (Fresh 5 w (l.map bv)) := by
  obtain ⟨i0, hi, hz0, hz1, hz2⟩ := info_parts Tryz.info5
  have HB := Lib.hid (bv_oneCell l)
  have HLM := Lib.hid (show (l.map bv).length = l.length from List.length_map _)
  rcases hr with ⟨rfl, h1⟩ | ⟨x, cap, rfl, h2, h3, h4⟩
  · have HN := Lib.hid h1
    have hq : ∀ w, (binOp BinOp.eql 36 (.slice none 0 0) (.slice none 0 0)).run Tryz.prog w = .ok (.bool true) w := fun w => Lib.run_eql_slice_nil w _ _ none 0 0 0 0 Tryz.underlying36
    clear h1
    go_enter Tryz.func56, Tryz.ntmps56
    go_wp2_with fail
    go_ret
    rw [HN.out]
    exact ⟨_, rfl, World.ownsRow_nil _ _ _ _, Below.refl _ _⟩
  · have HR := Lib.hid (Rd.mono (show Rd w (.slice (some x) (l.map bv).length cap) l from .inr ⟨x, cap, rfl, h2, h3, h4⟩) ((Below.refl _ w).alloc (Nat.le_refl _) (.cells #[] 5)))
    have HO := Lib.hid (empty_owned w)
    clear h2 h3 h4
    have hq : ∀ w, (binOp BinOp.eql 36 (.slice (some x) (l.map bv).length cap) (.slice none 0 0)).run Tryz.prog w = .ok (.bool false) w := fun w => Lib.run_eql_slice_nil w _ _ (some x) _ _ 0 0 Tryz.underlying36
    generalize (l.map bv).length = L at HR HLM hq ⊢
    go_enter Tryz.func56, Tryz.ntmps56
    go_wp2_with (at_builtin; go_loud (refine wpList_append_rd rfl (.tmp 5) (.tmp 6) 36 rfl w.heap.size 5 i0 (.int .u8 0) 1 Tryz.underlying36 hi hz0 hz1 hz2 rfl _ _ _ rfl HO.out _ _ rfl HR.out HB.out (by rw [List.length_map]; unfold maxLen; omega) (by rw [List.length_map]; omega) (by simp) ?_); intro v2 w2 hown2 hgrow2)
    go_ret
    refine ⟨_, rfl, by simpa using hown2, (((Below.refl _ w).alloc (Nat.le_refl _) _).grown hgrow2 (by simp) (fun k hk => by cases hk; exact Nat.le_refl _))⟩
theorem size_zeroCells (n : Nat) : (Builtin.zeroCells #[Value.int .u8 0] n).size = n := by
  simp [Builtin.zeroCells]
set_option maxRecDepth 100000 in
set_option maxHeartbeats 400000 in
theorem Grow_any (n : Nat) (w : World) (hn : n ≤ 140737488355328) :
    Calls Tryz.prog 116 #[.slice none 0 0, .int .i64 n] w (Fresh 5 w []) := by
  obtain ⟨i0, hi, hz0, hz1, hz2⟩ := info_parts Tryz.info5
  by_cases h0 : n = 0
  · subst h0
    go_enter Tryz.func116, Tryz.ntmps116
    go_wp2_with fail
    go_ret
    exact ⟨_, rfl, World.ownsRow_nil _ _ _ _, Below.refl _ _⟩
  · have hz := Lib.run_append_nil_zeros (P := Tryz.prog) w 36 3 36 5 i0 (.int .u8 0) .i64 .i64 Tryz.underlying36 Tryz.underlying3 hi hz0 n (by omega) (by omega) (by omega) (by rw [hz2]; omega)
    have HZ := Lib.hid hz
    have hcap := Lib.hid (grownCap_ge w n 0 5)
    have hcap2 := Lib.hid (grownCap_le_maxLen w n 0 5 (by unfold maxLen; omega))
    have hpos : decide (0 < (n : Int)) = true := decide_eq_true (by omega)
    clear hz
    generalize grownCap w n 0 5 = C at HZ hcap hcap2
    go_enter Tryz.func116, Tryz.ntmps116
    go_wp2_with (at_builtin; go_loud (refine Lib.wpList_append_run _ rfl (.tmp 20) (.tmp 21) 36 3 rfl _ _ rfl rfl _ _ HZ.out ?_))
    go_ret
    have h1 := hcap.out
    refine ⟨_, rfl, ?_, ((Below.refl _ w).alloc (Nat.le_refl _) _).drew⟩
    refine ⟨rfl, .inr ⟨w.heap.size, C, _, rfl, Nat.le_refl _, heap_alloc_new w _, Nat.zero_le _, hcap2.out, ?_, by simp⟩⟩
    rw [Array.size_append, size_zeroCells, size_zeroCells]
    omega
def tot (ls : List (List UInt8)) (k : Nat) : Nat := (ls.take k).flatten.length
theorem tot_step (ls : List (List UInt8)) (k : Nat) (h : k < ls.length) : tot ls (k + 1) = tot ls k + ls[k].length := by
  unfold tot
  rw [List.take_succ_eq_append_getElem h, List.flatten_append, List.length_append]
  simp
theorem flat_step (ls : List (List UInt8)) (k : Nat) (h : k < ls.length) : (ls.take (k + 1)).flatten = (ls.take k).flatten ++ ls[k] := by
  rw [List.take_succ_eq_append_getElem h, List.flatten_append]
  simp
theorem tot_le (ls : List (List UInt8)) (k : Nat) : tot ls k ≤ ls.flatten.length := by
  unfold tot
  conv => rhs; rw [← List.take_append_drop k ls]
  rw [List.flatten_append, List.length_append]
  omega
set_option maxRecDepth 100000 in
set_option maxHeartbeats 1000000 in
theorem Concat_any (x : Addr) (N cap : Nat) (vs : List Value) (ls : List (List UInt8)) (w : World) (hN : N = ls.length) (hv : vs.length = ls.length) (hcap : N ≤ cap) (hcap2 : cap ≤ 9223372036854775807)
    (hc : ∀ (i : Nat) u, vs[i]? = some u → w.cell? (x.add i) = some u) (hr : ∀ (i : Nat) u l, vs[i]? = some u → ls[i]? = some l → Rd w u l) (hl : ls.flatten.length ≤ 140737488355328) :
    Calls Tryz.prog 94 #[.slice (some x) N cap] w (Fresh 5 w (ls.flatten.map bv)) := by
  obtain ⟨i0, hi, hz0, hz1, hz2⟩ := info_parts Tryz.info5
  have HC := Lib.hid hc
  have HR := Lib.hid hr
  have HV := Lib.hid hv
  have HN := Lib.hid hN
  have HL := Lib.hid hl
  clear hc hr hv hN hl
  go_enter Tryz.func94, Tryz.ntmps94
  go_wp2_with fail
  go_loop [3, 11] (fun n i => ∃ k : Nat, k ≤ N ∧ i = .int .i64 k ∧ n = .int .i64 (tot ls k)) (fun _ i => N - (intOf i).toNat)
  case atStart => exact ⟨0, Nat.zero_le _, rfl, rfl⟩
  case round =>
    obtain ⟨k, hk, rfl, rfl⟩ := hrel
    have htl := tot_le ls k
    have htl2 := HL.out
    by_cases hlt : k < N
    · have hkl : k < ls.length := by have := HN.out; omega
      have hkv : k < vs.length := by have := HV.out; omega
      have hc := HC.out k _ (List.getElem?_eq_getElem hkv)
      have hrd := HR.out k _ _ (List.getElem?_eq_getElem hkv) (List.getElem?_eq_getElem hkl)
      have HS := Lib.hid (tot_step ls k hkl)
      have hsl := tot_le ls (k + 1)
      rw [HS.out] at hsl
      generalize ls[k] = l at hrd HS hsl
      generalize vs[k] = u at hc hrd
      obtain ⟨a, cp, rfl, hs1, hs2⟩ := hrd.shape
      unfold maxLen at hs2
      have HRD := Lib.hid hrd
      generalize tot ls k = T at HS htl hsl ⊢
      have hneg : decide ((T : Int) + l.length < 0) = false := decide_eq_false (by omega)
      clear hrd
      go_wp2_with fail
      go_round
      case rel => exact ⟨k + 1, by omega, by go_num, by rw [HS.out]; go_num⟩
      case measure => simp [intOf]; omega
    · have hkN : k = N := by omega
      subst hkN
      have hT : tot ls k = ls.flatten.length := by unfold tot; rw [List.take_of_length_le (by have := HN.out; omega)]
      have HT := Lib.hid hT
      generalize tot ls k = T at HT htl ⊢
      clear hT hlt
      go_wp2_with fail
      refine (Grow_any T w (by omega)).mono ?_
      rintro e w1 ⟨v1, rfl, ho1, hb1⟩
      have HO1 := Lib.hid ho1
      have HB1 := Lib.hid hb1
      clear ho1 hb1
      go_wp2_with fail
      go_loopw [6, 27] (fun r i wr => ∃ j : Nat, j ≤ k ∧ i = .int .i64 j ∧ wr.ownsRow w.heap.size 5 1 r (tot ls j) (((ls.take j).flatten).map bv) ∧ Below w.heap.size w wr) (fun _ i _ => k - (intOf i).toNat)
      case atStart => exact ⟨0, Nat.zero_le _, rfl, HO1.out, HB1.out⟩
      case round =>
        obtain ⟨j, hj, rfl, hor, hbr⟩ := hrel
        have HOR := Lib.hid hor
        have HBR := Lib.hid hbr
        clear hor hbr
        by_cases hjlt : j < k
        · have hkl : j < ls.length := by have := HN.out; omega
          have hkv : j < vs.length := by have := HV.out; omega
          have hc0 := HC.out j _ (List.getElem?_eq_getElem hkv)
          have hc : wr.cell? (x.add j) = some vs[j] := (HBR.out.cell (lt_of_cell hc0)).trans hc0
          have hrd := (HR.out j _ _ (List.getElem?_eq_getElem hkv) (List.getElem?_eq_getElem hkl)).mono HBR.out
          have HS := Lib.hid (tot_step ls j hkl)
          have HFS := Lib.hid (flat_step ls j hkl)
          have hsl := tot_le ls (j + 1)
          rw [HS.out] at hsl
          clear hc0
          generalize ls[j] = l at hrd HS hsl HFS
          generalize vs[j] = u at hc hrd
          obtain ⟨a, cp, rfl, hs1, hs2⟩ := hrd.shape
          have HRD := Lib.hid hrd
          have HBV := Lib.hid (bv_oneCell l)
          have hsz := HBR.out.size
          have HLL := Lib.hid (show tot ls j + (l.map bv).length ≤ 140737488355328 by rw [List.length_map]; omega)
          generalize (ls.take j).flatten = pre at HOR HFS
          generalize tot ls j = T at HS hsl HLL HOR
          clear hrd
          go_wp2_with (at_builtin; go_loud (refine wpList_append_rd rfl (.tmp 31) (.tmp 32) 36 rfl w.heap.size 5 i0 (.int .u8 0) 1 Tryz.underlying36 hi hz0 hz1 hz2 rfl _ _ _ rfl HOR.out _ _ rfl HRD.out HBV.out (by have := HLL.out; unfold maxLen; omega) (by have := HLL.out; omega) hsz ?_); intro v2 w2 hown2 hgrow2; have HOW := Lib.hid hown2; have HGR := Lib.hid hgrow2; clear hown2 hgrow2)
          go_roundw
          case rel =>
            refine ⟨j + 1, by omega, by go_num, ?_, HBR.out.grown HGR.out hsz (fun b hb => (HOR.out.lt b hb).1)⟩
            rw [HS.out, HFS.out, List.map_append]
            have h2 := HOW.out
            rw [List.length_map] at h2
            exact h2
          case measure => simp [intOf]; omega
        · have hjk : j = k := by omega
          subst hjk
          have HFL := Lib.hid (show (ls.take j).flatten = ls.flatten ∧ tot ls j = (ls.flatten.map bv).length by
            unfold tot
            rw [List.take_of_length_le (by have := HN.out; omega), List.length_map]
            exact ⟨rfl, rfl⟩)
          clear hjlt
          go_wp2_with fail
          go_ret
          refine ⟨_, rfl, ?_, HBR.out⟩
          rw [← HFL.out.2, ← HFL.out.1]
          exact HOR.out
end Go.Proofs.YtaoegcakefodaaaGreat

namespace Go.Proofs.YtaoegcakefodaaaGreat
open Go.ChangeAt Go.RowKit
theorem Tryz.info_int8 : (Tryz.prog.info? 3).map (fun i => (i.zero, i.size, i.bytes)) = some (some (.int .i64 0), 1, 8) := by kernel_rfl
theorem own_shapeP {base : Nat} {e : TypeId} {w : World} {v : Value} {n : Nat} {xs : List Value} (h : w.ownsRow base e 1 v n xs) : ∃ a cap, v = .slice a n cap ∧ n ≤ cap ∧ cap ≤ maxLen := by
  rcases h.2 with ⟨rfl, rfl⟩ | ⟨g, cap, cur, rfl, h2, h3, h4, h5, _⟩
  · exact ⟨none, 0, rfl, Nat.le_refl _, by simp [maxLen]⟩
  · exact ⟨_, cap, rfl, h4, h5⟩
theorem owns_nil (w : World) (base : Nat) (e : TypeId) (size : Nat) : w.ownsRow base e size (.slice none 0 0) 0 [] := ⟨by simp, .inl ⟨rfl, rfl⟩⟩
theorem owns_base {base base' : Nat} {e : TypeId} {size : Nat} {w : World} {v : Value} {n : Nat} {xs : List Value} (h : w.ownsRow base e size v n xs) (hb : base' ≤ base) : w.ownsRow base' e size v n xs :=
  ⟨h.1, h.2.imp id fun ⟨g, cap, cur, h1, h2, h3⟩ => ⟨g, cap, cur, h1, Nat.le_trans hb h2, h3⟩⟩
end Go.Proofs.YtaoegcakefodaaaGreat

namespace Go.Proofs.YtaoegcakefodaaaGreat
open Go.RowKit Go.BigFrame
theorem Below.keepsD (B : Nat) : Keeps (Below B) := ⟨fun _ => Below.refl _ _, fun _ _ _ h k => Below.trans h k⟩
instance (B : Nat) (w : World) : Inhabited (Later (Below B) w) := ⟨⟨w, Below.refl _ _⟩⟩
end Go.Proofs.YtaoegcakefodaaaGreat

namespace Go.Proofs.YtaoegcakefodaaaGreat
open Go.RowKit
theorem arr4_agg (s : BitVec 32) : arr4 s = .agg #[.int .u8 ((s.toNat : Int) / 16777216), .int .u8 ((s.toNat : Int) / 65536 % 256), .int .u8 ((s.toNat : Int) / 256 % 256), .int .u8 ((s.toNat : Int) % 256)] := by
  unfold arr4
  rw [be4_values]
set_option maxRecDepth 100000 in
set_option maxHeartbeats 1000000 in
theorem Seal_any (v : Value) (l : List UInt8) (w : World) (hr : Rd w v l) (hl : l.length + 4 ≤ 140737488355328) :
    Calls Tryz.prog 72 #[v] w (Fresh 5 w ((sealed l).map bv)) := by
  obtain ⟨va, vc, rfl, hv1, hv2⟩ := hr.shape
  have HR := Lib.hid hr
  have HAG := Lib.hid (arr4_agg (sumOf l))
  have HBE := Lib.hid (be4_values (sumOf l))
  have HIN := Lib.hid (fun w => inBytes_any (sumOf l) w)
  have HOF := Lib.hid (Of_any _ l w hr)
  have hs := (sumOf l).isLt
  clear hr hv1 hv2
  have HLL := Lib.hid hl
  clear hl
  generalize arr4 (sumOf l) = A at HAG HIN
  generalize (sumOf l).toNat = n at HAG HBE HIN HOF hs
  go_enter Tryz.func72, Tryz.ntmps72
  go_wp2_with fail
  refine HOF.out.mono ?_
  rintro e w1 ⟨rfl, hb1⟩
  have HB1 := Lib.hid hb1
  clear hb1
  go_wp2_with fail
  refine (HIN.out _).mono ?_
  rintro e w2 ⟨rfl, hb2⟩
  have HB2 := Lib.hid (Ext.trans HB1.out hb2)
  rw [HAG.out]
  clear hb2
  go_wp2_with fail
  refine (Concat_any ⟨w2.heap.size + 1, 0, none⟩ 2 2 [.slice va l.length vc, .slice (some ⟨w2.heap.size, 0, none⟩) 4 4] [l, be4 (sumOf l)] _ rfl rfl (Nat.le_refl _) (by omega) ?_ ?_ ?_).mono ?_
  · intro i u hu
    have := cells_new (w2.alloc (Obj.cells #[.int .u8 ((n : Int) / 16777216), .int .u8 ((n : Int) / 65536 % 256), .int .u8 ((n : Int) / 256 % 256), .int .u8 ((n : Int) % 256)] 132)) _ 36 i u hu
    simpa using this
  · intro i u m hu hm
    match i, hu, hm with
    | 0, hu, hm =>
      cases hu; cases hm
      exact HR.out.mono (((HB2.out).alloc HB2.out.size _).alloc (by have := HB2.out.size; simp; omega) _)
    | 1, hu, hm =>
      cases hu; cases hm
      refine Rd.mono (w := w2.alloc (Obj.cells #[.int .u8 ((n : Int) / 16777216), .int .u8 ((n : Int) / 65536 % 256), .int .u8 ((n : Int) / 256 % 256), .int .u8 ((n : Int) % 256)] 132)) ?_ ((Below.refl _ _).alloc (Nat.le_refl _) _)
      refine .inr ⟨⟨w2.heap.size, 0, none⟩, 4, by rw [HBE.out]; rfl, by rw [HBE.out]; exact Nat.le_refl 4, by simp [maxLen], ?_⟩
      rw [HBE.out]
      exact cells_new _ _ _
    | i + 2, hu, hm => cases hu
  · have := HLL.out
    simp [be4]
    omega
  · rintro e w3 ⟨v3, rfl, ho, hb⟩
    have HO := Lib.hid ho
    have H3 := Lib.hid hb
    clear ho hb
    go_wp2_with fail
    go_ret
    refine ⟨_, rfl, ?_, ?_⟩
    · have h := HO.out
      have e : [l, be4 (sumOf l)].flatten = sealed l := by simp [sealed]
      rw [e] at h
      exact owns_base h (by have := HB2.out.size; simp; omega)
    · exact (((HB2.out).alloc HB2.out.size _).alloc (by have := HB2.out.size; simp; omega) _).trans (H3.out.mono (by have := HB2.out.size; simp; omega))
end Go.Proofs.YtaoegcakefodaaaGreat

namespace Go.Proofs.YtaoegcakefodaaaGreat
open Go.RowKit Go.BigFrame
theorem Tryz.zero64 : (Tryz.prog.info? 91).map (fun i => (i.zero, i.size)) = some (some (.agg (Array.replicate 64 (.int .u8 0))), 64) := by kernel_rfl
theorem Tryz.zero60 : (Tryz.prog.info? 110).map (fun i => (i.zero, i.size)) = some (some (.agg (Array.replicate 60 (.int .u8 0))), 60) := by kernel_rfl
theorem run_zeroN {P : Program} {t : TypeId} {n : Nat} (h : (P.info? t).map (fun i => (i.zero, i.size)) = some (some (.agg (Array.replicate n (.int .u8 0))), n)) :
    ∃ Z : List UInt8, (∀ w : World, (zeroValue t).run P w = .ok (.agg ((Z.map bv).toArray)) w) ∧ Z = zeros n := by
  refine ⟨zeros n, fun w => ?_, rfl⟩
  cases hi : P.info? t with
  | none => rw [hi] at h; cases h
  | some i =>
    rw [hi] at h
    simp only [Option.map_some, Option.some.injEq, Prod.mk.injEq] at h
    have e : ((zeros n).map bv).toArray = Array.replicate n (.int .u8 0) := by simp [zeros, bv]
    rw [e]
    simp [zeroValue, typeInfo, hi, h.1]
def arrP (l : List UInt8) : Value := .agg (l.map bv).toArray
theorem page_splices (Y l d : List UInt8) (hY : Y = zeros 60) (hl : l.length ≤ 56) (hd : d.length = 4) : splice (splice (Y.map bv) 0 (l.map bv)) 56 (d.map bv) = (fill l ++ d).map bv := by
  have h1 : splice (Y.map bv) 0 (l.map bv) = (l ++ zeros (60 - l.length)).map bv := by
    unfold splice
    rw [hY, List.take_zero, List.nil_append, List.length_map, Nat.zero_add, ← List.map_drop, ← List.map_append]
    unfold zeros
    rw [List.drop_replicate]
  rw [h1]
  unfold splice fill
  rw [← List.map_take, ← List.map_drop, ← List.map_append, ← List.map_append]
  congr 1
  rw [List.length_map, hd, List.take_append, List.take_of_length_le hl, List.drop_of_length_le (by simp [zeros]; omega)]
  unfold zeros
  rw [List.take_replicate, Nat.min_eq_left (by omega), List.append_nil]
set_option maxRecDepth 100000 in
set_option maxHeartbeats 1000000 in
theorem pStored_any (id : Nat) (b : Value) (l : List UInt8) (w : World) (hr : Rd w b l) (hl : l.length ≤ 56) (hid : id ≤ 4096) :
    Calls Tryz.prog 48 #[.int .i64 id, b] w fun e w' => e = .returned (arrP (layP id l)) ∧ Ext w w' := by
  obtain ⟨Z, hZ, hZ1⟩ := run_zeroN Tryz.zero64
  obtain ⟨Y, hY, hY1⟩ := run_zeroN Tryz.zero60
  obtain ⟨a, cap, rfl, hs1, hs2⟩ := hr.shape
  have HZ1 := Lib.hid hZ1
  have HY1 := Lib.hid hY1
  have HR := Lib.hid hr
  have HID := Lib.hid (id4_values id hid)
  have hsz : (Tryz.prog.info? 5).map (·.size) = some 1 := by kernel_rfl
  clear hZ1 hY1 hr
  unfold maxLen at hs2
  obtain ⟨W1, hW1⟩ : ∃ W1, W1 = ((w.alloc (Obj.cells (Z.map bv).toArray 91)).alloc (Obj.cells (Y.map bv).toArray 110)) := ⟨_, rfl⟩
  have HG1 := Lib.hid (show W1.heap[w.heap.size + 1]? = some (.cells (Y.map bv).toArray 110 (0, 0)) from by rw [hW1]; exact heap_alloc2_new _ _ _)
  have HB1 := Lib.hid (show Below (w.heap.size + 1) (w.alloc (Obj.cells (Z.map bv).toArray 91)) W1 from by rw [hW1]; exact (Below.refl _ _).alloc (by simp) _)
  have HR1 := Lib.hid (show Rd W1 (.slice a l.length cap) l from by rw [hW1]; exact HR.out.mono (((Below.refl _ w).alloc (Nat.le_refl _) _).alloc (by simp) _))
  have HWE := Lib.hid hW1
  clear hW1
  obtain ⟨X, hX⟩ : ∃ X, X = l.map bv := ⟨_, rfl⟩
  have hXl : X.length = l.length := by rw [hX, List.length_map]
  have HX := Lib.hid hX
  obtain ⟨V, hV⟩ : ∃ V, V = Y.map bv := ⟨_, rfl⟩
  have hVl : V.length = 60 := by rw [hV, List.length_map, HY1.out]; simp [zeros]
  have HV := Lib.hid hV
  have HXV := Lib.hid (show X.length = l.length ∧ V.length = 60 from ⟨hXl, hVl⟩)
  rw [← hV] at HG1
  clear hX hV hXl hVl
  have HX1 := Lib.hid (show ∀ v ∈ X, v.oneCell' = true from by rw [HX.out]; exact bv_oneCell l)
  have HP1 := Lib.hid (show 0 < X.length → ∃ ad, a = some ad ∧ ∀ (j : Nat) (v : Value), X[j]? = some v → W1.cell? (ad.add j) = some v from fun h0 => by
    rcases HR1.out with ⟨h1, h2⟩ | ⟨x, cap', h1, _, _, h4⟩
    · rw [HX.out, h2] at h0; simp at h0
    · simp only [Value.slice.injEq] at h1
      exact ⟨x, h1.1, by rw [HX.out]; exact h4⟩)
  obtain ⟨D, hD⟩ : ∃ D, D = [Value.int .u8 ((id : Int) / 16777216), .int .u8 ((id : Int) / 65536), .int .u8 ((id : Int) / 256), .int .u8 ((id : Int) % 256)] := ⟨_, rfl⟩
  have HD := Lib.hid hD
  clear hD
  go_enter Tryz.func48, Tryz.ntmps48
  go_wp2_with (first
    | (refine wpList_copy_splice rfl (.tmp 6) (.tmp 7) 36 36 rfl 5 Tryz.underlying36 hsz (some ⟨w.heap.size + 1, 0, none⟩) a 56 60 l.length cap rfl rfl (w.heap.size + 1) 0 V 110 (by rw [← HWE.out]; exact HG1.out) X (by have := HXV.out.1; show X.length = min l.length 56; omega) (fun h0 => ⟨rfl, by rw [← HWE.out]; exact HP1.out h0⟩) (by rw [HXV.out.1, HXV.out.2]; omega) HX1.out (w.heap.size + 1) (w.alloc (Obj.cells (Z.map bv).toArray 91)) (by rw [← HWE.out]; exact HB1.out) (Nat.le_refl _) ?_
       intro w2 HG2 hb2
       have HB2 := Lib.hid hb2
       have hlt2 : w.heap.size + 1 < w2.heap.size := (Array.getElem?_eq_some_iff.1 HG2.out).1
       have HC3 := Lib.hid (show (w2.alloc (Obj.cells #[Value.int .u8 ((id : Int) / 16777216), .int .u8 ((id : Int) / 65536), .int .u8 ((id : Int) / 256), .int .u8 ((id : Int) % 256)] 5)).heap[w.heap.size + 1]? = some (.cells (splice V 0 X).toArray 110 (0, 0)) from by rw [Below.heap_alloc w2 _ _ hlt2]; exact HG2.out)
       have HB3 := Lib.hid (show Below (w.heap.size + 1) (w.alloc (Obj.cells (Z.map bv).toArray 91)) (w2.alloc (Obj.cells #[Value.int .u8 ((id : Int) / 16777216), .int .u8 ((id : Int) / 65536), .int .u8 ((id : Int) / 256), .int .u8 ((id : Int) % 256)] 5)) from HB2.out.alloc (by omega) _)
       have HN3 := Lib.hid (row_new w2 [Value.int .u8 ((id : Int) / 16777216), .int .u8 ((id : Int) / 65536), .int .u8 ((id : Int) / 256), .int .u8 ((id : Int) % 256)] 5)
       have HLS := Lib.hid (show (splice V 0 X).length = 60 from by rw [length_splice _ _ _ (by rw [HXV.out.1, HXV.out.2]; omega), HXV.out.2])
       clear hb2 hlt2)
    | (refine wpList_copy_splice rfl (.tmp 9) (.tmp 21) 36 36 rfl 5 Tryz.underlying36 hsz (some ⟨w.heap.size + 1, 56, none⟩) (some ⟨w2.heap.size, 0, none⟩) 4 4 4 4 rfl rfl (w.heap.size + 1) 56 (splice V 0 X) 110 HC3.out [Value.int .u8 ((id : Int) / 16777216), .int .u8 ((id : Int) / 65536), .int .u8 ((id : Int) / 256), .int .u8 ((id : Int) % 256)] rfl (fun _ => ⟨rfl, _, rfl, HN3.out⟩) (by rw [HLS.out]; exact Nat.le_refl _) (by simp [Value.oneCell']) (w.heap.size + 1) (w.alloc (Obj.cells (Z.map bv).toArray 91)) HB3.out (Nat.le_refl _) ?_
       intro w3 HG3 hb3
       have HB4 := Lib.hid hb3
       clear hb3))
  have HSP := Lib.hid (show splice (splice V 0 X) 56 [Value.int .u8 ((id : Int) / 16777216), .int .u8 ((id : Int) / 65536), .int .u8 ((id : Int) / 256), .int .u8 ((id : Int) % 256)] = (fill l ++ id4 id).map bv from by
    rw [HX.out, HV.out, ← HID.out]
    exact page_splices Y l (id4 id) HY1.out hl rfl)
  have HL60 := Lib.hid (show (fill l ++ id4 id).length = 60 from by rw [List.length_append, fill_length l hl]; rfl)
  have HR3 := Lib.hid (show Rd w3 (.slice (some ⟨w.heap.size + 1, 0, none⟩) 60 60) (fill l ++ id4 id) from by
    refine .inr ⟨⟨w.heap.size + 1, 0, none⟩, 60, by rw [List.length_map, HL60.out], by rw [List.length_map, HL60.out]; exact Nat.le_refl _, by simp [maxLen], fun i u hu => ?_⟩
    rw [add_at, Nat.zero_add, cell_of_row _ _ _ _ _ _ HG3.out, HSP.out]
    simpa using hu)
  refine (Seal_any _ (fill l ++ id4 id) w3 HR3.out (by rw [HL60.out]; omega)).mono ?_
  rintro e w4 ⟨v4, rfl, hown, hb4⟩
  have hL4 := layP_length id l hl
  change w4.ownsRow w3.heap.size 5 1 v4 ((layP id l).map bv).length ((layP id l).map bv) at hown
  generalize hM : layP id l = M at hown hL4 ⊢
  rw [List.length_map, hL4] at hown
  obtain ⟨g, cap4, rfl, hg1, hg2, hg3, hg4⟩ := owns_shape hown (by omega)
  unfold maxLen at hg4
  have HC4 := Lib.hid (show w4.rangeAt g 0 (M.map bv) from fun j u hj => by
    have := hown.cells (g := g) rfl j u hj
    rw [add_at] at this
    exact this)
  have hlt3 : w.heap.size + 1 < w3.heap.size := (Array.getElem?_eq_some_iff.1 HG3.out).1
  have HZ4 := Lib.hid (show w4.heap[w.heap.size]? = some (.cells (Z.map bv).toArray 91 (0, 0)) from by
    rw [hb4.block _ (by omega), HB4.out.block _ (by omega)]
    exact heap_alloc_new _ _)
  have HI := Lib.hid (show (Tryz.prog.info? 91).map (·.size) = some (M.map bv).length from by rw [List.length_map, hL4]; kernel_rfl)
  have HZL := Lib.hid (show (Z.map bv).toArray.size = (M.map bv).toArray.size from by rw [HZ1.out]; simp [zeros, hL4])
  have HB5 := Lib.hid (show Ext w w4 from (((Below.refl _ w).alloc (Nat.le_refl _) _).trans (HB4.out.mono (by omega))).trans (hb4.mono (by omega)))
  have harr : ∀ W : World, (Instr.arrayAt 91 (.slice (some ⟨g, 0, none⟩) 64 cap4)).run Tryz.prog W = .ok (.pointer (some ⟨g, 0, none⟩)) W := fun W => by
    unfold Instr.arrayAt
    simp [run_underlying Tryz.underlying91]
  have HM := Lib.hid hM
  clear hown hg1 hb4 hM hlt3 hL4
  go_wp2_with (first
    | (refine wpList_load_mid rfl 91 (.tmp 25) rfl g 0 rfl (M.map bv) _ HC4.out Tryz.underlying91 rfl HI.out ?_)
    | (refine wpList_store_row rfl 91 (.tmp 4) (.tmp 26) rfl w.heap.size (M.map bv).toArray rfl rfl 91 (Z.map bv).toArray HZ4.out (by rw [HI.out]; simp) HZL.out (all_oneCell_toArray (bv_oneCell M)) ?_))
  refine bodyPost_ret (v := arrP M) ?_ rfl ⟨by rw [HM.out], ?_⟩
  · exact results_cell_row (P := Tryz.prog) (fn := Tryz.f48) rfl _ _ w.heap.size 91 (M.map bv).toArray (0, 0) _ rfl (setRow_heap _ _ _ _ _ _ HZ4.out) Tryz.underlying91 rfl (by rw [HI.out]; simp)
  · exact Below.trans (show Below w.heap.size w w4 from HB5.out) (below_setRow (Below.refl _ _) (Nat.le_refl _) _)
end Go.Proofs.YtaoegcakefodaaaGreat

namespace Go.Proofs.YtaoegcakefodaaaGreat
open Go.RowKit Go.BigFrame
theorem eq_loop {P : Program} (w : World) (f : Nat → Option Bool × Unit → Sem (ForInStep (Option Bool × Unit))) (l m : List UInt8) (n : Nat) (hl : l.length = n) (hm : m.length = n)
    (hf : ∀ i a b, l[i]? = some a → m[i]? = some b → (f i (none, ())).run P w = .ok (if a = b then ForInStep.yield (none, ()) else ForInStep.done (some false, ())) w) :
    ∀ j k, k + j = n → (forIn (List.range' k j) (none, ()) f).run P w = .ok (if l.drop k = m.drop k then (none, ()) else (some false, ())) w
  | 0, k, h => by
    rw [List.drop_of_length_le (by omega), List.drop_of_length_le (by omega)]
    simp
  | j + 1, k, h => by
    have h1 : l[k]? = some (l[k]'(by omega)) := List.getElem?_eq_getElem (by omega)
    have h2 : m[k]? = some (m[k]'(by omega)) := List.getElem?_eq_getElem (by omega)
    have e := hf k _ _ h1 h2
    rw [List.drop_eq_getElem_cons (show k < l.length by omega), List.drop_eq_getElem_cons (show k < m.length by omega)]
    simp only [List.range'_succ, List.forIn_cons, Sem.run_bind, e, Result.andThen_ok]
    by_cases hab : l[k]'(by omega) = m[k]'(by omega)
    · simp only [hab, if_pos, List.cons.injEq, true_and]
      exact eq_loop w f l m n hl hm hf j (k + 1) (by omega)
    · rw [if_neg hab, if_neg (fun hh => hab (List.cons.inj hh).1)]
      simp
theorem eq_bytes (l m : List UInt8) (hl : l.length = 64) (hm : m.length = 64) (w : World) :
    (Op.equalIn 10000 91 (arrP l) (arrP m)).run Tryz.prog w = .ok (decide (l = m)) w := by
  have e1 := fun (a b : Int) (w : World) => run_equalIn_int (P := Tryz.prog) w 9998 5 .u8 .u8 a b Tryz.underlying5
  have u3 := Tryz.isAgg5
  have z3 := Tryz.sizeOf5
  rw [show (10000 : Nat) = 9999 + 1 from rfl, Op.equalIn]
  rw [show (9999 : Nat) = 9998 + 1 from rfl]
  generalize (9998 : Nat) = d at e1 ⊢
  unfold arrP
  simp [run_underlying Tryz.underlying91, z3, Std.Legacy.Range.forIn_eq_forIn_range', part]
  rw [eq_loop w _ l m 64 hl hm (fun i a b ha hb => ?_) 64 0 (by omega)]
  · simp only [List.drop_zero, Result.andThen_ok]
    by_cases h : l = m <;> simp [h]
  · rw [ha, hb]
    simp [u3, bv, e1]
    by_cases h : a = b
    · simp [h]
    · have h2 : ¬ ((a.toNat : Int) = (b.toNat : Int)) := fun hh => h (UInt8.toNat_inj.1 (by omega))
      simp [h, h2]
end Go.Proofs.YtaoegcakefodaaaGreat

namespace Go.Proofs.YtaoegcakefodaaaGreat
open Go.RowKit Go.BigFrame
abbrev Slots := List (Option (Nat × List UInt8))
def ptrV : Option (Nat × List UInt8) → Value
  | none => .pointer none
  | some x => .pointer (some ⟨x.1, 0, none⟩)
def bytesT (t : Slots) : St := t.map (Option.map Prod.snd)
structure PStoT (w : World) (p g : Nat) (t : Slots) : Prop where
  top : w.cell? ⟨p, 0, none⟩ = some (.slice (some ⟨g, 0, none⟩) t.length t.length)
  slot : ∀ i o, t[i]? = some o → w.cell? ⟨g, i, none⟩ = some (ptrV o)
  page : ∀ (i b : Nat) l, t[i]? = some (some (b, l)) → w.rangeAt b 0 (l.map bv)
  pfree : ∀ (i b : Nat) l, t[i]? = some (some (b, l)) → ∀ j, j < 64 → w.frozen? ⟨b, j, none⟩ = false
  free : ∀ j, w.frozen? ⟨g, j, none⟩ = false
  inj : ∀ (i j b : Nat) l l', t[i]? = some (some (b, l)) → t[j]? = some (some (b, l')) → i = j
  ne : p ≠ g
  apart : ∀ (i b : Nat) l, t[i]? = some (some (b, l)) → b ≠ p ∧ b ≠ g ∧ b < w.heap.size
  glt : g < w.heap.size
  few : t.length ≤ 4096
def ownT (p g : Nat) (t : Slots) (b : Nat) : Prop := b = p ∨ b = g ∨ ∃ l, some (b, l) ∈ t
def PSto (O : Nat → Prop) (w : World) (p : Nat) (s : St) : Prop := ∃ g t, s = bytesT t ∧ PStoT w p g t ∧ O = ownT p g t
theorem cell_of_same {w w' : World} {b i : Nat} (h : w'.heap[b]? = w.heap[b]?) : w'.cell? ⟨b, i, none⟩ = w.cell? ⟨b, i, none⟩ := World.cell?_of_block h
theorem frozen_of_same {w w' : World} {b i : Nat} (h : w'.heap[b]? = w.heap[b]?) : w'.frozen? ⟨b, i, none⟩ = w.frozen? ⟨b, i, none⟩ := by
  unfold World.frozen?
  rw [h]
theorem mem_at {t : Slots} {b : Nat} {l : List UInt8} (h : some (b, l) ∈ t) : ∃ i : Nat, t[i]? = some (some (b, l)) := List.mem_iff_getElem?.1 h
theorem PStoT.keep {w w' : World} {p g : Nat} {t : Slots} (h : PStoT w p g t) (hk : ∀ b, ownT p g t b → w'.heap[b]? = w.heap[b]?) (hs : w.heap.size ≤ w'.heap.size) : PStoT w' p g t := by
  have hp := hk p (.inl rfl)
  have hg := hk g (.inr (.inl rfl))
  have hb : ∀ (i b : Nat) l, t[i]? = some (some (b, l)) → w'.heap[b]? = w.heap[b]? := fun i b l hi => hk b (.inr (.inr ⟨l, List.mem_of_getElem? hi⟩))
  exact ⟨by rw [cell_of_same hp]; exact h.top, fun i o hi => by rw [cell_of_same hg]; exact h.slot i o hi, fun i b l hi j u hj => by rw [cell_of_same (hb i b l hi)]; exact h.page i b l hi j u hj,
    fun i b l hi j hj => by rw [frozen_of_same (hb i b l hi)]; exact h.pfree i b l hi j hj, fun j => by rw [frozen_of_same hg]; exact h.free j, h.inj, h.ne,
    fun i b l hi => ⟨(h.apart i b l hi).1, (h.apart i b l hi).2.1, Nat.lt_of_lt_of_le (h.apart i b l hi).2.2 hs⟩, Nat.lt_of_lt_of_le h.glt hs, h.few⟩
theorem PStoT.lt {w : World} {p g : Nat} {t : Slots} (h : PStoT w p g t) (b : Nat) (hb : ownT p g t b) : b < w.heap.size := by
  rcases hb with rfl | rfl | ⟨l, hl⟩
  · exact lt_of_cell h.top
  · exact h.glt
  · obtain ⟨i, hi⟩ := mem_at hl
    exact (h.apart i b l hi).2.2
theorem PStoT.mono {w w' : World} {p g : Nat} {t : Slots} (h : PStoT w p g t) (hb : Ext w w') : PStoT w' p g t := h.keep (fun b hb' => hb.block b (h.lt b hb')) hb.size
theorem PSto.keep {O : Nat → Prop} {w w' : World} {p : Nat} {s : St} (h : PSto O w p s) (hk : ∀ b, O b → w'.heap[b]? = w.heap[b]?) (hs : w.heap.size ≤ w'.heap.size) : PSto O w' p s := by
  obtain ⟨g, t, rfl, ht, rfl⟩ := h
  exact ⟨g, t, rfl, ht.keep hk hs, rfl⟩
theorem PSto.lt {O : Nat → Prop} {w : World} {p : Nat} {s : St} (h : PSto O w p s) (b : Nat) (hb : O b) : b < w.heap.size := by
  obtain ⟨g, t, rfl, ht, rfl⟩ := h
  exact ht.lt b hb
def PStep (O : Nat → Prop) (w : World) (p : Nat) (s' : St) (w' : World) (v : Value) : Prop :=
  ∃ O', PSto O' w' p s' ∧ OnlyS O w w' ∧ (∀ b, O' b → O b ∨ w.heap.size ≤ b) ∧ (∀ k, v.ownBlock = some k → ¬ O' k)
theorem PStoT.change {w w' : World} {p g : Nat} {t : Slots} (h : PStoT w p g t) (i : Nat) (o : Option (Nat × List UInt8)) (hsz : w.heap.size ≤ w'.heap.size) (htop : w'.heap[p]? = w.heap[p]?)
    (hslot : i < t.length → w'.cell? ⟨g, i, none⟩ = some (ptrV o)) (hslots : ∀ j, j ≠ i → w'.cell? ⟨g, j, none⟩ = w.cell? ⟨g, j, none⟩) (hgf : ∀ j, w'.frozen? ⟨g, j, none⟩ = false)
    (hpages : ∀ (j b : Nat) l, j ≠ i → t[j]? = some (some (b, l)) → w'.heap[b]? = w.heap[b]?)
    (hnew : ∀ (b : Nat) l, o = some (b, l) → w'.rangeAt b 0 (l.map bv) ∧ (∀ j, j < 64 → w'.frozen? ⟨b, j, none⟩ = false) ∧ b ≠ p ∧ b ≠ g ∧ b < w'.heap.size ∧ ∀ j l', j ≠ i → t[j]? ≠ some (some (b, l'))) :
    PStoT w' p g (t.set i o) := by
  have hget : ∀ (j : Nat) x, (t.set i o)[j]? = some x → (j = i ∧ x = o ∧ i < t.length) ∨ (j ≠ i ∧ t[j]? = some x) := fun j x hj => by
    by_cases e : j = i
    · subst e
      have hl := (List.getElem?_eq_some_iff.1 hj).1
      rw [List.length_set] at hl
      rw [List.getElem?_set_self hl] at hj
      exact .inl ⟨rfl, (Option.some.inj hj).symm, hl⟩
    · rw [List.getElem?_set_ne (fun hh => e hh.symm)] at hj
      exact .inr ⟨e, hj⟩
  refine ⟨?_, fun j x hj => ?_, fun j b l hj => ?_, fun j b l hj k hk => ?_, hgf, fun j k b l l' hj hk => ?_, h.ne, fun j b l hj => ?_, Nat.lt_of_lt_of_le h.glt hsz, by rw [List.length_set]; exact h.few⟩
  · rw [List.length_set, cell_of_same htop]; exact h.top
  · rcases hget j x hj with ⟨rfl, rfl, hl⟩ | ⟨hne, hj⟩
    · exact hslot hl
    · rw [hslots j hne]; exact h.slot j x hj
  · rcases hget j _ hj with ⟨rfl, he, _⟩ | ⟨hne, hj⟩
    · exact (hnew b l he.symm).1
    · intro k u hk
      rw [cell_of_same (hpages j b l hne hj)]; exact h.page j b l hj k u hk
  · rcases hget j _ hj with ⟨rfl, he, _⟩ | ⟨hne, hj⟩
    · exact (hnew b l he.symm).2.1 k hk
    · rw [frozen_of_same (hpages j b l hne hj)]; exact h.pfree j b l hj k hk
  · rcases hget j _ hj with ⟨ej, he, _⟩ | ⟨hne, hj2⟩ <;> rcases hget k _ hk with ⟨ek, he', _⟩ | ⟨hne', hk2⟩
    · exact ej.trans ek.symm
    · exact absurd hk2 ((hnew b l he.symm).2.2.2.2.2 k l' hne')
    · exact absurd hj2 ((hnew b l' he'.symm).2.2.2.2.2 j l hne)
    · exact h.inj j k b l l' hj2 hk2
  · rcases hget j _ hj with ⟨rfl, he, _⟩ | ⟨hne, hj⟩
    · have := hnew b l he.symm
      exact ⟨this.2.2.1, this.2.2.2.1, this.2.2.2.2.1⟩
    · have := h.apart j b l hj
      exact ⟨this.1, this.2.1, Nat.lt_of_lt_of_le this.2.2 hsz⟩
def pageT (t : Slots) (id : Int) : Option (Nat × List UInt8) := if 0 ≤ id then (t[id.toNat]?).join else none
theorem pageS_bytesT (t : Slots) (id : Int) : pageS (bytesT t) id = (pageT t id).map Prod.snd := by
  unfold pageS pageT bytesT
  split
  · rw [List.getElem?_map]
    cases t[id.toNat]? with
    | none => rfl
    | some o => rfl
  · rfl
theorem pageT_lt {t : Slots} {id : Int} {b : Nat} {l : List UInt8} (h : pageT t id = some (b, l)) : 0 ≤ id ∧ id < t.length ∧ t[id.toNat]? = some (some (b, l)) := by
  unfold pageT at h
  split at h
  · rename_i h0
    cases hg : t[id.toNat]? with
    | none => rw [hg] at h; cases h
    | some q =>
      rw [hg] at h
      simp only [Option.join_some] at h
      subst h
      have := (List.getElem?_eq_some_iff.1 hg).1
      exact ⟨h0, by omega, rfl⟩
  · cases h
theorem bytesT_set (t : Slots) (i : Nat) (o : Option (Nat × List UInt8)) : bytesT (t.set i o) = (bytesT t).set i (o.map Prod.snd) := by
  unfold bytesT
  rw [List.map_set]
theorem bytesT_length (t : Slots) : (bytesT t).length = t.length := by unfold bytesT; rw [List.length_map]
set_option maxRecDepth 100000 in
theorem pAllocated_any (p g : Nat) (t : Slots) (id : Int) (w : World) (h : PStoT w p g t) (hn : -9223372036854775808 ≤ id ∧ id ≤ 9223372036854775807) :
    Calls Tryz.prog 55 #[.pointer (some ⟨p, 0, none⟩), .int .i64 id] w fun e w' => e = .returned (ptrV (pageT t id)) ∧ w = w' := by
  obtain ⟨h0, h1⟩ := hn
  have hq := h.top
  have hfew := h.few
  by_cases hneg : id < 0
  · have hp : pageT t id = none := by unfold pageT; rw [if_neg (by omega)]
    rw [hp]
    have hd : decide (id < 0) = true := decide_eq_true (by omega)
    clear hp hneg
    go_enter Tryz.func55, Tryz.ntmps55
    go_wp2_with fail
    go_ret
    exact ⟨rfl, rfl⟩
  · obtain ⟨k, rfl⟩ := Int.eq_ofNat_of_zero_le (show 0 ≤ id by omega)
    by_cases hk : k < t.length
    · have hs : t[k]? = some t[k] := List.getElem?_eq_getElem hk
      have hp : pageT t (k : Int) = t[k] := by
        unfold pageT
        rw [if_pos (by omega), Int.toNat_natCast, hs]
        rfl
      rw [hp]
      have hc := h.slot k _ hs
      generalize ptrV t[k] = B at hc ⊢
      clear hs hp h
      generalize t.length = L at hq hfew hk
      go_enter Tryz.func55, Tryz.ntmps55
      go_wp2_with fail
      go_ret
      exact ⟨rfl, rfl⟩
    · have hp : pageT t (k : Int) = none := by
        unfold pageT
        rw [if_pos (by omega), Int.toNat_natCast, List.getElem?_eq_none (by omega)]
        rfl
      rw [hp]
      clear hp h
      generalize t.length = L at hq hfew hk
      go_enter Tryz.func55, Tryz.ntmps55
      go_wp2_with fail
      go_ret
      exact ⟨rfl, rfl⟩
end Go.Proofs.YtaoegcakefodaaaGreat

namespace Go.Proofs.YtaoegcakefodaaaGreat
open Go.RowKit Go.BigFrame
variable {O : Nat → Prop} {p : Nat} {s : St} {w : World}
theorem pstep_same {O : Nat → Prop} {p : Nat} {s : St} {w w' : World} {v : Value} (h : PSto O w p s) (hx : Ext w w') (hv : ∀ k, v.ownBlock = some k → w.heap.size ≤ k) : PStep O w p s w' v :=
  ⟨O, h.keep (fun b hb => hx.block b (h.lt b hb)) hx.size, OnlyS.of_ext hx, fun _ hb => .inl hb, fun k hk hO => by have := hv k hk; have := h.lt k hO; omega⟩
theorem freeS_map (t : Slots) (id : Int) : freeS (bytesT t) id = match pageT t id with | none => (2, bytesT t) | some _ => (0, bytesT (t.set id.toNat none)) := by
  unfold freeS
  rw [pageS_bytesT]
  cases pageT t id with
  | none => rfl
  | some x => simp only [Option.map_some, setS, bytesT_set, Option.map_none]
theorem ownT_set (p g : Nat) (t : Slots) (i : Nat) (b : Nat) (l : List UInt8) (hold : ∃ l', some (b, l') ∈ t) (k : Nat) (h : ownT p g (t.set i (some (b, l))) k) : ownT p g t k := by
  rcases h with h | h | ⟨l', h⟩
  · exact .inl h
  · exact .inr (.inl h)
  · rcases List.mem_or_eq_of_mem_set h with h1 | h1
    · exact .inr (.inr ⟨l', h1⟩)
    · simp only [Option.some.injEq, Prod.mk.injEq] at h1
      rw [h1.1]
      exact .inr (.inr hold)
theorem ownT_none (p g : Nat) (t : Slots) (i : Nat) (k : Nat) (h : ownT p g (t.set i none) k) : ownT p g t k := by
  rcases h with h | h | ⟨l', h⟩
  · exact .inl h
  · exact .inr (.inl h)
  · rcases List.mem_or_eq_of_mem_set h with h1 | h1
    · exact .inr (.inr ⟨l', h1⟩)
    · cases h1
set_option maxRecDepth 100000 in
theorem pFree_any (id : Int) (h : PSto O w p s) (hok : okS s) (hn : -9223372036854775808 ≤ id ∧ id ≤ 9223372036854775807) :
    Calls Tryz.prog 122 #[.pointer (some ⟨p, 0, none⟩), .int .i64 id] w fun e w' => e = .returned (.int .i64 (freeS s id).1) ∧ PStep O w p (freeS s id).2 w' .nilIface := by
  have HP := Lib.hid h
  obtain ⟨g, t, rfl, ht, rfl⟩ := h
  have HA := Lib.hid (pAllocated_any p g t id w ht hn)
  rw [freeS_map]
  cases hp : pageT t id with
  | none =>
    rw [hp] at HA
    clear hp ht hok
    simp only [ptrV] at HA
    go_enter Tryz.func122, Tryz.ntmps122
    go_wp2_with fail
    refine HA.out.mono ?_
    rintro e w2 ⟨rfl, rfl⟩
    go_wp2_with fail
    go_ret
    exact ⟨rfl, pstep_same HP.out (Below.refl _ _) (fun k hk => by cases hk)⟩
  | some x =>
    obtain ⟨b, l⟩ := x
    obtain ⟨k0, k1, hs⟩ := pageT_lt hp
    rw [hp] at HA
    obtain ⟨k, rfl⟩ := Int.eq_ofNat_of_zero_le k0
    rw [Int.toNat_natCast] at hs ⊢
    have HT := Lib.hid ht
    have HS := Lib.hid hs
    have hq := ht.top
    have hfew := ht.few
    have hc := ht.slot k _ hs
    have hf := ht.free k
    simp only [ptrV] at HA hc
    clear hp hs ht hok HP hn
    generalize hL : t.length = L at hq hfew k1
    replace hL := Lib.hid hL
    go_enter Tryz.func122, Tryz.ntmps122
    go_wp2_with fail
    refine HA.out.mono ?_
    rintro e w2 ⟨rfl, rfl⟩
    go_wp2_with fail
    go_ret
    refine ⟨rfl, ownT p g (t.set k none), ⟨g, _, rfl, ?_, rfl⟩, ?_, fun b hb => .inl (ownT_none p g t k b hb), fun _ hk => by cases hk⟩
    · have h := HT.out
      have hne := h.ne
      refine h.change k none (by simp [World.setCell]) (Below.heap_setCell _ _ _ _ hne) (fun _ => World.cell?_setCell_same _ _ _ hc) (fun j hj => cell_set_other (.inr (by simpa using hj))) (fun j => by simpa [go_sem] using h.free j) (fun j b' l' hj ht' => Below.heap_setCell _ _ _ _ (h.apart j b' l' ht').2.1) (fun b' l' hh => by cases hh)
    · exact ⟨rfl, rfl, rfl, by simp [World.setCell], fun i _ hi => Below.heap_setCell _ _ _ _ (fun e => hi (.inr (.inl e)))⟩
theorem writeS_map (t : Slots) (id : Int) (l : List UInt8) : writeS (bytesT t) id l = match pageT t id with | none => (2, bytesT t) | some x => if 56 < l.length then (3, bytesT t) else (0, bytesT (t.set id.toNat (some (x.1, layP id.toNat l)))) := by
  unfold writeS
  rw [pageS_bytesT]
  cases pageT t id with
  | none => rfl
  | some x => simp only [Option.map_some, setS, bytesT_set]
theorem mem_of_at {t : Slots} {i b : Nat} {l : List UInt8} (h : t[i]? = some (some (b, l))) : ∃ l', some (b, l') ∈ t := ⟨l, List.mem_of_getElem? h⟩
theorem setCells_heap : ∀ (vs : List Value) (w : World) (b o k : Nat), k ≠ b → (w.setCells b o vs).heap[k]? = w.heap[k]?
  | [], _, _, _, _, _ => rfl
  | v :: vs, w, b, o, k, h => by
    rw [World.setCells]
    rw [setCells_heap vs _ b (o + 1) k h]
    exact Below.heap_setCell _ _ _ _ h
theorem setCells_rest : ∀ (vs : List Value) (w : World) (b o : Nat), (w.setCells b o vs).heap.size = w.heap.size ∧ (w.setCells b o vs).os = w.os ∧ (w.setCells b o vs).tape = w.tape ∧ (w.setCells b o vs).output = w.output
  | [], _, _, _ => ⟨rfl, rfl, rfl, rfl⟩
  | v :: vs, w, b, o => by
    rw [World.setCells]
    obtain ⟨h1, h2, h3, h4⟩ := setCells_rest vs (w.setCell ⟨b, o, none⟩ v) b (o + 1)
    exact ⟨by rw [h1]; simp [World.setCell], h2, h3, h4⟩
theorem PStoT.write {w w' : World} {p g i b : Nat} {t : Slots} {l0 : List UInt8} (h : PStoT w p g t) (hi : t[i]? = some (some (b, l0))) (l : List UInt8) (hsz : w.heap.size ≤ w'.heap.size)
    (hother : ∀ k, ownT p g t k → k ≠ b → w'.heap[k]? = w.heap[k]?) (hr : w'.rangeAt b 0 (l.map bv)) (hf : ∀ j, j < 64 → w'.frozen? ⟨b, j, none⟩ = false) : PStoT w' p g (t.set i (some (b, l))) := by
  have ha := h.apart i b l0 hi
  have hg : w'.heap[g]? = w.heap[g]? := hother g (.inr (.inl rfl)) (fun e => ha.2.1 e.symm)
  have hu : ∀ (j : Nat) l', j ≠ i → t[j]? ≠ some (some (b, l')) := fun j l' hj hh => hj (h.inj j i b l' l0 hh hi)
  refine h.change i _ hsz (hother p (.inl rfl) (fun e => ha.1 e.symm)) (fun _ => ?_) (fun j _ => cell_of_same hg) (fun j => by rw [frozen_of_same hg]; exact h.free j) (fun j b' l' hj ht => hother b' (.inr (.inr ⟨l', List.mem_of_getElem? ht⟩)) (fun e => by subst e; exact hu j l' hj ht)) (fun b' l' he => ?_)
  · have hsl := h.slot i _ hi
    rw [cell_of_same hg]; exact hsl
  · simp only [Option.some.injEq, Prod.mk.injEq] at he
    obtain ⟨rfl, rfl⟩ := he
    exact ⟨hr, hf, ha.1, ha.2.1, Nat.lt_of_lt_of_le ha.2.2 hsz, hu⟩
set_option maxRecDepth 100000 in
set_option maxHeartbeats 1000000 in
theorem pWrite_any (id : Int) (b : Value) (l : List UInt8) (h : PSto O w p s) (hok : okS s) (hn : -9223372036854775808 ≤ id ∧ id ≤ 9223372036854775807) (hr : Rd w b l) (hb : l ≠ [] → ∀ k, b.ownBlock = some k → ¬ O k) (hl : l.length ≤ 1000000) :
    Calls Tryz.prog 54 #[.pointer (some ⟨p, 0, none⟩), .int .i64 id, b] w fun e w' => e = .returned (.int .i64 (writeS s id l).1) ∧ PStep O w p (writeS s id l).2 w' .nilIface := by
  have HP := Lib.hid h
  obtain ⟨g, t, rfl, ht, rfl⟩ := h
  have HA := Lib.hid (pAllocated_any p g t id w ht hn)
  obtain ⟨ba, bc, rfl, hb1, hb2⟩ := hr.shape
  unfold maxLen at hb2
  rw [writeS_map]
  cases hp : pageT t id with
  | none =>
    rw [hp] at HA
    clear hp ht hok hr hb
    simp only [ptrV] at HA
    go_enter Tryz.func54, Tryz.ntmps54
    go_wp2_with fail
    refine HA.out.mono ?_
    rintro e w2 ⟨rfl, rfl⟩
    go_wp2_with fail
    go_ret
    exact ⟨rfl, pstep_same HP.out (Below.refl _ _) (fun k hk => by cases hk)⟩
  | some x =>
    obtain ⟨pb, l0⟩ := x
    obtain ⟨k0, k1, hs⟩ := pageT_lt hp
    rw [hp] at HA
    simp only
    by_cases h56 : 56 < l.length
    · rw [if_pos h56]
      have hd : decide (56 < (l.length : Int)) = true := decide_eq_true (by omega)
      simp only [ptrV] at HA
      clear hp hs ht hok hr hb
      go_enter Tryz.func54, Tryz.ntmps54
      go_wp2_with fail
      refine HA.out.mono ?_
      rintro e w2 ⟨rfl, rfl⟩
      go_wp2_with fail
      go_ret
      exact ⟨rfl, pstep_same HP.out (Below.refl _ _) (fun k hk => by cases hk)⟩
    · rw [if_neg h56]
      have hd : decide (56 < (l.length : Int)) = false := decide_eq_false (by omega)
      obtain ⟨k, rfl⟩ := Int.eq_ofNat_of_zero_le k0
      rw [Int.toNat_natCast] at hs ⊢
      have hlen0 : l0.length = 64 := hok.2 l0 (by unfold bytesT; exact List.mem_map.2 ⟨some (pb, l0), List.mem_of_getElem? hs, rfl⟩)
      have HST := Lib.hid (pStored_any k _ l w hr (by omega) (by have := ht.few; omega))
      have hM64 := layP_length k l (by omega)
      obtain ⟨M, hM⟩ : ∃ M, M = layP k l := ⟨_, rfl⟩
      rw [← hM] at HST hM64 ⊢
      have HM := Lib.hid hM64
      have HT := Lib.hid ht
      have HS := Lib.hid hs
      have HL0 := Lib.hid hlen0
      have HI := Lib.hid (show (Tryz.prog.info? 91).map (·.size) = some (M.map bv).toArray.size from by rw [List.size_toArray, List.length_map, hM64]; kernel_rfl)
      simp only [ptrV] at HA
      unfold arrP at HST
      clear hp hs ht hok HP hn hr hb hM hM64 hlen0
      go_enter Tryz.func54, Tryz.ntmps54
      go_wp2_with fail
      refine HA.out.mono ?_
      rintro e w2 ⟨rfl, rfl⟩
      go_wp2_with fail
      refine HST.out.mono ?_
      rintro e w2 ⟨rfl, hx⟩
      have HX := Lib.hid hx
      have HT2 := Lib.hid (HT.out.mono hx)
      have HTH := Lib.hid (show w2.there pb 0 64 from fun j hj => ⟨by
        rw [HT2.out.page k pb l0 HS.out j (bv (l0[j]'(by rw [HL0.out]; exact hj))) (by rw [List.getElem?_map, List.getElem?_eq_getElem]; rfl)]
        rfl, by rw [Nat.zero_add]; exact HT2.out.pfree k pb l0 HS.out j hj⟩)
      have HSZ := Lib.hid (show (M.map bv).toArray.size = 64 from by simp [HM.out])
      clear hx
      go_wp2_with (refine wpList_store_mid rfl 91 (.tmp 20) (.tmp 19) rfl pb 0 (M.map bv).toArray rfl rfl (by rw [HSZ.out]; exact HTH.out) HI.out (all_oneCell_toArray (bv_oneCell M)) ?_)
      go_ret
      have hap := HT.out.apart k pb l0 HS.out
      have hoth : ∀ i, i ≠ pb → (w2.setCells pb 0 (M.map bv)).heap[i]? = w2.heap[i]? := fun i hi => setCells_heap _ _ _ _ _ hi
      obtain ⟨hsz, hos, htp, hou⟩ := setCells_rest (M.map bv) w2 pb 0
      refine ⟨rfl, ownT p g (t.set k (some (pb, M))), ⟨g, _, rfl, ?_, rfl⟩, ?_, fun b hb => .inl (ownT_set p g t k pb M (mem_of_at HS.out) b hb), fun _ hk => by cases hk⟩
      · refine HT2.out.write HS.out M (by rw [hsz]; exact Nat.le_refl _) (fun i _ hi => hoth i hi) (World.rangeAt_setCells_same _ _ _ _ (by rw [List.length_map, HM.out]; exact HTH.out)) (fun j hj => ?_)
        rw [World.frozen?_setCells]
        exact HT2.out.pfree k pb l0 HS.out j hj
      · exact ⟨hos.trans HX.out.os, htp.trans HX.out.tape, hou.trans HX.out.output, by rw [hsz]; exact HX.out.size, fun i hi hx => (hoth i (fun e => hx (by rw [e]; exact .inr (.inr (mem_of_at HS.out))))).trans (HX.out.block i hi)⟩
end Go.Proofs.YtaoegcakefodaaaGreat

namespace Go.Proofs.YtaoegcakefodaaaGreat
open Go.RowKit Go.BigFrame
variable {O : Nat → Prop} {p : Nat} {s : St} {w : World}
theorem ownP_pstep {w w' : World} {v : Value} {l : List UInt8} (h : w'.ownsRow w.heap.size 5 1 v (l.map bv).length (l.map bv)) : OwnP w.heap.size w' v l ∧ ∀ k, v.ownBlock = some k → w.heap.size ≤ k := by
  rw [List.length_map] at h
  exact ⟨OwnP.of_owns h, fun k hk => (h.lt k hk).1⟩
theorem rd_page {w : World} {b n cap : Nat} {l : List UInt8} (h : w.rangeAt b 0 (l.map bv)) (hn : n = l.length) (hc : n ≤ cap) (hm : cap ≤ maxLen) : Rd w (.slice (some ⟨b, 0, none⟩) n cap) l := by
  subst hn
  exact .inr ⟨⟨b, 0, none⟩, cap, by rw [List.length_map], by rw [List.length_map]; exact hc, hm, fun i u hu => by rw [add_at]; exact h i u hu⟩
theorem pMost_any (h : PSto O w p s) : Calls Tryz.prog 46 #[.pointer (some ⟨p, 0, none⟩)] w fun e w' => e = .returned (.int .i64 s.length) ∧ Ext w w' := by
  obtain ⟨g, t, rfl, ht, rfl⟩ := h
  have hq := ht.top
  have hfew := ht.few
  rw [bytesT_length]
  clear ht
  generalize t.length = L at hq hfew ⊢
  go_enter Tryz.func46, Tryz.ntmps46
  go_wp2_with fail
  go_ret
  exact ⟨rfl, Below.refl _ _⟩
set_option maxRecDepth 100000 in
theorem pUsed_any (h : PSto O w p s) : Calls Tryz.prog 23 #[.pointer (some ⟨p, 0, none⟩)] w fun e w' => e = .returned (.int .i64 (usedS s)) ∧ Ext w w' := by
  obtain ⟨g, t, rfl, ht, rfl⟩ := h
  have hq := ht.top
  have hfew := ht.few
  have HT := Lib.hid ht
  clear ht
  generalize hL : t.length = L at hq hfew
  replace hL := Lib.hid hL
  go_enter Tryz.func23, Tryz.ntmps23
  go_wp2_with fail
  go_loopw [3, 13] (fun n i wr => ∃ (j u : Nat), j ≤ L ∧ u ≤ j ∧ i = .int .i64 j ∧ n = .int .i64 u ∧ u = usedS (bytesT (t.take j)) ∧ w = wr) (fun _ i _ => L - (intOf i).toNat)
  case atStart => exact ⟨0, 0, Nat.zero_le _, Nat.le_refl _, rfl, rfl, rfl, rfl⟩
  case round =>
    obtain ⟨j, u, hj, hu, rfl, rfl, hus, rfl⟩ := hrel
    have HU := Lib.hid hus
    clear hus
    by_cases hlt : j < L
    · have hjs : j < t.length := by have := hL.out; omega
      have hs : t[j]? = some t[j] := List.getElem?_eq_getElem hjs
      have hc := HT.out.slot j _ hs
      have HTT := Lib.hid (show usedS (bytesT (t.take (j + 1))) = usedS (bytesT (t.take j)) + (if (t[j]).isSome = true then 1 else 0) from by
        unfold usedS bytesT
        rw [List.take_succ_eq_append_getElem hjs, List.map_append, List.countP_append]
        cases t[j] <;> rfl)
      clear hs
      generalize t[j] = B at hc HTT
      cases B with
      | none =>
        simp only [ptrV] at hc
        go_wp2_with fail
        go_roundw
        case rel => exact ⟨j + 1, u, by omega, by omega, by go_num, rfl, by rw [HTT.out, ← HU.out]; rfl, trivial⟩
        case measure => simp [intOf]; omega
      | some x =>
        simp only [ptrV] at hc
        go_wp2_with fail
        go_roundw
        case rel => exact ⟨j + 1, u + 1, by omega, by omega, by go_num, by go_num, by rw [HTT.out, ← HU.out]; rfl, trivial⟩
        case measure => simp [intOf]; omega
    · have HF := Lib.hid (show u = usedS (bytesT t) from by rw [HU.out, List.take_of_length_le (by have := hL.out; omega)])
      go_wp2_with fail
      go_ret
      exact ⟨by rw [← HF.out]; rfl, Below.refl _ _⟩
end Go.Proofs.YtaoegcakefodaaaGreat

