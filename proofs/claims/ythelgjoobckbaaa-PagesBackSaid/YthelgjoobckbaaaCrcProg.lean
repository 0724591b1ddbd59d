/-
  The program's contracts: More, Of, inBytes.
-/
import Derived.Test.YthelgjoobckbaaaCrcStep
import Derived.Test.YthelgjoobckbaaaCrcOpen
namespace Go.Proofs.Ythelgjoobckbaaa
open Go.RowKit

set_option maxRecDepth 100000 in
set_option maxHeartbeats 1000000 in
theorem More_cells (s : BitVec 32) (ao : Option Addr) (l : List UInt8) (L cap : Nat) (w : World) (hL : L = l.length) (_h1 : L ≤ cap) (_h2 : cap ≤ 9223372036854775807)
    (ca : ∀ i u, (l.map bv)[i]? = some u → ∃ x, ao = some x ∧ w.cell? (x.add i) = some u) :
    Calls Try.prog 51 #[.int .u32 s.toNat, .slice ao L cap] w fun e w' => e = .returned (.int .u32 (more s l).toNat) ∧ Ext w w' := by
  have CA := Lib.hid ca
  have HL := Lib.hid hL
  clear ca hL
  by_cases h0 : L = 0
  · have hl0 : l = [] := List.length_eq_zero_iff.1 (by rw [← HL.out, h0])
    subst hl0
    subst h0
    go_enter Try.func51, Try.ntmps51
    go_wp2_with fail
    go_ret
    exact ⟨rfl, Below.refl _ _⟩
  · obtain ⟨n, hn⟩ : ∃ n, n = s.toNat := ⟨_, rfl⟩
    have HN := Lib.hid hn
    rw [← hn]
    have hL0 : ((L : Int) == 0) = false := by rw [beq_eq_false_iff_ne]; omega
    clear hn
    go_enter Try.func51, Try.ntmps51
    go_wp2_with fail
    refine (stepper_any _).mono ?_
    rintro e w1 ⟨⟨fv, rfl, g, cur, rfl, hg, hsz, hcs⟩, hb⟩
    have HG := Lib.hid hg
    have HSZ := Lib.hid hsz
    have HCS := Lib.hid hcs
    have HB := Lib.hid hb
    clear hg hsz hcs hb
    go_wp2_with fail
    go_loopw [0, 15] (fun m i wr => ∃ j : Nat, j ≤ L ∧ i = .int .i64 j ∧ m = .int .u32 (more s (l.take j)).toNat ∧ w1 = wr) (fun _ i _ => L - (intOf i).toNat)
    case atStart => exact ⟨0, Nat.zero_le _, rfl, by rw [List.take_zero, more_nil, HN.out], rfl⟩
    case round =>
      obtain ⟨j, hj, rfl, rfl, rfl⟩ := hrel
      by_cases hlt : j < L
      · have hjl : j < l.length := by have := HL.out; omega
        obtain ⟨x, rfl, hc⟩ := CA.out j (bv l[j]) (by rw [List.getElem?_map, List.getElem?_eq_getElem hjl]; rfl)
        have HST := Lib.hid (more_step s l j hjl)
        have hc : w1.cell? (x.add j) = some (bv l[j]) := by rw [HB.out.cell (lt_of_cell hc)]; exact hc
        unfold bv at hc
        have HNX := Lib.hid (next_any g cur (more s (l.take j)) l[j] w1 HG.out HSZ.out HCS.out)
        generalize l[j] = c at hc HST HNX
        generalize more s (l.take j) = S at HST HNX ⊢
        obtain ⟨C, hC⟩ : ∃ C, C = c.toNat := ⟨_, rfl⟩
        rw [← hC] at hc HNX
        obtain ⟨m, hm⟩ : ∃ m, m = S.toNat := ⟨_, rfl⟩
        rw [← hm] at HNX ⊢
        clear hC hm
        go_wp2_with fail
        refine HNX.out.mono ?_
        rintro e w2 ⟨rfl, rfl⟩
        go_wp2_with fail
        go_roundw
        case rel =>
          refine ⟨j + 1, by omega, by go_num, ?_, trivial⟩
          rw [HST.out]
        case measure => simp [intOf]; omega
      · have hjL : l.take j = l := List.take_of_length_le (by have := HL.out; omega)
        rw [hjL]
        go_wp2_with fail
        go_ret
        exact ⟨rfl, HB.out⟩

theorem More_any (s : BitVec 32) (v : Value) (l : List UInt8) (w : World) (hr : Rd w v l) :
    Calls Try.prog 51 #[.int .u32 s.toNat, v] w fun e w' => e = .returned (.int .u32 (more s l).toNat) ∧ Ext w w' := by
  obtain ⟨ao, cap, rfl, h1, h2, ca⟩ := RdV.cellsAt hr
  unfold maxLen at h2
  exact More_cells s ao l _ cap w (by rw [List.length_map]) h1 (by omega) ca

theorem Of_any (v : Value) (l : List UInt8) (w : World) (hr : Rd w v l) :
    Calls Try.prog 48 #[v] w fun e w' => e = .returned (.int .u32 (sumOf l).toNat) ∧ Ext w w' := by
  have HM := Lib.hid (More_any 0xFFFFFFFF#32 v l w hr)
  go_enter Try.func48, Try.ntmps48
  go_wp2_with fail
  refine HM.out.mono ?_
  rintro e w1 ⟨rfl, hb⟩
  have HB := Lib.hid hb
  clear hb
  go_wp2_with fail
  go_ret
  exact ⟨rfl, HB.out⟩

/-- A sum's four bytes as an array. -/
def arr4 (s : BitVec 32) : Value := .agg ((be4 s).map bv).toArray

set_option maxRecDepth 100000 in
set_option maxHeartbeats 1000000 in
theorem inBytes_any (s : BitVec 32) (w : World) :
    Calls Try.prog 47 #[.int .u32 s.toNat] w fun e w' => e = .returned (arr4 s) ∧ Ext w w' := by
  have hs := s.isLt
  have HV := Lib.hid (be4_values s)
  obtain ⟨A, hA⟩ : ∃ A, A = arr4 s := ⟨_, rfl⟩
  have HA := Lib.hid hA
  rw [← hA]
  generalize s.toNat = n at hs HV ⊢
  clear hA
  go_enter Try.func47, Try.ntmps47
  go_wp2_with fail
  refine bodyPost_ret (v := A) ?_ rfl ⟨rfl, (Below.refl _ w).alloc (Nat.le_refl _) _⟩
  rw [HA.out]
  unfold arr4
  rw [HV.out]
  exact results_cell_row (P := Try.prog) (fn := Try.f47) rfl _ _ w.heap.size 84 _ (0, 0) _ rfl (heap_alloc_new _ _) Try.underlying84 rfl (by kernel_rfl)

end Go.Proofs.Ythelgjoobckbaaa
