/-
  Texts of this proof, merged.
-/
import Derived.Test.YtaoegcakefodaaaGreatZ1
import Derived.Test.YtaoegcakefodaaaGreatY1
import Derived.Test.YtaoegcakefodaaaGreatZ2
import Derived.Test.YtaoegcakefodaaaGreatZ3
import Derived.Test.YtaoegcakefodaaaGreatZ4
import Derived.Test.YtaoegcakefodaaaGreatZ5
import Derived.Test.YtaoegcakefodaaaGreatZ6
import Derived.Test.YtaoegcakefodaaaGreatZ7
import Derived.Test.YtaoegcakefodaaaGreatY2
import Derived.Test.YtaoegcakefodaaaGreatZ8
import Derived.Test.YtaoegcakefodaaaGreatZ9
import Derived.Test.YtaoegcakefodaaaGreatZ10
import Derived.Test.YtaoegcakefodaaaGreatZ11
import Derived.Test.YtaoegcakefodaaaGreatZ12
import Derived.Test.YtaoegcakefodaaaGreatZ13
import Derived.Test.YtaoegcakefodaaaGreatZ14
import Derived.Test.YtaoegcakefodaaaGreatZ15
import Derived.Test.YtaoegcakefodaaaGreatZ16
import Derived.Test.YtaoegcakefodaaaGreatZ17
import Derived.Test.YtaoegcakefodaaaGreatZ18
import Derived.Test.YtaoegcakefodaaaGreatZ19
import Derived.Test.YtaoegcakefodaaaGreatZ20
import Derived.Test.YtaoegcakefodaaaGreatZ21
import Derived.Test.YtaoegcakefodaaaGreatZ22
import Derived.Test.YtaoegcakefodaaaGreatZ23
import Derived.Test.YtaoegcakefodaaaGreatZ24
namespace Go.Proofs.YtaoegcakefodaaaGreat
open Go.RowKit
def rawS (s : St) (id : Int) : List UInt8 × Int := match pageS s id with | none => ([], 2) | some p => (p, 0)
def turnB (p : List UInt8) (k : Nat) (m : UInt8) : List UInt8 := p.set k (p.getD k 0 ^^^ m)
def flipS (s : St) (id k : Int) (m : UInt8) : St :=
  match pageS s id with
  | none => s
  | some p => if 0 ≤ k ∧ k < 64 then setS s id (some (turnB p k.toNat m)) else s
theorem pageS_mem {s : St} {id : Int} {p : List UInt8} (h : pageS s id = some p) : some p ∈ s := by
  unfold pageS at h
  split at h
  · cases hg : s[id.toNat]? with
    | none => rw [hg] at h; cases h
    | some q =>
      rw [hg] at h
      simp only [Option.join_some] at h
      subst h
      exact List.mem_of_getElem? hg
  · cases h
theorem flipS_ok {s : St} (h : okS s) (id k : Int) (m : UInt8) : okS (flipS s id k m) := by
  unfold flipS
  split
  · exact h
  · rename_i p hp
    split
    · exact h.set _ _ (fun q hq => by cases hq; unfold turnB; rw [List.length_set]; exact h.2 p (pageS_mem hp))
    · exact h
end Go.Proofs.YtaoegcakefodaaaGreat

namespace Go.Proofs.YtaoegcakefodaaaGreat
open Go.RowKit Go.BigFrame
theorem u8_xorV (a b : UInt8) : Value.int .u8 (bits BinOp.xor IntKind.u8 (a.toNat : Int) (b.toNat : Int)) = bv (a ^^^ b) := by
  have e : bits BinOp.xor IntKind.u8 (a.toNat : Int) (b.toNat : Int) = (((a ^^^ b).toNat : Nat) : Int) := by
    have h : a.toNat ^^^ b.toNat < 2 ^ 8 := Nat.xor_lt_two_pow a.toNat_lt b.toNat_lt
    have ha' : a.toNat % 2 ^ IntKind.u8.bits = a.toNat := Nat.mod_eq_of_lt a.toNat_lt
    have hb' : b.toNat % 2 ^ IntKind.u8.bits = b.toNat := Nat.mod_eq_of_lt b.toNat_lt
    rw [UInt8.toNat_xor]
    simp only [bits, BitVec.ofInt_natCast, BitVec.toNat_xor, BitVec.toNat_ofNat, ha', hb']
    exact wraps_u8 _ (by omega) (by omega)
  rw [e]
  rfl
end Go.Proofs.YtaoegcakefodaaaGreat

namespace Go.Proofs.YtaoegcakefodaaaGreat
open Go.RowKit Go.BigFrame
theorem rd_part {bb off L cap lo hi : Nat} {l : List UInt8} {w : World} (hr : Rd w (.slice (some ⟨bb, off, none⟩) L cap) l) (hL : L = l.length) (h1 : lo ≤ hi) (h2 : hi ≤ L) :
    Rd w (.slice (some ⟨bb, off + lo, none⟩) (hi - lo) (cap - lo)) ((l.drop lo).take (hi - lo)) := by
  rcases hr with ⟨h0, _⟩ | ⟨x, cap', h3, h4, h5, h6⟩
  · cases h0
  · simp only [Value.slice.injEq, Option.some.injEq] at h3
    obtain ⟨rfl, _, rfl⟩ := h3
    rw [List.length_map] at h4
    refine .inr ⟨⟨bb, off + lo, none⟩, cap - lo, by rw [List.length_map, List.length_take, List.length_drop]; congr 1; omega, by rw [List.length_map, List.length_take, List.length_drop]; omega, by omega, fun i u hu => ?_⟩
    rw [List.map_take, List.map_drop, List.getElem?_take] at hu
    split at hu
    · rw [List.getElem?_drop] at hu
      have := h6 (lo + i) u hu
      rw [add_at] at this ⊢
      rw [Nat.add_assoc]
      exact this
    · cases hu
end Go.Proofs.YtaoegcakefodaaaGreat

namespace Go.Proofs.YtaoegcakefodaaaGreat
open Go.RowKit Go.BigFrame
variable {O : Nat → Prop} {p : Nat} {s : St} {w : World}
theorem rawS_map (t : Slots) (id : Int) : rawS (bytesT t) id = match pageT t id with | none => ([], 2) | some x => (x.2, 0) := by
  unfold rawS
  rw [pageS_bytesT]
  cases pageT t id with
  | none => rfl
  | some x => rfl
set_option maxRecDepth 100000 in
set_option maxHeartbeats 1000000 in
theorem pRaw_any (id : Int) (h : PSto O w p s) (hok : okS s) (hn : -9223372036854775808 ≤ id ∧ id ≤ 9223372036854775807) :
    Calls Tryz.prog 32 #[.pointer (some ⟨p, 0, none⟩), .int .i64 id] w fun e w' => ∃ v, e = .returned (.tuple #[v, .int .i64 (rawS s id).2]) ∧ OwnP w.heap.size w' v (rawS s id).1 ∧ PStep O w p s w' v := by
  have HP := Lib.hid h
  obtain ⟨g, t, rfl, ht, rfl⟩ := h
  have HA := Lib.hid (pAllocated_any p g t id w ht hn)
  rw [rawS_map]
  cases hp : pageT t id with
  | none =>
    rw [hp] at HA
    clear hp ht hok
    simp only [ptrV] at HA
    go_enter Tryz.func32, Tryz.ntmps32
    go_wp2_with fail
    refine HA.out.mono ?_
    rintro e w2 ⟨rfl, rfl⟩
    go_wp2_with fail
    go_ret2
    exact ⟨_, rfl, .inl ⟨rfl, rfl⟩, pstep_same HP.out (Below.refl _ _) (fun k hk => by cases hk)⟩
  | some x =>
    obtain ⟨pb, l0⟩ := x
    obtain ⟨k0, k1, hs⟩ := pageT_lt hp
    rw [hp] at HA
    simp only
    have hlen0 : l0.length = 64 := hok.2 l0 (by unfold bytesT; exact List.mem_map.2 ⟨some (pb, l0), List.mem_of_getElem? hs, rfl⟩)
    have HR := Lib.hid (rd_page (n := 64) (cap := 64) (ht.page _ pb l0 hs) hlen0.symm (Nat.le_refl _) (by simp [maxLen]))
    have HL0 := Lib.hid hlen0
    simp only [ptrV] at HA
    clear hp hs ht hok hn hlen0
    go_enter Tryz.func32, Tryz.ntmps32
    go_wp2_with fail
    refine HA.out.mono ?_
    rintro e w2 ⟨rfl, rfl⟩
    go_wp2_with fail
    refine (Clone_any _ l0 _ HR.out (by rw [HL0.out]; omega)).mono ?_
    rintro e w3 ⟨v, rfl, ho, hb⟩
    have HO := Lib.hid (ownP_pstep ho)
    have HB := Lib.hid hb
    clear ho hb
    go_wp2_with fail
    go_ret2
    exact ⟨v, rfl, HO.out.1, pstep_same HP.out HB.out HO.out.2⟩
theorem flipS_map (t : Slots) (id k : Int) (m : UInt8) : flipS (bytesT t) id k m = match pageT t id with | none => bytesT t | some x => if 0 ≤ k ∧ k < 64 then bytesT (t.set id.toNat (some (x.1, turnB x.2 k.toNat m))) else bytesT t := by
  unfold flipS
  rw [pageS_bytesT]
  cases pageT t id with
  | none => rfl
  | some x => simp only [Option.map_some, setS, bytesT_set]
set_option maxRecDepth 100000 in
set_option maxHeartbeats 1000000 in
theorem pFlip_any (id k : Int) (m : UInt8) (h : PSto O w p s) (hok : okS s) (hn : -9223372036854775808 ≤ id ∧ id ≤ 9223372036854775807) (hk : -9223372036854775808 ≤ k ∧ k ≤ 9223372036854775807) :
    Calls Tryz.prog 31 #[.pointer (some ⟨p, 0, none⟩), .int .i64 id, .int .i64 k, .int .u8 m.toNat] w fun e w' => e = .returned (.tuple #[]) ∧ PStep O w p (flipS s id k m) w' .nilIface := by
  have HP := Lib.hid h
  obtain ⟨g, t, rfl, ht, rfl⟩ := h
  have HA := Lib.hid (pAllocated_any p g t id w ht hn)
  rw [flipS_map]
  obtain ⟨hk0, hk1⟩ := hk
  obtain ⟨M, hM⟩ : ∃ M : Nat, M = m.toNat := ⟨_, rfl⟩
  rw [← hM]
  have hMlt : M ≤ 255 := by have := m.toNat_lt; omega
  cases hp : pageT t id with
  | none =>
    rw [hp] at HA
    clear hp ht hok hM
    simp only [ptrV] at HA
    go_enter Tryz.func31, Tryz.ntmps31
    go_wp2_with fail
    refine HA.out.mono ?_
    rintro e w2 ⟨rfl, rfl⟩
    go_wp2_with fail
    refine bodyPost_ret (v := .tuple #[]) (results_none rfl _ _ _) rfl ?_
    exact ⟨rfl, pstep_same HP.out (Below.refl _ _) (fun k hk => by cases hk)⟩
  | some x =>
    obtain ⟨pb, l0⟩ := x
    obtain ⟨k0, k1, hs⟩ := pageT_lt hp
    rw [hp] at HA
    simp only
    simp only [ptrV] at HA
    by_cases hin : 0 ≤ k ∧ k < 64
    · rw [if_pos hin]
      obtain ⟨hi0, hi1⟩ := hin
      obtain ⟨c, rfl⟩ := Int.eq_ofNat_of_zero_le hi0
      obtain ⟨i, rfl⟩ := Int.eq_ofNat_of_zero_le k0
      rw [Int.toNat_natCast] at hs
      simp only [Int.toNat_natCast]
      have hlen0 : l0.length = 64 := hok.2 l0 (by unfold bytesT; exact List.mem_map.2 ⟨some (pb, l0), List.mem_of_getElem? hs, rfl⟩)
      have hclt : c < l0.length := by omega
      have hpg := ht.page i pb l0 hs
      have hcell := hpg c (bv l0[c]) (by rw [List.getElem?_map, List.getElem?_eq_getElem hclt]; rfl)
      rw [Nat.zero_add] at hcell
      have hfr := ht.pfree i pb l0 hs c (by omega)
      have hT : turnB l0 c m = l0.set c (l0[c] ^^^ m) := by unfold turnB; rw [List.getD_eq_getElem?_getD, List.getElem?_eq_getElem hclt]; rfl
      have hxor := u8_xorV l0[c] m
      rw [← hM] at hxor
      have HT := Lib.hid ht
      have HS := Lib.hid hs
      have HCE := Lib.hid hcell
      obtain ⟨W2, hW2⟩ : ∃ W2, W2 = (w.setCell ⟨pb, c, none⟩ (bv (l0[c] ^^^ m))).drew := ⟨_, rfl⟩
      have HPG := Lib.hid (show W2.rangeAt pb 0 ((turnB l0 c m).map bv) from by
        intro j u hu
        rw [Nat.zero_add, hW2]
        rw [hT, List.map_set, List.getElem?_set] at hu
        by_cases e : c = j
        · subst e
          rw [if_pos rfl] at hu
          split at hu
          · cases hu
            show (w.setCell _ _).cell? _ = _
            exact World.cell?_setCell_same _ _ _ hcell
          · cases hu
        · rw [if_neg e] at hu
          show (w.setCell _ _).cell? _ = _
          rw [cell_set_other (.inr (fun h => e h.symm))]
          have := hpg j u hu
          rw [Nat.zero_add] at this
          exact this)
      have HFR := Lib.hid (show ∀ j, j < 64 → W2.frozen? ⟨pb, j, none⟩ = false from fun j hj => by
        rw [hW2]
        have := ht.pfree i pb l0 hs j hj
        simpa [go_sem] using this)
      have HOT := Lib.hid (show ∀ k, k ≠ pb → W2.heap[k]? = w.heap[k]? from fun k hk => by rw [hW2]; show (w.setCell _ _).heap[k]? = _; exact Below.heap_setCell _ _ _ _ hk)
      have HRE := Lib.hid (show W2.heap.size = w.heap.size ∧ W2.os = w.os ∧ W2.tape = w.tape ∧ W2.output = w.output from by rw [hW2]; exact ⟨by simp [World.setCell], rfl, rfl, rfl⟩)
      rw [← hxor] at hW2
      have HW2 := Lib.hid hW2
      generalize turnB l0 c m = T at HPG
      unfold bv at hcell
      obtain ⟨C, hC⟩ : ∃ C : Nat, C = l0[c].toNat := ⟨_, rfl⟩
      have hClt : C ≤ 255 := by have := l0[c].toNat_lt; omega
      rw [← hC] at hcell HW2
      have hd1 : decide ((c : Int) < 0) = false := decide_eq_false (by omega)
      have hd2 : decide (64 ≤ (c : Int)) = false := decide_eq_false (by omega)
      have hc64 : c < 64 := by omega
      clear hp hs ht hok hM hT hxor hW2 hC hpg HCE HP hclt
      go_enter Tryz.func31, Tryz.ntmps31
      go_wp2_with fail
      refine HA.out.mono ?_
      rintro e w2 ⟨rfl, rfl⟩
      go_wp2_with fail
      go_region
      go_wp2_with fail
      go_end0
      rw [← HW2.out]
      have h1 := HRE.out
      refine ⟨rfl, ownT p g (t.set i (some (pb, T))), ⟨g, _, rfl, ?_, rfl⟩, ?_, fun b hb => .inl (ownT_set p g t i pb T (mem_of_at HS.out) b hb), fun _ hk => by cases hk⟩
      · exact HT.out.write HS.out T (by rw [h1.1]; exact Nat.le_refl _) (fun k _ hk => HOT.out k hk) HPG.out HFR.out
      · exact ⟨h1.2.1, h1.2.2.1, h1.2.2.2, by rw [h1.1]; exact Nat.le_refl _, fun k _ hx => HOT.out k (fun e => hx (by rw [e]; exact .inr (.inr (mem_of_at HS.out))))⟩
    · rw [if_neg hin]
      clear hp hs ht hok hM
      by_cases hneg : k < 0
      · have hd1 : decide (k < 0) = true := decide_eq_true hneg
        go_enter Tryz.func31, Tryz.ntmps31
        go_wp2_with fail
        refine HA.out.mono ?_
        rintro e w2 ⟨rfl, rfl⟩
        go_wp2_with fail
        refine bodyPost_ret (v := .tuple #[]) (results_none rfl _ _ _) rfl ?_
        exact ⟨rfl, pstep_same HP.out (Below.refl _ _) (fun k hk => by cases hk)⟩
      · have hd1 : decide (k < 0) = false := decide_eq_false hneg
        have hd2 : decide (64 ≤ k) = true := decide_eq_true (by omega)
        go_enter Tryz.func31, Tryz.ntmps31
        go_wp2_with fail
        refine HA.out.mono ?_
        rintro e w2 ⟨rfl, rfl⟩
        go_wp2_with fail
        refine bodyPost_ret (v := .tuple #[]) (results_none rfl _ _ _) rfl ?_
        exact ⟨rfl, pstep_same HP.out (Below.refl _ _) (fun k hk => by cases hk)⟩
theorem pNeed_any (n : Int) (hn : -9223372036854775808 ≤ n ∧ n ≤ 9223372036854775807) : Calls Tryz.prog 53 #[.int .i64 n] w fun e w' => e = .returned (.int .i64 (needS n)) ∧ Ext w w' := by
  obtain ⟨h0, h1⟩ := hn
  unfold needS
  by_cases h : n < 1
  · rw [if_pos h]
    go_enter Tryz.func53, Tryz.ntmps53
    go_wp2_with fail
    go_ret
    exact ⟨rfl, Below.refl _ _⟩
  · rw [if_neg h]
    obtain ⟨k, rfl⟩ := Int.eq_ofNat_of_zero_le (show 0 ≤ n by omega)
    go_enter Tryz.func53, Tryz.ntmps53
    go_wp2_with fail
    go_ret
    exact ⟨rfl, Below.refl _ _⟩
end Go.Proofs.YtaoegcakefodaaaGreat

namespace Go.Proofs.YtaoegcakefodaaaGreat
open Go.RowKit Go.BigFrame
variable {O : Nat → Prop} {p : Nat} {s : St} {w : World}
set_option maxRecDepth 100000 in
set_option maxHeartbeats 1000000 in
theorem pPut_any (b : Value) (l : List UInt8) (h : PSto O w p s) (hok : okS s) (hr : Rd w b l) (hb : l ≠ [] → ∀ k, b.ownBlock = some k → ¬ O k) (hl : l.length ≤ 1000000) :
    Calls Tryz.prog 30 #[.pointer (some ⟨p, 0, none⟩), b] w fun e w' => ∃ v, e = .returned (.tuple #[v, .int .i64 (putS s l).1.2]) ∧ w'.ownsRow w.heap.size 3 1 v (putS s l).1.1.length ((putS s l).1.1.map iv) ∧ PStep O w p (putS s l).2 w' v := by
  obtain ⟨ab, cb, rfl, hcb1, hcb2⟩ := hr.shape
  have HP := Lib.hid h
  have HRD := Lib.hid hr
  have HBO := Lib.hid hb
  have HND := Lib.hid (pNeed_any (w := w) (l.length : Int) (by omega))
  have hnb : 0 ≤ needS (l.length : Int) ∧ needS (l.length : Int) ≤ 20000 := by unfold needS; split <;> omega
  have HAL := Lib.hid (fun W (hx : Ext w W) => pAlloc_any (w := W) (needS l.length) (h.mono hx) hok (by omega))
  unfold maxLen at hcb2
  by_cases he : (allocS s (needS l.length)).1.2 = 0
  · have hput : putS s l = (((allocS s (needS l.length)).1.1, 0), writesS (allocS s (needS l.length)).1.1 l (allocS s (needS l.length)).2) := by unfold putS; rw [if_pos he]
    have HPT := Lib.hid hput
    have hfit : ¬ needS (l.length : Int) < 0 ∧ ¬ (s.length : Int) - usedS s < needS (l.length : Int) := by
      unfold allocS at he
      split at he
      · cases he
      · split at he
        · cases he
        · exact ⟨by assumption, by assumption⟩
    have hal := allocS_fits (s := s) (needS (l.length : Int)) hfit.1 hfit.2
    obtain ⟨n, hn⟩ : ∃ n : Nat, needS (l.length : Int) = n := ⟨(needS (l.length : Int)).toNat, by omega⟩
    have hokA := allocS_ok hok (needS (l.length : Int))
    rw [hal] at HPT hokA HAL
    simp only [hn, Int.toNat_natCast] at HPT hokA HAL hfit hnb
    have hcount := takeS_count n 0 s (by have : usedS s ≤ s.length := List.countP_le_length; omega)
    have hhas : ∀ id ∈ (takeS 0 n s).1, ∃ p, (takeS 0 n s).2[id]? = some (some p) := fun id hid => by
      have := (takeS_has n 0 s id hid).2
      rwa [Nat.sub_zero] at this
    generalize hI : (takeS 0 n s).1 = I at HPT HAL hcount hhas
    generalize (takeS 0 n s).2 = S1 at HPT HAL hokA hhas
    have HOK := Lib.hid hokA
    have HHAS := Lib.hid hhas
    have HCN := Lib.hid hcount
    have HNN := Lib.hid (show needS (l.length : Int) = n from hn)
    have hnb2 : n ≤ 20000 := by omega
    rw [hn] at HND
    obtain ⟨N, hN⟩ : ∃ N, l.length = N := ⟨_, rfl⟩
    have HLN := Lib.hid hN
    rw [hN] at HND hcb1 hl HRD HBO ⊢
    clear hput he hal hI hokA hhas hcount hfit hnb hn hN h hr hb
    go_enter Tryz.func30, Tryz.ntmps30
    go_wp2_with fail
    refine HND.out.mono ?_
    rintro e w1 ⟨rfl, hx1⟩
    have HX1 := Lib.hid hx1
    clear hx1
    go_wp2_with fail
    refine (HAL.out w1 HX1.out).mono ?_
    rintro e w2 ⟨v2, rfl, hown, hst⟩
    obtain ⟨O1, k1, k2, k3, -, -, k6⟩ := pchain (OnlyS.of_ext (X := O) HX1.out) (fun b hb => .inl hb) hst
    have hown := owns_base hown HX1.out.size
    obtain ⟨ai, capi, rfl, hci1, hci2⟩ := own_shape hown
    rw [HCN.out] at hci1 hown k6 ⊢
    unfold maxLen at hci2
    have HO2 := Lib.hid hown
    have HS2 := Lib.hid k1
    have HN2 := Lib.hid k2
    have HF2 := Lib.hid k3
    have HV2 := Lib.hid k6
    clear hown hst k1 k2 k3 k6
    go_wp2_with fail
    go_loopw [24] (fun i wr => ∃ (j : Nat) (S : St) (O' : Nat → Prop), j ≤ n ∧ i = .int .i64 j ∧ writesS I l S1 = writesS (I.drop j) (l.drop (j * 56)) S ∧ PSto O' wr p S ∧ okS S ∧ (∀ id ∈ I, ∃ p, S[id]? = some (some p)) ∧ OnlyS O1 w2 wr ∧ OnlyS O w wr ∧ (∀ b, O' b → O1 b ∨ w2.heap.size ≤ b)) (fun i _ => n - (intOf i).toNat)
    case atStart => exact ⟨0, S1, O1, Nat.zero_le _, rfl, by rw [Nat.zero_mul]; rfl, HS2.out, HOK.out, HHAS.out, OnlyS.refl _ _, HN2.out, fun b hb => .inl hb⟩
    case round =>
      obtain ⟨j, S, O', hj, rfl, hw, hs, hoks, hh, ho1, ho, hnew⟩ := hrel
      have HW := Lib.hid hw
      have HS := Lib.hid hs
      have HKS := Lib.hid hoks
      have HH := Lib.hid hh
      have HO1 := Lib.hid ho1
      have HO := Lib.hid ho
      have HNEW := Lib.hid hnew
      clear hw hs hoks hh ho1 ho hnew
      by_cases hlt : j < n
      · have hNj : j * 56 < N := by
          have h1 := HNN.out
          rw [HLN.out] at h1
          unfold needS at h1
          split at h1 <;> omega
        have hjI : j < I.length := by rw [HCN.out]; exact hlt
        have hcb0 := HRD.out
        rcases hcb0 with ⟨h0, h0'⟩ | ⟨x, cap', h3, h4, h5, h6⟩
        · exfalso
          have := HLN.out
          have h7 : l = [] := by simpa using h0'
          rw [h7] at this
          simp at this
          omega
        · simp only [Value.slice.injEq] at h3
          obtain ⟨rfl, -, rfl⟩ := h3
          have hl0 : 0 < l.length := by rw [HLN.out]; omega
          have hlne : l ≠ [] := by rintro rfl; simp at hl0
          obtain ⟨bb, off, rfl, hbw⟩ := plain_of (h6 0 (bv l[0]) (by rw [List.getElem?_map, List.getElem?_eq_getElem hl0]; rfl))
          clear h4 h5 h6
          have hbO : ¬ O bb := HBO.out hlne bb rfl
          have hbO' : ¬ O' bb := fun hh => by
            rcases HNEW.out bb hh with h | h
            · rcases HF2.out bb h with h | h
              · exact hbO h
              · omega
            · have := HN2.out.size
              omega
          have hrp : ∀ H, H = min 56 (N - j * 56) → Rd w (.slice (some ⟨bb, off + j * 56, none⟩) H (cb - j * 56)) ((l.drop (j * 56)).take 56) := fun H hH => by
            have := rd_part (lo := j * 56) (hi := j * 56 + H) HRD.out HLN.out.symm (by omega) (by omega)
            rw [show j * 56 + H - j * 56 = H by omega] at this
            have hpart : (l.drop (j * 56)).take H = (l.drop (j * 56)).take 56 := by
              by_cases h : H = 56
              · rw [h]
              · rw [List.take_of_length_le (by rw [List.length_drop, HLN.out]; omega), List.take_of_length_le (by rw [List.length_drop, HLN.out]; omega)]
            rw [hpart] at this
            exact this
          have hplen : ((l.drop (j * 56)).take 56).length ≤ 56 := by rw [List.length_take]; omega
          have hcapne : ¬ cb = j * 56 := by omega
          have hown := own_onlyS HO2.out HO1.out HV2.out
          obtain ⟨y, hy, hcy⟩ : ∃ y, ai = some y ∧ wr.cell? (y.add j) = some (iv I[j]) := by
            obtain ⟨ao, ca, h7, _, _, h8⟩ := RdV.cellsAt (RdV.of_owns hown)
            simp only [Value.slice.injEq] at h7
            obtain ⟨rfl, -, -⟩ := h7
            exact h8 j (iv I[j]) (by rw [List.getElem?_map, List.getElem?_eq_getElem hjI]; rfl)
          subst hy
          obtain ⟨p0, hp⟩ := HH.out I[j] (List.getElem_mem hjI)
          have HD := Lib.hid (show I.drop j = I[j] :: I.drop (j + 1) from List.drop_eq_getElem_cons hjI)
          have hIlt := (List.getElem?_eq_some_iff.1 hp).1
          generalize I[j] = k at hcy hp HD hIlt
          unfold iv at hcy
          have hkb := HKS.out.1
          have HPW := Lib.hid (show pageS S (k : Int) = some p0 from by unfold pageS; rw [if_pos (by omega), Int.toNat_natCast, hp]; rfl)
          have HWR := Lib.hid (fun H (hH : H = min 56 (N - j * 56)) => pWrite_any (w := wr) (k : Int) (.slice (some ⟨bb, off + j * 56, none⟩) H (cb - j * 56)) ((l.drop (j * 56)).take 56) HS.out HKS.out (by omega)
            (Rd.onlyS (hrp H hH) HO.out (fun _ k' hk' => by cases hk'; exact hbO)) (fun _ k' hk' => by cases hk'; exact hbO') (by omega))
          have hws : writeS S (k : Int) ((l.drop (j * 56)).take 56) = (0, S.set k (some (layP k ((l.drop (j * 56)).take 56)))) := by
            unfold writeS
            rw [HPW.out]
            simp only
            rw [if_neg (by omega)]
            rfl
          rw [hws] at HWR
          have HKS2 := Lib.hid (show okS (S.set k (some (layP k ((l.drop (j * 56)).take 56)))) from HKS.out.set k _ (fun q hq => by cases hq; exact layP_length k _ hplen))
          have HPP := Lib.hid hp
          clear hrp hplen hp hws hown hbO hbO' hlne
          go_wp2_with fail
          all_goals
            go_wp2_with fail
            refine (HWR.out _ (by omega)).mono ?_
            rintro e w3 ⟨rfl, hst⟩
            obtain ⟨O'', q1, q2, q3, q4, q5, -⟩ := pchain HO1.out HNEW.out hst
            have HS3 := Lib.hid q1
            have HO13 := Lib.hid q2
            have HNW3 := Lib.hid q3
            have HOO3 := Lib.hid (show OnlyS O w w3 from OnlyS.trans HO.out q5 (fun i hi hO => by
              rcases HNEW.out i hO with h | h
              · rcases HF2.out i h with h | h
                · exact h
                · omega
              · have := HN2.out.size
                omega))
            clear hst q1 q2 q3 q4 q5
            go_wp2_with fail
            go_roundw
            case rel =>
              refine ⟨j + 1, S.set k (some (layP k ((l.drop (j * 56)).take 56))), O'', by omega, by go_num, ?_, HS3.out, HKS2.out, fun id hid => ?_, HO13.out, HOO3.out, HNW3.out⟩
              · rw [HW.out, HD.out, Nat.succ_mul]
                show writesS (I.drop (j + 1)) ((l.drop (j * 56)).drop 56) _ = writesS (I.drop (j + 1)) (l.drop (j * 56 + 56)) _
                rw [List.drop_drop]
              · obtain ⟨p', hp'⟩ := HH.out id hid
                rw [List.getElem?_set]
                by_cases hki : k = id
                · rw [if_pos hki, if_pos hIlt]
                  exact ⟨_, rfl⟩
                · rw [if_neg hki]
                  exact ⟨p', hp'⟩
            case measure => simp [intOf]; omega
      · have hjn : j = n := by omega
        subst hjn
        have HF := Lib.hid (show (putS s l).1.1 = I ∧ (putS s l).1.2 = 0 ∧ (putS s l).2 = S from by
          rw [HPT.out]
          refine ⟨rfl, rfl, ?_⟩
          show writesS I l S1 = S
          rw [HW.out, List.drop_of_length_le (by rw [HCN.out]; exact Nat.le_refl _)]
          rfl)
        have HOW := Lib.hid (own_onlyS HO2.out HO1.out HV2.out)
        go_wp2_with fail
        go_ret2
        rw [HF.out.1, HF.out.2.1, HF.out.2.2, HCN.out]
        refine ⟨_, rfl, HOW.out, O', HS.out, HO.out, fun b hb => ?_, fun k hk hO => ?_⟩
        · rcases HNEW.out b hb with h | h
          · exact HF2.out b h
          · exact .inr (Nat.le_trans HN2.out.size h)
        · rcases HNEW.out k hO with h | h
          · exact HV2.out k hk h
          · have := (HO2.out.lt k hk).2
            omega
  · have hput : putS s l = (([], (allocS s (needS l.length)).1.2), s) := by unfold putS; rw [if_neg he]
    have hsame : (allocS s (needS l.length)).2 = s ∧ (allocS s (needS l.length)).1.1 = [] ∧ ((allocS s (needS l.length)).1.2 = 1 ∨ (allocS s (needS l.length)).1.2 = 4) := by
      unfold allocS at he ⊢
      split
      · exact ⟨rfl, rfl, .inl rfl⟩
      · rename_i h1
        rw [if_neg h1] at he
        split
        · exact ⟨rfl, rfl, .inr rfl⟩
        · rename_i h2
          rw [if_neg h2] at he
          exact absurd rfl he
    rw [hput]
    obtain ⟨hsm1, hsm2, hsm3⟩ := hsame
    rw [hsm1, hsm2] at HAL
    generalize (allocS s (needS l.length)).1.2 = E at HAL he hsm3 ⊢
    have hq0 : (E == 0) = false := beq_eq_false_iff_ne.2 he
    generalize needS (l.length : Int) = ND at HAL HND hnb
    generalize l.length = N at HND hcb1 hl
    clear h hok hr hb hput hsm1 hsm2 he HRD HBO
    go_enter Tryz.func30, Tryz.ntmps30
    go_wp2_with fail
    refine HND.out.mono ?_
    rintro e w1 ⟨rfl, hx1⟩
    have HX1 := Lib.hid hx1
    clear hx1
    go_wp2_with fail
    refine (HAL.out w1 HX1.out).mono ?_
    rintro e w2 ⟨v2, rfl, hown, hst⟩
    obtain ⟨O1, k1, k2, k3, -, -, -⟩ := pchain (OnlyS.of_ext (X := O) HX1.out) (fun b hb => .inl hb) hst
    have HK := Lib.hid (show PStep O w p s w2 (.slice none 0 0) from ⟨O1, k1, k2, k3, fun k hk => by cases hk⟩)
    clear hst hown k1 k2 k3
    go_wp2_with fail
    go_ret2
    exact ⟨_, rfl, World.ownsRow_nil _ _ _ _, HK.out⟩
end Go.Proofs.YtaoegcakefodaaaGreat

namespace Go.Proofs.YtaoegcakefodaaaGreat
open Go.ChangeAt Go.RowKit
theorem str_of {w : World} {v : Value} {l : List UInt8} (h : Rd w v l) : (convert 36 9 v).run Tryz.prog w = .ok (.string ⟨l.toArray⟩) w :=
  h.string 36 9 5 Tryz.underlying36 Tryz.underlying5 Tryz.underlying9
end Go.Proofs.YtaoegcakefodaaaGreat

namespace Go.Proofs.YtaoegcakefodaaaGreat
open Go.RowKit Go.BigFrame
theorem flip_pat (s : St) (id k : Int) (m : UInt8) : patS (flipS s id k m) = patS s := by
  unfold flipS
  cases hp : pageS s id with
  | none => rfl
  | some q =>
    obtain ⟨h0, h1, h2⟩ := pageS_lt hp
    simp only
    split
    · unfold setS patS
      rw [List.map_set]
      apply List.ext_getElem?
      intro i
      rw [List.getElem?_set]
      by_cases e : id.toNat = i
      · subst e
        rw [if_pos rfl, List.length_map, if_pos (by omega), List.getElem?_map, h2]
        rfl
      · rw [if_neg e]
    · rfl
theorem zeros300 : (madeCells (Value.int .u8 0).cells 300).toList = (List.replicate 300 (0 : UInt8)).map bv := by
  rw [List.map_replicate]
  exact toList_madeCells_one _ _
theorem put_six : ∃ (ids : List Nat) (s : St), putS (List.replicate 2000 none) (List.replicate 300 0) = ((ids, 0), s) ∧ ids.length = 6 ∧ usedS s = 6 ∧ s.length = 2000 ∧ okS s ∧ ∀ i ∈ ids, i < 2000 := by
  have hu := used_none17 2000
  have hl : (List.replicate 2000 none : St).length = 2000 := List.length_replicate
  have hn : needS (((List.replicate 300 0 : List UInt8).length : Nat) : Int) = 6 := by rw [List.length_replicate]; decide
  have hok : okS (List.replicate 2000 none : St) := ⟨by rw [hl]; decide, fun p hp => by have := List.eq_of_mem_replicate hp; cases this⟩
  have h := storeK_put (s := (List.replicate 2000 none : St)) (b := List.replicate 300 0) (by rw [hn, hu, hl]; decide)
  rw [hn] at h
  refine ⟨_, _, h, idsK_length (by rw [hu, hl]; decide), ?_, by rw [storeK_length, hl], storeK_ok hok _ _, fun i hi => ?_⟩
  · rw [storeK_used (by rw [hu, hl]; decide), hu]
    rfl
  · have := takeS_lt 6 0 (List.replicate 2000 none : St) i hi
    omega
set_option maxRecDepth 100000 in
set_option maxHeartbeats 4000000 in
theorem sorterSpoilt_walk (u : Value) (rs : List (List V)) (x : Value) (ks : List Ky) (which at' mask : Int) (w : World) (hu0 : RdRows w u rs) (hf : ∀ r ∈ rs, ∀ v ∈ r, v.fits ∧ v.s.length ≤ maxLen) (hz : ∀ n c, u = .slice none n c → n = 0 ∧ c = 0) (hx : RdKs w x ks) (_hk : ∀ k ∈ ks, k.fits) (hwh : 0 ≤ which ∧ which ≤ 255) (hat : 0 ≤ at' ∧ at' ≤ 255) (hmk : 0 ≤ mask ∧ mask ≤ 255) :
    Calls Tryz.prog 7 #[u, x, .int .u8 which, .int .u8 at', .int .u8 mask] w fun e w' => e = .returned (.bool true) ∧ Below w.heap.size w w' := by
  have hu := RdRV.of_rows hu0 hz
  clear hu0 hz
  obtain ⟨hwh0, hwh1⟩ := hwh
  obtain ⟨hat0, hat1⟩ := hat
  obtain ⟨mk, hmk'⟩ : ∃ mk : UInt8, (mk.toNat : Int) = mask := ⟨UInt8.ofNat mask.toNat, by
    rw [UInt8.toNat_ofNat', Nat.mod_eq_of_lt (by omega)]
    omega⟩
  obtain ⟨Wn, hWn⟩ : ∃ W : Nat, (W : Int) = which := ⟨which.toNat, by omega⟩
  obtain ⟨An, hAn⟩ : ∃ A : Nat, (A : Int) = at' := ⟨at'.toNat, by omega⟩
  subst hWn
  subst hAn
  obtain ⟨i0, hi, hz0, hz1, hz2⟩ := info_parts Tryz.info5
  have HMK := Lib.hid (fun W => run_makeSlice_full (P := Tryz.prog) W (base := W.heap.size) (t := 36) (e := 5) (i := i0) (z := .int .u8 0) (size := 1) (ht := Tryz.underlying36) (hi := hi) (hz := hz0) (hsize := hz1) (kl := .i64) (kc := .i64) (n := 300) (by decide) (by rw [hz2]; decide) (by unfold maxLen; decide) (Nat.le_refl _))
  obtain ⟨ids, S1, hput, hidl, hus1, hsl1, hok1, hid2⟩ := put_six
  have HPUT := Lib.hid hput
  have HIDL := Lib.hid hidl
  have HOK1 := Lib.hid hok1
  obtain ⟨iw, qW, hiw⟩ : ∃ i : Nat, ((Wn : Int) % 6) = (i : Int) ∧ i < 6 := ⟨Wn % 6, by omega, Nat.mod_lt _ (by decide)⟩
  obtain ⟨ia, qA, hia⟩ : ∃ i : Nat, ((An : Int) % 64) = (i : Int) ∧ i < 64 := ⟨An % 64, by omega, Nat.mod_lt _ (by decide)⟩
  have hw6 : iw < ids.length := by rw [hidl]; exact hiw
  have HID := Lib.hid (hid2 _ (List.getElem_mem hw6))
  have HIDE := Lib.hid (List.getElem?_eq_getElem hw6)
  generalize ids[iw] = id at HID HIDE
  have HUS2 := Lib.hid (show usedS (flipS S1 (id : Int) (ia : Int) mk) = 6 by rw [used_pat, flip_pat, ← used_pat]; exact hus1)
  have HSL2 := Lib.hid (show (flipS S1 (id : Int) (ia : Int) mk).length = 2000 by
    have h := congrArg List.length (flip_pat S1 (id : Int) (ia : Int) mk)
    unfold patS at h
    rw [List.length_map, List.length_map] at h
    rw [h]
    exact hsl1)
  have HOK2 := Lib.hid (flipS_ok hok1 (id : Int) (ia : Int) mk)
  have HF := Lib.hid hf
  have HU := Lib.hid hu
  have HX := Lib.hid hx
  clear hu hf hx hput hidl hok1 hid2 hw6 hus1 hsl1 hmk
  subst hmk'
  go_enter Tryz.func7, Tryz.ntmps7
  go_wp2_with fail
  refine (shown18_any _).mono ?_
  rintro e w1 ⟨rfl, x1⟩
  have X1 := Lib.hid x1
  clear x1
  go_wp2_with fail
  refine (few18_any _ rs w w1 HU.out X1.out HF.out).mono ?_
  rintro e w2 ⟨⟨v, Mf, rfl, hv, hfw⟩, x2⟩
  generalize rs.take Mf = xs at hv hfw
  have X2 := Lib.hid (Ext.trans X1.out x2)
  have HV := Lib.hid (hv.mono X2.out)
  have HW := Lib.hid hfw
  have HC := Lib.hid (cost_few hfw)
  obtain ⟨G, hG⟩ : ∃ G, greatR xs = G := ⟨_, rfl⟩
  have HGG := Lib.hid hG
  have hg := great_short hfw
  rw [hG] at hg
  obtain ⟨hg0, hg1⟩ := hg
  clear hv hfw x2 X1 hG
  go_wp2_with fail
  refine (some18_any x ks w2 (HX.out.mono X2.out)).mono ?_
  rintro e w3 ⟨⟨k, rfl, hk⟩, rfl⟩
  have HK := Lib.hid hk
  have hkl : (ks.take 10).length ≤ 10 := List.length_take_le _ _
  generalize ks.take 10 = kx at HK hkl
  clear hk
  go_wp2_with fail
  refine (pNew_any 2000 (by decide)).mono ?_
  rintro e w4 hN4
  unfold PNewed at hN4
  rcases hN4 with ⟨_, _, p, O1, rfl, hp4, ho4, hx4⟩ | ⟨h, _⟩
  rotate_left
  · omega
  have HP4 := Lib.hid (show PSto O1 w4 p (List.replicate 2000 none) from hp4)
  have HO4 := Lib.hid ho4
  have HX4 := Lib.hid hx4
  clear hp4 ho4 hx4
  go_wp2_with fail
  refine (greatest18_any v xs _ (HV.out.mono HX4.out).rd HC.out).mono ?_
  rw [HGG.out]
  rintro e w5 ⟨rfl, x5⟩
  have X5 := Lib.hid (Ext.trans HX4.out x5)
  have HP5 := Lib.hid (HP4.out.mono x5)
  clear x5
  obtain ⟨T, hT⟩ : ∃ T, 3 * G + 50 = T := ⟨_, rfl⟩
  have HT := Lib.hid hT
  have hT0 : 0 ≤ T := by omega
  have hT1 : T ≤ 20000 := by omega
  have HMIN := Lib.hid (show min (3 * G + 50) 1048576 = T by omega)
  clear hT
  go_wp2_with fail
  rw [HMIN.out]
  refine (purNew_any T w5 (by omega)).mono ?_
  rintro e w6 hN6
  unfold PurNewed at hN6
  rcases hN6 with ⟨_, _, q, rfl, hq6, hg6, hx6⟩ | ⟨h, _⟩
  rotate_left
  · omega
  have HQ6 := Lib.hid hq6
  have HG6 := Lib.hid hg6
  have HX6 := Lib.hid hx6
  have HOq := Lib.hid (show ¬ O1 q from fun h => by have := HP5.out.lt q h; omega)
  clear hq6 hg6 hx6
  obtain ⟨w6', hmk, hrow, hgr⟩ := HMK.out w6
  have HROW := Lib.hid (show Rd w6' (.slice (some ⟨w6.heap.size, 0, none⟩) 300 300) (List.replicate 300 0) from by
    have h := RdV.of_owns hrow
    rw [zeros300] at h
    exact h)
  have HX6' := Lib.hid (show Ext w6 w6' from ⟨hgr.os, hgr.tape, hgr.output, hgr.size, fun k hk => hgr.block k hk (by simp)⟩)
  have hmk2 : (Instr.makeSlice 36 (.int .i64 300) (.int .i64 300)).run Tryz.prog w6 = .ok (.slice (some ⟨w6.heap.size, 0, none⟩) 300 300) w6' := hmk
  clear hmk hrow hgr
  have HP6 := Lib.hid ((HP5.out.mono HX6.out).mono HX6'.out)
  go_wp2_with fail
  refine (pPut_any (O := O1) _ (List.replicate 300 0) HP6.out ⟨by rw [List.length_replicate]; decide, fun p hp => by have := List.eq_of_mem_replicate hp; cases this⟩ HROW.out (fun _ k hk h => by
    cases hk
    have h9 : w6.heap.size < w5.heap.size := HP5.out.lt _ h
    have := HX6.out.size
    omega) (by simp)).mono ?_
  rintro e w7 ⟨v7, rfl, hown7, O2, hp7, ho7, hn7, hv7⟩
  rw [HPUT.out] at hown7 hp7 ⊢
  simp only at hown7 hp7 ⊢
  rw [HIDL.out] at hown7
  obtain ⟨ga, gc, rfl, hg71, hg72, hgc1, hgc2⟩ := owns_shape hown7 (by decide)
  unfold maxLen at hgc2
  have HOWN := Lib.hid hown7
  have HP7 := Lib.hid hp7
  have HO7 := Lib.hid ho7
  have HN7 := Lib.hid hn7
  have HGO := Lib.hid (hv7 ga rfl)
  have hcx : w7.cell? ⟨ga, iw, none⟩ = some (.int .i64 (id : Int)) := by
    have h := hown7.cells (g := ga) rfl iw (iv id) (by rw [List.getElem?_map, HIDE.out]; rfl)
    rw [add_at, Nat.zero_add] at h
    exact h
  have HCX := Lib.hid hcx
  have hid20 := HID.out
  clear hown7 hp7 ho7 hn7 hv7
  have hq3 : w3.heap.size ≤ q ∧ q < w6.heap.size := ⟨by have := HG6.out; have := X5.out.size; omega, HQ6.out.lt⟩
  have hs66 : w6.heap.size ≤ w6'.heap.size := HX6'.out.size
  have HO1L := Lib.hid (show ∀ b, O1 b → w3.heap.size ≤ b ∧ b < w5.heap.size from fun b hb => ⟨HO4.out b hb, HP5.out.lt b hb⟩)
  have hs67 : w6'.heap.size ≤ w7.heap.size := HO7.out.size
  have hs56 : w5.heap.size ≤ w6.heap.size := HX6.out.size
  have hs35 : w3.heap.size ≤ w5.heap.size := X5.out.size
  have HB6 := Lib.hid (show Below w3.heap.size w3 w6' from Ext.trans X5.out (Ext.trans HX6.out HX6'.out))
  have HB7 := Lib.hid (HB6.out.trans (HO7.out.below (by omega) (fun b hb => (HO1L.out b hb).1)))
  have HO2L := Lib.hid (show ∀ b, O2 b → w3.heap.size ≤ b ∧ b ≠ q ∧ b < w7.heap.size from fun b hb => by
    refine ⟨?_, fun e => ?_, HP7.out.lt b hb⟩
    · rcases HN7.out b hb with h | h
      · exact (HO1L.out b h).1
      · omega
    · subst e
      rcases HN7.out b hb with h | h
      · exact HOq.out h
      · omega)
  have HQ7 := Lib.hid ((HQ6.out.ext HX6'.out).onlyS HO7.out HOq.out)
  go_wp2_with fail
  refine (pFlip_any (w := w7) (id : Int) (ia : Int) mk HP7.out HOK1.out (by omega) (by omega)).mono ?_
  rintro e w8 ⟨rfl, O3, k1, k2, k3, -⟩
  generalize flipS S1 (id : Int) (ia : Int) mk = S2 at k1 HUS2 HSL2 HOK2
  have HP8 := Lib.hid k1
  have HO8 := Lib.hid k2
  have HN8 := Lib.hid k3
  have hs78 : w7.heap.size ≤ w8.heap.size := k2.size
  have HB8 := Lib.hid (HB7.out.trans (k2.below (by omega) (fun b hb => (HO2L.out b hb).1)))
  have HO3L := Lib.hid (show ∀ b, O3 b → w3.heap.size ≤ b ∧ b ≠ q ∧ b ≠ ga from fun b hb => by
    rcases k3 b hb with h | h
    · exact ⟨(HO2L.out b h).1, (HO2L.out b h).2.1, fun e => HGO.out (e ▸ h)⟩
    · exact ⟨by omega, by omega, by omega⟩)
  have HQ8 := Lib.hid (HQ7.out.onlyS k2 (fun h => (HO2L.out q h).2.1 rfl))
  have HCX8 := Lib.hid (k2.cell HCX.out HGO.out)
  have c8 := HCX8.out
  clear k1 k2 k3 hcx
  go_wp2_with fail
  refine (pRaw_any (w := w8) (id : Int) HP8.out HOK2.out (by omega)).mono ?_
  rintro e w9 ⟨v9, rfl, hv9, O4, k1, k2, k3, k4⟩
  obtain ⟨RB, hRB⟩ : ∃ R, rawS S2 (id : Int) = R := ⟨_, rfl⟩
  have HRB := Lib.hid hRB
  rw [hRB] at hv9 ⊢
  obtain ⟨RB, RE⟩ := RB
  simp only at hv9 ⊢
  have HV9 := Lib.hid hv9.rd
  have HV9K := Lib.hid (show ∀ k, v9.ownBlock = some k → w8.heap.size ≤ k from fun k hk => by
    rcases hv9 with ⟨rfl, -⟩ | ⟨g, off, cap, rfl, hg, -⟩
    · cases hk
    · cases hk
      exact hg)
  have HP9 := Lib.hid k1
  have HK4 := Lib.hid k4
  have hs89 : w8.heap.size ≤ w9.heap.size := k2.size
  have HB9 := Lib.hid (HB8.out.trans (k2.below (by omega) (fun b hb => (HO3L.out b hb).1)))
  have HO4L := Lib.hid (show ∀ b, O4 b → w3.heap.size ≤ b ∧ b ≠ q ∧ b ≠ ga from fun b hb => by
    rcases k3 b hb with h | h
    · exact HO3L.out b h
    · exact ⟨by omega, by omega, by omega⟩)
  have HQ9 := Lib.hid (HQ8.out.onlyS k2 (fun h => (HO3L.out q h).2.1 rfl))
  have HCX9 := Lib.hid (k2.cell HCX8.out (fun h => (HO3L.out ga h).2.2 rfl))
  obtain ⟨va, vc, hve, -, -⟩ := hv9.rd.shape
  subst hve
  clear k1 k2 k3 k4 hv9 hRB c8
  have HYB := Lib.hid (fun i (hi : O4 i ∨ i = q) => show w3.heap.size ≤ i from hi.elim (fun h => (HO4L.out i h).1) (fun h => by omega))
  have HBEL := Lib.hid (fun W (hW : OnlyS (fun i => O4 i ∨ i = q) w9 W) => show Ext w3 W from HB9.out.trans (hW.below HB9.out.size HYB.out))
  have HFIT := Lib.hid (show ∀ r ∈ xs, mayR r = 0 ∧ FitR 5000 r from fun r hr => ⟨(HW.out.2.1 r hr).2.1, fun v hv => ⟨((HW.out.2.1 r hr).2.2 v hv).1, Nat.le_trans ((HW.out.2.1 r hr).2.2 v hv).2 (by decide)⟩⟩)
  have hx60 := HW.out.1
  go_wp2_with fail
  refine (pSort18_any (fun i => O4 i ∨ i = q) O4 p q S2 ⟨T, 0, 0⟩ v k xs kx 3 w9 HP9.out HOK2.out HQ9.out (fun h => (HO4L.out q h).2.1 rfl) (fun i h => h) (fun W hW => HV.out.mono (HBEL.out W hW)) (fun W hW => HK.out.mono (HBEL.out W hW)) (by omega) (by omega) HFIT.out (by decide)).mono ?_
  rintro e w10 ⟨out, E, O', pu', rfl, hp10, hq10, hm10, hn10, ho10, hO10, hq10', -, h2, h3, -⟩
  have h2' := h2 (by decide) (by decide)
  have hbl := bytes18 HW.out
  have hrn := (runsG_le T xs 0 0).1
  have hE : E = 0 := by
    have e1 := h2'.2.2.2.1 (show RoomM18 (T - 0) xs 3 by
      unfold RoomM18
      rw [HGG.out]
      have := HT.out
      omega)
    have e2 := h2'.2.2.2.2 (show RoomD18 S2 (T - 0) xs from by
      rw [Int.sub_zero, RoomD18, HUS2.out, HSL2.out]
      have hnd : 0 ≤ needS ((rowsB xs).length : Int) ∧ needS ((rowsB xs).length : Int) ≤ 460 := by unfold needS; split <;> omega
      have hr : (runsR xs T).1 ≤ 0 + xs.length := hrn
      refine ⟨fun _ => ?_, fun _ => ?_⟩ <;> omega)
    omega
  subst hE
  have HOUT := Lib.hid (h3 rfl)
  have HP10 := Lib.hid hp10
  have HB10 := Lib.hid (show Ext w3 w10 from HBEL.out w10 ho10)
  have hs910 : w9.heap.size ≤ w10.heap.size := ho10.size
  have HO5L := Lib.hid (show ∀ b, O' b → O4 b ∨ w9.heap.size ≤ b from hO10)
  have HCX10 := Lib.hid (ho10.cell HCX9.out (fun h => h.elim (fun h => (HO4L.out ga h).2.2 rfl) (fun h => by
    have h9 : ga = q := h
    omega)))
  have HV10 := Lib.hid (HV9.out.onlyS ho10 (fun _ k hk h => h.elim (HK4.out k hk) (fun e => by have := HV9K.out k hk; omega)))
  have HVLT := Lib.hid (show RB ≠ [] → ∀ k, (Value.slice va RB.length vc).ownBlock = some k → k < w9.heap.size from fun hne k hk => by
    rcases HV9.out with ⟨-, h⟩ | ⟨ad, c9, h, -, -, hcc⟩
    · rw [List.map_eq_nil_iff] at h
      exact absurd h hne
    · simp only [Value.slice.injEq] at h
      obtain ⟨rfl, -, -⟩ := h
      have h0 := hcc 0 _ (List.getElem?_eq_getElem (by rw [List.length_map]; exact List.length_pos_iff.2 hne))
      have h1 := lt_of_cell h0
      rw [add_block] at h1
      cases hk
      exact h1)
  have c10 := HCX10.out
  clear h2 h2' h3 hp10 hq10 hm10 hn10 ho10 hO10 hq10' hbl hrn
  go_wp2_with fail
  refine (pRaw_any (w := w10) (id : Int) HP10.out HOK2.out (by omega)).mono ?_
  rw [HRB.out]
  rintro e w11 ⟨v11, rfl, hv11, O6, k1, k2, k3, k4⟩
  simp only at hv11 ⊢
  have HV11 := Lib.hid (show Rd w11 v11 RB from hv11.rd)
  have HP11 := Lib.hid k1
  have HB11 := Lib.hid (show Ext w3 w11 from (show Below w3.heap.size w3 w10 from HB10.out).trans (k2.below (by omega) (fun b hb => by
    rcases HO5L.out b hb with h | h
    · exact (HO4L.out b h).1
    · omega)))
  have HW11 := Lib.hid (show Rd w11 _ RB from HV10.out.onlyS k2 (fun hne k hk h => by
    rcases HO5L.out k h with h1 | h1
    · exact HK4.out k hk h1
    · have := HVLT.out hne k hk
      omega))
  have HOUT11 := Lib.hid (show RdRows w11 out (sortS kx xs) from (HOUT.out w11 (k2.mono (fun b _ h => .inr h))).rd)
  obtain ⟨va2, vc2, hve, -, -⟩ := hv11.rd.shape
  subst hve
  clear k1 k2 k3 k4 hv11 c10
  go_wp2_with fail
  refine (pSort15_any v k xs kx w11 (HV.out.mono HB11.out) (HK.out.mono HB11.out) ⟨fun r hr => (HFIT.out r hr).2, fun r hr => Nat.le_trans (HW.out.2.1 r hr).1 (by decide)⟩ (by omega)).mono ?_
  rintro e w12 ⟨⟨o12, rfl, h12⟩, x12⟩
  have HO12 := Lib.hid h12.rd
  have X12 := Lib.hid x12
  clear h12 x12
  go_wp2_with fail
  refine (refSameRows_any out o12 (sortS kx xs) (sortS kx xs) w12 (HOUT11.out.mono X12.out) HO12.out).mono ?_
  rw [decide_eq_true rfl]
  rintro e w13 ⟨rfl, x13⟩
  have X13 := Lib.hid (Ext.trans X12.out x13)
  have hs1 := str_of (HW11.out.mono X13.out)
  have hs2 := str_of (HV11.out.mono X13.out)
  have hus := HUS2.out
  clear x13
  go_wp2_with fail
  refine (pUsed_any (HP11.out.mono X13.out)).mono ?_
  rw [hus]
  rintro e w14 ⟨rfl, x14⟩
  have HFIN := Lib.hid (Ext.trans X2.out (Ext.trans HB11.out (Ext.trans X13.out x14)))
  clear x14
  go_wp2_with fail
  go_ret
  exact ⟨rfl, HFIN.out⟩
end Go.Proofs.YtaoegcakefodaaaGreat

