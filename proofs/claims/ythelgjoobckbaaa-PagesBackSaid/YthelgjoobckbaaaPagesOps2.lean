/-
  The program's contracts of layer 5: Raw, Flip, Used, Most, Need.
-/
import Derived.Test.YthelgjoobckbaaaPagesOps
import Derived.RegionTactic
import Derived.ChangeAlike
namespace Go.Proofs.Ythelgjoobckbaaa
open Go.RowKit Go.BigFrame

variable {O : Nat → Prop} {p : Nat} {s : St} {w : World}

theorem rawS_map (t : Slots) (id : Int) : rawS (bytesT t) id = match pageT t id with | none => ([], 2) | some x => (x.2, 0) := by
  unfold rawS
  rw [pageS_bytesT]
  cases pageT t id with
  | none => rfl
  | some x => rfl
theorem ownP_pstep {w w' : World} {v : Value} {l : List UInt8} (h : w'.ownsRow w.heap.size 5 1 v (l.map bv).length (l.map bv)) : OwnP w.heap.size w' v l ∧ ∀ k, v.ownBlock = some k → w.heap.size ≤ k := by
  rw [List.length_map] at h
  exact ⟨OwnP.of_owns h, fun k hk => (h.lt k hk).1⟩
/-- Bytes of a page as a slice. -/
theorem rd_page {w : World} {b n cap : Nat} {l : List UInt8} (h : w.rangeAt b 0 (l.map bv)) (hn : n = l.length) (hc : n ≤ cap) (hm : cap ≤ maxLen) : Rd w (.slice (some ⟨b, 0, none⟩) n cap) l := by
  subst hn
  exact .inr ⟨⟨b, 0, none⟩, cap, by rw [List.length_map], by rw [List.length_map]; exact hc, hm, fun i u hu => by rw [add_at]; exact h i u hu⟩

set_option maxRecDepth 100000 in
set_option maxHeartbeats 1000000 in
theorem pRaw_any (id : Int) (h : PSto O w p s) (hok : okS s) (hn : -9223372036854775808 ≤ id ∧ id ≤ 9223372036854775807) :
    Calls Try.prog 18 #[.pointer (some ⟨p, 0, none⟩), .int .i64 id] w fun e w' => ∃ v, e = .returned (.tuple #[v, .int .i64 (rawS s id).2]) ∧ OwnP w.heap.size w' v (rawS s id).1 ∧ PStep O w p s w' v := by
  have HP := Lib.hid h
  obtain ⟨g, t, rfl, ht, rfl⟩ := h
  have HA := Lib.hid (pAllocated_any p g t id w ht hn)
  rw [rawS_map]
  cases hp : pageT t id with
  | none =>
    rw [hp] at HA
    clear hp ht hok
    simp only [ptrV] at HA
    go_enter Try.func18, Try.ntmps18
    go_wp2_with fail
    refine HA.out.mono ?_
    rintro e w2 ⟨rfl, rfl⟩
    go_wp2_with fail
    go_ret2
    exact ⟨_, rfl, .inl ⟨rfl, rfl⟩, pstep_same HP.out (Below.refl _ _) (fun k hk => by cases hk)⟩
  | some x =>
    obtain ⟨pb, l0⟩ := x
    obtain ⟨k0, k1, hs⟩ := pageT_lt hp
    rw [hp] at HA
    simp only
    have hlen0 : l0.length = 64 := hok.2 l0 (by unfold bytesT; exact List.mem_map.2 ⟨some (pb, l0), List.mem_of_getElem? hs, rfl⟩)
    have HR := Lib.hid (rd_page (n := 64) (cap := 64) (ht.page _ pb l0 hs) hlen0.symm (Nat.le_refl _) (by simp [maxLen]))
    have HL0 := Lib.hid hlen0
    simp only [ptrV] at HA
    clear hp hs ht hok hn hlen0
    go_enter Try.func18, Try.ntmps18
    go_wp2_with fail
    refine HA.out.mono ?_
    rintro e w2 ⟨rfl, rfl⟩
    go_wp2_with fail
    refine (Clone_any _ l0 _ HR.out (by rw [HL0.out]; omega)).mono ?_
    rintro e w3 ⟨v, rfl, ho, hb⟩
    have HO := Lib.hid (ownP_pstep ho)
    have HB := Lib.hid hb
    clear ho hb
    go_wp2_with fail
    go_ret2
    exact ⟨v, rfl, HO.out.1, pstep_same HP.out HB.out HO.out.2⟩

theorem flipS_map (t : Slots) (id k : Int) (m : UInt8) : flipS (bytesT t) id k m = match pageT t id with | none => bytesT t | some x => if 0 ≤ k ∧ k < 64 then bytesT (t.set id.toNat (some (x.1, turnB x.2 k.toNat m))) else bytesT t := by
  unfold flipS
  rw [pageS_bytesT]
  cases pageT t id with
  | none => rfl
  | some x => simp only [Option.map_some, setS, bytesT_set]

set_option maxRecDepth 100000 in
set_option maxHeartbeats 1000000 in
theorem pFlip_any (id k : Int) (m : UInt8) (h : PSto O w p s) (hok : okS s) (hn : -9223372036854775808 ≤ id ∧ id ≤ 9223372036854775807) (hk : -9223372036854775808 ≤ k ∧ k ≤ 9223372036854775807) :
    Calls Try.prog 22 #[.pointer (some ⟨p, 0, none⟩), .int .i64 id, .int .i64 k, .int .u8 m.toNat] w fun e w' => e = .returned (.tuple #[]) ∧ PStep O w p (flipS s id k m) w' .nilIface := by
  have HP := Lib.hid h
  obtain ⟨g, t, rfl, ht, rfl⟩ := h
  have HA := Lib.hid (pAllocated_any p g t id w ht hn)
  rw [flipS_map]
  obtain ⟨hk0, hk1⟩ := hk
  obtain ⟨M, hM⟩ : ∃ M : Nat, M = m.toNat := ⟨_, rfl⟩
  rw [← hM]
  have hMlt : M ≤ 255 := by have := m.toNat_lt; omega
  cases hp : pageT t id with
  | none =>
    rw [hp] at HA
    clear hp ht hok hM
    simp only [ptrV] at HA
    go_enter Try.func22, Try.ntmps22
    go_wp2_with fail
    refine HA.out.mono ?_
    rintro e w2 ⟨rfl, rfl⟩
    go_wp2_with fail
    refine bodyPost_ret (v := .tuple #[]) (results_none rfl _ _ _) rfl ?_
    exact ⟨rfl, pstep_same HP.out (Below.refl _ _) (fun k hk => by cases hk)⟩
  | some x =>
    obtain ⟨pb, l0⟩ := x
    obtain ⟨k0, k1, hs⟩ := pageT_lt hp
    rw [hp] at HA
    simp only
    simp only [ptrV] at HA
    by_cases hin : 0 ≤ k ∧ k < 64
    · rw [if_pos hin]
      obtain ⟨hi0, hi1⟩ := hin
      obtain ⟨c, rfl⟩ := Int.eq_ofNat_of_zero_le hi0
      obtain ⟨i, rfl⟩ := Int.eq_ofNat_of_zero_le k0
      rw [Int.toNat_natCast] at hs
      simp only [Int.toNat_natCast]
      have hlen0 : l0.length = 64 := hok.2 l0 (by unfold bytesT; exact List.mem_map.2 ⟨some (pb, l0), List.mem_of_getElem? hs, rfl⟩)
      have hclt : c < l0.length := by omega
      have hpg := ht.page i pb l0 hs
      have hcell := hpg c (bv l0[c]) (by rw [List.getElem?_map, List.getElem?_eq_getElem hclt]; rfl)
      rw [Nat.zero_add] at hcell
      have hfr := ht.pfree i pb l0 hs c (by omega)
      have hT : turnB l0 c m = l0.set c (l0[c] ^^^ m) := by unfold turnB; rw [List.getD_eq_getElem?_getD, List.getElem?_eq_getElem hclt]; rfl
      have hxor := u8_xorV l0[c] m
      rw [← hM] at hxor
      have HT := Lib.hid ht
      have HS := Lib.hid hs
      have HCE := Lib.hid hcell
      obtain ⟨W2, hW2⟩ : ∃ W2, W2 = (w.setCell ⟨pb, c, none⟩ (bv (l0[c] ^^^ m))).drew := ⟨_, rfl⟩
      have HPG := Lib.hid (show W2.rangeAt pb 0 ((turnB l0 c m).map bv) from by
        intro j u hu
        rw [Nat.zero_add, hW2]
        rw [hT, List.map_set, List.getElem?_set] at hu
        by_cases e : c = j
        · subst e
          rw [if_pos rfl] at hu
          split at hu
          · cases hu
            show (w.setCell _ _).cell? _ = _
            exact World.cell?_setCell_same _ _ _ hcell
          · cases hu
        · rw [if_neg e] at hu
          show (w.setCell _ _).cell? _ = _
          rw [cell_set_other (.inr (fun h => e h.symm))]
          have := hpg j u hu
          rw [Nat.zero_add] at this
          exact this)
      have HFR := Lib.hid (show ∀ j, j < 64 → W2.frozen? ⟨pb, j, none⟩ = false from fun j hj => by
        rw [hW2]
        have := ht.pfree i pb l0 hs j hj
        simpa [go_sem] using this)
      have HOT := Lib.hid (show ∀ k, k ≠ pb → W2.heap[k]? = w.heap[k]? from fun k hk => by rw [hW2]; show (w.setCell _ _).heap[k]? = _; exact Below.heap_setCell _ _ _ _ hk)
      have HRE := Lib.hid (show W2.heap.size = w.heap.size ∧ W2.os = w.os ∧ W2.tape = w.tape ∧ W2.output = w.output from by rw [hW2]; exact ⟨by simp [World.setCell], rfl, rfl, rfl⟩)
      rw [← hxor] at hW2
      have HW2 := Lib.hid hW2
      generalize turnB l0 c m = T at HPG
      unfold bv at hcell
      obtain ⟨C, hC⟩ : ∃ C : Nat, C = l0[c].toNat := ⟨_, rfl⟩
      have hClt : C ≤ 255 := by have := l0[c].toNat_lt; omega
      rw [← hC] at hcell HW2
      have hd1 : decide ((c : Int) < 0) = false := decide_eq_false (by omega)
      have hd2 : decide (64 ≤ (c : Int)) = false := decide_eq_false (by omega)
      have hc64 : c < 64 := by omega
      clear hp hs ht hok hM hT hxor hW2 hC hpg HCE HP hclt
      go_enter Try.func22, Try.ntmps22
      go_wp2_with fail
      refine HA.out.mono ?_
      rintro e w2 ⟨rfl, rfl⟩
      go_wp2_with fail
      go_region
      go_wp2_with fail
      go_end0
      rw [← HW2.out]
      have h1 := HRE.out
      refine ⟨rfl, ownT p g (t.set i (some (pb, T))), ⟨g, _, rfl, ?_, rfl⟩, ?_, fun b hb => .inl (ownT_set p g t i pb T (mem_of_at HS.out) b hb), fun _ hk => by cases hk⟩
      · exact HT.out.write HS.out T (by rw [h1.1]; exact Nat.le_refl _) (fun k _ hk => HOT.out k hk) HPG.out HFR.out
      · exact ⟨h1.2.1, h1.2.2.1, h1.2.2.2, by rw [h1.1]; exact Nat.le_refl _, fun k _ hx => HOT.out k (fun e => hx (by rw [e]; exact .inr (.inr (mem_of_at HS.out))))⟩
    · rw [if_neg hin]
      clear hp hs ht hok hM
      by_cases hneg : k < 0
      · have hd1 : decide (k < 0) = true := decide_eq_true hneg
        go_enter Try.func22, Try.ntmps22
        go_wp2_with fail
        refine HA.out.mono ?_
        rintro e w2 ⟨rfl, rfl⟩
        go_wp2_with fail
        refine bodyPost_ret (v := .tuple #[]) (results_none rfl _ _ _) rfl ?_
        exact ⟨rfl, pstep_same HP.out (Below.refl _ _) (fun k hk => by cases hk)⟩
      · have hd1 : decide (k < 0) = false := decide_eq_false hneg
        have hd2 : decide (64 ≤ k) = true := decide_eq_true (by omega)
        go_enter Try.func22, Try.ntmps22
        go_wp2_with fail
        refine HA.out.mono ?_
        rintro e w2 ⟨rfl, rfl⟩
        go_wp2_with fail
        refine bodyPost_ret (v := .tuple #[]) (results_none rfl _ _ _) rfl ?_
        exact ⟨rfl, pstep_same HP.out (Below.refl _ _) (fun k hk => by cases hk)⟩

theorem pNeed_any (n : Int) (hn : -9223372036854775808 ≤ n ∧ n ≤ 9223372036854775807) : Calls Try.prog 27 #[.int .i64 n] w fun e w' => e = .returned (.int .i64 (needS n)) ∧ Ext w w' := by
  obtain ⟨h0, h1⟩ := hn
  unfold needS
  by_cases h : n < 1
  · rw [if_pos h]
    go_enter Try.func27, Try.ntmps27
    go_wp2_with fail
    go_ret
    exact ⟨rfl, Below.refl _ _⟩
  · rw [if_neg h]
    obtain ⟨k, rfl⟩ := Int.eq_ofNat_of_zero_le (show 0 ≤ n by omega)
    go_enter Try.func27, Try.ntmps27
    go_wp2_with fail
    go_ret
    exact ⟨rfl, Below.refl _ _⟩

theorem pMost_any (h : PSto O w p s) : Calls Try.prog 11 #[.pointer (some ⟨p, 0, none⟩)] w fun e w' => e = .returned (.int .i64 s.length) ∧ Ext w w' := by
  obtain ⟨g, t, rfl, ht, rfl⟩ := h
  have hq := ht.top
  have hfew := ht.few
  rw [bytesT_length]
  clear ht
  generalize t.length = L at hq hfew ⊢
  go_enter Try.func11, Try.ntmps11
  go_wp2_with fail
  go_ret
  exact ⟨rfl, Below.refl _ _⟩

set_option maxRecDepth 100000 in
theorem pUsed_any (h : PSto O w p s) : Calls Try.prog 14 #[.pointer (some ⟨p, 0, none⟩)] w fun e w' => e = .returned (.int .i64 (usedS s)) ∧ Ext w w' := by
  obtain ⟨g, t, rfl, ht, rfl⟩ := h
  have hq := ht.top
  have hfew := ht.few
  have HT := Lib.hid ht
  clear ht
  generalize hL : t.length = L at hq hfew
  replace hL := Lib.hid hL
  go_enter Try.func14, Try.ntmps14
  go_wp2_with fail
  go_loopw [3, 13] (fun n i wr => ∃ (j u : Nat), j ≤ L ∧ u ≤ j ∧ i = .int .i64 j ∧ n = .int .i64 u ∧ u = usedS (bytesT (t.take j)) ∧ w = wr) (fun _ i _ => L - (intOf i).toNat)
  case atStart => exact ⟨0, 0, Nat.zero_le _, Nat.le_refl _, rfl, rfl, rfl, rfl⟩
  case round =>
    obtain ⟨j, u, hj, hu, rfl, rfl, hus, rfl⟩ := hrel
    have HU := Lib.hid hus
    clear hus
    by_cases hlt : j < L
    · have hjs : j < t.length := by have := hL.out; omega
      have hs : t[j]? = some t[j] := List.getElem?_eq_getElem hjs
      have hc := HT.out.slot j _ hs
      have HTT := Lib.hid (show usedS (bytesT (t.take (j + 1))) = usedS (bytesT (t.take j)) + (if (t[j]).isSome = true then 1 else 0) from by
        unfold usedS bytesT
        rw [List.take_succ_eq_append_getElem hjs, List.map_append, List.countP_append]
        cases t[j] <;> rfl)
      clear hs
      generalize t[j] = B at hc HTT
      cases B with
      | none =>
        simp only [ptrV] at hc
        go_wp2_with fail
        go_roundw
        case rel => exact ⟨j + 1, u, by omega, by omega, by go_num, rfl, by rw [HTT.out, ← HU.out]; rfl, trivial⟩
        case measure => simp [intOf]; omega
      | some x =>
        simp only [ptrV] at hc
        go_wp2_with fail
        go_roundw
        case rel => exact ⟨j + 1, u + 1, by omega, by omega, by go_num, by go_num, by rw [HTT.out, ← HU.out]; rfl, trivial⟩
        case measure => simp [intOf]; omega
    · have HF := Lib.hid (show u = usedS (bytesT t) from by rw [HU.out, List.take_of_length_le (by have := hL.out; omega)])
      go_wp2_with fail
      go_ret
      exact ⟨by rw [← HF.out]; rfl, Below.refl _ _⟩

end Go.Proofs.Ythelgjoobckbaaa
