/-
  Texts of this proof, merged: PagesOps2, PagesReads, PagesTake, PagesAllocs, PagesPuts, PagesPutsB.
-/
import Derived.RegionTactic
import Derived.ChangeAlike
import Derived.Test.YtoagpaphghgkmaaZ4
/-
  The program's contracts of layer 5: Raw, Flip, Used, Most, Need.
-/
namespace Go.Proofs.Ytoagpaphghgkmaa
open Go.RowKit Go.BigFrame

variable {O : Nat → Prop} {p : Nat} {s : St} {w : World}

theorem rawS_map (t : Slots) (id : Int) : rawS (bytesT t) id = match pageT t id with | none => ([], 2) | some x => (x.2, 0) := by
  unfold rawS
  rw [pageS_bytesT]
  cases pageT t id with
  | none => rfl
  | some x => rfl
theorem ownP_pstep {w w' : World} {v : Value} {l : List UInt8} (h : w'.ownsRow w.heap.size 5 1 v (l.map bv).length (l.map bv)) : OwnP w.heap.size w' v l ∧ ∀ k, v.ownBlock = some k → w.heap.size ≤ k := by
  rw [List.length_map] at h
  exact ⟨OwnP.of_owns h, fun k hk => (h.lt k hk).1⟩
/-- Bytes of a page as a slice. -/
theorem rd_page {w : World} {b n cap : Nat} {l : List UInt8} (h : w.rangeAt b 0 (l.map bv)) (hn : n = l.length) (hc : n ≤ cap) (hm : cap ≤ maxLen) : Rd w (.slice (some ⟨b, 0, none⟩) n cap) l := by
  subst hn
  exact .inr ⟨⟨b, 0, none⟩, cap, by rw [List.length_map], by rw [List.length_map]; exact hc, hm, fun i u hu => by rw [add_at]; exact h i u hu⟩

set_option maxRecDepth 100000 in
set_option maxHeartbeats 1000000 in
theorem pRaw_any (id : Int) (h : PSto O w p s) (hok : okS s) (hn : -9223372036854775808 ≤ id ∧ id ≤ 9223372036854775807) :
    Calls Try.prog 22 #[.pointer (some ⟨p, 0, none⟩), .int .i64 id] w fun e w' => ∃ v, e = .returned (.tuple #[v, .int .i64 (rawS s id).2]) ∧ OwnP w.heap.size w' v (rawS s id).1 ∧ PStep O w p s w' v := by
  have HP := Lib.hid h
  obtain ⟨g, t, rfl, ht, rfl⟩ := h
  have HA := Lib.hid (pAllocated_any p g t id w ht hn)
  rw [rawS_map]
  cases hp : pageT t id with
  | none =>
    rw [hp] at HA
    clear hp ht hok
    simp only [ptrV] at HA
    go_enter Try.func22, Try.ntmps22
    go_wp2_with fail
    refine HA.out.mono ?_
    rintro e w2 ⟨rfl, rfl⟩
    go_wp2_with fail
    go_ret2
    exact ⟨_, rfl, .inl ⟨rfl, rfl⟩, pstep_same HP.out (Below.refl _ _) (fun k hk => by cases hk)⟩
  | some x =>
    obtain ⟨pb, l0⟩ := x
    obtain ⟨k0, k1, hs⟩ := pageT_lt hp
    rw [hp] at HA
    simp only
    have hlen0 : l0.length = 64 := hok.2 l0 (by unfold bytesT; exact List.mem_map.2 ⟨some (pb, l0), List.mem_of_getElem? hs, rfl⟩)
    have HR := Lib.hid (rd_page (n := 64) (cap := 64) (ht.page _ pb l0 hs) hlen0.symm (Nat.le_refl _) (by simp [maxLen]))
    have HL0 := Lib.hid hlen0
    simp only [ptrV] at HA
    clear hp hs ht hok hn hlen0
    go_enter Try.func22, Try.ntmps22
    go_wp2_with fail
    refine HA.out.mono ?_
    rintro e w2 ⟨rfl, rfl⟩
    go_wp2_with fail
    refine (Clone_any _ l0 _ HR.out (by rw [HL0.out]; omega)).mono ?_
    rintro e w3 ⟨v, rfl, ho, hb⟩
    have HO := Lib.hid (ownP_pstep ho)
    have HB := Lib.hid hb
    clear ho hb
    go_wp2_with fail
    go_ret2
    exact ⟨v, rfl, HO.out.1, pstep_same HP.out HB.out HO.out.2⟩

theorem flipS_map (t : Slots) (id k : Int) (m : UInt8) : flipS (bytesT t) id k m = match pageT t id with | none => bytesT t | some x => if 0 ≤ k ∧ k < 64 then bytesT (t.set id.toNat (some (x.1, turnB x.2 k.toNat m))) else bytesT t := by
  unfold flipS
  rw [pageS_bytesT]
  cases pageT t id with
  | none => rfl
  | some x => simp only [Option.map_some, setS, bytesT_set]

set_option maxRecDepth 100000 in
set_option maxHeartbeats 1000000 in
theorem pFlip_any (id k : Int) (m : UInt8) (h : PSto O w p s) (hok : okS s) (hn : -9223372036854775808 ≤ id ∧ id ≤ 9223372036854775807) (hk : -9223372036854775808 ≤ k ∧ k ≤ 9223372036854775807) :
    Calls Try.prog 30 #[.pointer (some ⟨p, 0, none⟩), .int .i64 id, .int .i64 k, .int .u8 m.toNat] w fun e w' => e = .returned (.tuple #[]) ∧ PStep O w p (flipS s id k m) w' .nilIface := by
  have HP := Lib.hid h
  obtain ⟨g, t, rfl, ht, rfl⟩ := h
  have HA := Lib.hid (pAllocated_any p g t id w ht hn)
  rw [flipS_map]
  obtain ⟨hk0, hk1⟩ := hk
  obtain ⟨M, hM⟩ : ∃ M : Nat, M = m.toNat := ⟨_, rfl⟩
  rw [← hM]
  have hMlt : M ≤ 255 := by have := m.toNat_lt; omega
  cases hp : pageT t id with
  | none =>
    rw [hp] at HA
    clear hp ht hok hM
    simp only [ptrV] at HA
    go_enter Try.func30, Try.ntmps30
    go_wp2_with fail
    refine HA.out.mono ?_
    rintro e w2 ⟨rfl, rfl⟩
    go_wp2_with fail
    refine bodyPost_ret (v := .tuple #[]) (results_none rfl _ _ _) rfl ?_
    exact ⟨rfl, pstep_same HP.out (Below.refl _ _) (fun k hk => by cases hk)⟩
  | some x =>
    obtain ⟨pb, l0⟩ := x
    obtain ⟨k0, k1, hs⟩ := pageT_lt hp
    rw [hp] at HA
    simp only
    simp only [ptrV] at HA
    by_cases hin : 0 ≤ k ∧ k < 64
    · rw [if_pos hin]
      obtain ⟨hi0, hi1⟩ := hin
      obtain ⟨c, rfl⟩ := Int.eq_ofNat_of_zero_le hi0
      obtain ⟨i, rfl⟩ := Int.eq_ofNat_of_zero_le k0
      rw [Int.toNat_natCast] at hs
      simp only [Int.toNat_natCast]
      have hlen0 : l0.length = 64 := hok.2 l0 (by unfold bytesT; exact List.mem_map.2 ⟨some (pb, l0), List.mem_of_getElem? hs, rfl⟩)
      have hclt : c < l0.length := by omega
      have hpg := ht.page i pb l0 hs
      have hcell := hpg c (bv l0[c]) (by rw [List.getElem?_map, List.getElem?_eq_getElem hclt]; rfl)
      rw [Nat.zero_add] at hcell
      have hfr := ht.pfree i pb l0 hs c (by omega)
      have hT : turnB l0 c m = l0.set c (l0[c] ^^^ m) := by unfold turnB; rw [List.getD_eq_getElem?_getD, List.getElem?_eq_getElem hclt]; rfl
      have hxor := u8_xorV l0[c] m
      rw [← hM] at hxor
      have HT := Lib.hid ht
      have HS := Lib.hid hs
      have HCE := Lib.hid hcell
      obtain ⟨W2, hW2⟩ : ∃ W2, W2 = (w.setCell ⟨pb, c, none⟩ (bv (l0[c] ^^^ m))).drew := ⟨_, rfl⟩
      have HPG := Lib.hid (show W2.rangeAt pb 0 ((turnB l0 c m).map bv) from by
        intro j u hu
        rw [Nat.zero_add, hW2]
        rw [hT, List.map_set, List.getElem?_set] at hu
        by_cases e : c = j
        · subst e
          rw [if_pos rfl] at hu
          split at hu
          · cases hu
            show (w.setCell _ _).cell? _ = _
            exact World.cell?_setCell_same _ _ _ hcell
          · cases hu
        · rw [if_neg e] at hu
          show (w.setCell _ _).cell? _ = _
          rw [cell_set_other (.inr (fun h => e h.symm))]
          have := hpg j u hu
          rw [Nat.zero_add] at this
          exact this)
      have HFR := Lib.hid (show ∀ j, j < 64 → W2.frozen? ⟨pb, j, none⟩ = false from fun j hj => by
        rw [hW2]
        have := ht.pfree i pb l0 hs j hj
        simpa [go_sem] using this)
      have HOT := Lib.hid (show ∀ k, k ≠ pb → W2.heap[k]? = w.heap[k]? from fun k hk => by rw [hW2]; show (w.setCell _ _).heap[k]? = _; exact Below.heap_setCell _ _ _ _ hk)
      have HRE := Lib.hid (show W2.heap.size = w.heap.size ∧ W2.os = w.os ∧ W2.tape = w.tape ∧ W2.output = w.output from by rw [hW2]; exact ⟨by simp [World.setCell], rfl, rfl, rfl⟩)
      rw [← hxor] at hW2
      have HW2 := Lib.hid hW2
      generalize turnB l0 c m = T at HPG
      unfold bv at hcell
      obtain ⟨C, hC⟩ : ∃ C : Nat, C = l0[c].toNat := ⟨_, rfl⟩
      have hClt : C ≤ 255 := by have := l0[c].toNat_lt; omega
      rw [← hC] at hcell HW2
      have hd1 : decide ((c : Int) < 0) = false := decide_eq_false (by omega)
      have hd2 : decide (64 ≤ (c : Int)) = false := decide_eq_false (by omega)
      have hc64 : c < 64 := by omega
      clear hp hs ht hok hM hT hxor hW2 hC hpg HCE HP hclt
      go_enter Try.func30, Try.ntmps30
      go_wp2_with fail
      refine HA.out.mono ?_
      rintro e w2 ⟨rfl, rfl⟩
      go_wp2_with fail
      go_region
      go_wp2_with fail
      go_end0
      rw [← HW2.out]
      have h1 := HRE.out
      refine ⟨rfl, ownT p g (t.set i (some (pb, T))), ⟨g, _, rfl, ?_, rfl⟩, ?_, fun b hb => .inl (ownT_set p g t i pb T (mem_of_at HS.out) b hb), fun _ hk => by cases hk⟩
      · exact HT.out.write HS.out T (by rw [h1.1]; exact Nat.le_refl _) (fun k _ hk => HOT.out k hk) HPG.out HFR.out
      · exact ⟨h1.2.1, h1.2.2.1, h1.2.2.2, by rw [h1.1]; exact Nat.le_refl _, fun k _ hx => HOT.out k (fun e => hx (by rw [e]; exact .inr (.inr (mem_of_at HS.out))))⟩
    · rw [if_neg hin]
      clear hp hs ht hok hM
      by_cases hneg : k < 0
      · have hd1 : decide (k < 0) = true := decide_eq_true hneg
        go_enter Try.func30, Try.ntmps30
        go_wp2_with fail
        refine HA.out.mono ?_
        rintro e w2 ⟨rfl, rfl⟩
        go_wp2_with fail
        refine bodyPost_ret (v := .tuple #[]) (results_none rfl _ _ _) rfl ?_
        exact ⟨rfl, pstep_same HP.out (Below.refl _ _) (fun k hk => by cases hk)⟩
      · have hd1 : decide (k < 0) = false := decide_eq_false hneg
        have hd2 : decide (64 ≤ k) = true := decide_eq_true (by omega)
        go_enter Try.func30, Try.ntmps30
        go_wp2_with fail
        refine HA.out.mono ?_
        rintro e w2 ⟨rfl, rfl⟩
        go_wp2_with fail
        refine bodyPost_ret (v := .tuple #[]) (results_none rfl _ _ _) rfl ?_
        exact ⟨rfl, pstep_same HP.out (Below.refl _ _) (fun k hk => by cases hk)⟩

theorem pNeed_any (n : Int) (hn : -9223372036854775808 ≤ n ∧ n ≤ 9223372036854775807) : Calls Try.prog 38 #[.int .i64 n] w fun e w' => e = .returned (.int .i64 (needS n)) ∧ Ext w w' := by
  obtain ⟨h0, h1⟩ := hn
  unfold needS
  by_cases h : n < 1
  · rw [if_pos h]
    go_enter Try.func38, Try.ntmps38
    go_wp2_with fail
    go_ret
    exact ⟨rfl, Below.refl _ _⟩
  · rw [if_neg h]
    obtain ⟨k, rfl⟩ := Int.eq_ofNat_of_zero_le (show 0 ≤ n by omega)
    go_enter Try.func38, Try.ntmps38
    go_wp2_with fail
    go_ret
    exact ⟨rfl, Below.refl _ _⟩

theorem pMost_any (h : PSto O w p s) : Calls Try.prog 40 #[.pointer (some ⟨p, 0, none⟩)] w fun e w' => e = .returned (.int .i64 s.length) ∧ Ext w w' := by
  obtain ⟨g, t, rfl, ht, rfl⟩ := h
  have hq := ht.top
  have hfew := ht.few
  rw [bytesT_length]
  clear ht
  generalize t.length = L at hq hfew ⊢
  go_enter Try.func40, Try.ntmps40
  go_wp2_with fail
  go_ret
  exact ⟨rfl, Below.refl _ _⟩

set_option maxRecDepth 100000 in
theorem pUsed_any (h : PSto O w p s) : Calls Try.prog 17 #[.pointer (some ⟨p, 0, none⟩)] w fun e w' => e = .returned (.int .i64 (usedS s)) ∧ Ext w w' := by
  obtain ⟨g, t, rfl, ht, rfl⟩ := h
  have hq := ht.top
  have hfew := ht.few
  have HT := Lib.hid ht
  clear ht
  generalize hL : t.length = L at hq hfew
  replace hL := Lib.hid hL
  go_enter Try.func17, Try.ntmps17
  go_wp2_with fail
  go_loopw [3, 13] (fun n i wr => ∃ (j u : Nat), j ≤ L ∧ u ≤ j ∧ i = .int .i64 j ∧ n = .int .i64 u ∧ u = usedS (bytesT (t.take j)) ∧ w = wr) (fun _ i _ => L - (intOf i).toNat)
  case atStart => exact ⟨0, 0, Nat.zero_le _, Nat.le_refl _, rfl, rfl, rfl, rfl⟩
  case round =>
    obtain ⟨j, u, hj, hu, rfl, rfl, hus, rfl⟩ := hrel
    have HU := Lib.hid hus
    clear hus
    by_cases hlt : j < L
    · have hjs : j < t.length := by have := hL.out; omega
      have hs : t[j]? = some t[j] := List.getElem?_eq_getElem hjs
      have hc := HT.out.slot j _ hs
      have HTT := Lib.hid (show usedS (bytesT (t.take (j + 1))) = usedS (bytesT (t.take j)) + (if (t[j]).isSome = true then 1 else 0) from by
        unfold usedS bytesT
        rw [List.take_succ_eq_append_getElem hjs, List.map_append, List.countP_append]
        cases t[j] <;> rfl)
      clear hs
      generalize t[j] = B at hc HTT
      cases B with
      | none =>
        simp only [ptrV] at hc
        go_wp2_with fail
        go_roundw
        case rel => exact ⟨j + 1, u, by omega, by omega, by go_num, rfl, by rw [HTT.out, ← HU.out]; rfl, trivial⟩
        case measure => simp [intOf]; omega
      | some x =>
        simp only [ptrV] at hc
        go_wp2_with fail
        go_roundw
        case rel => exact ⟨j + 1, u + 1, by omega, by omega, by go_num, by go_num, by rw [HTT.out, ← HU.out]; rfl, trivial⟩
        case measure => simp [intOf]; omega
    · have HF := Lib.hid (show u = usedS (bytesT t) from by rw [HU.out, List.take_of_length_le (by have := hL.out; omega)])
      go_wp2_with fail
      go_ret
      exact ⟨by rw [← HF.out]; rfl, Below.refl _ _⟩

end Go.Proofs.Ytoagpaphghgkmaa

/-
  The program's contracts of layer 5: Read.
-/
namespace Go.Proofs.Ytoagpaphghgkmaa
open Go.RowKit Go.BigFrame

variable {O : Nat → Prop} {p : Nat} {s : St} {w : World}

/-- A whole array is read, among operations that only read. -/
theorem wpQuiet_load {P : Program} {ops : Array Oper} {C : World → Prop} {Q : Act → Prop} {o : Oper} {rest : List Oper} {a : Act} (hg : o.guard = none) (ty : TypeId) (x : Operand) (ho : o.op = .load ty x) (b off : Nat)
    (hx : a.eval x = .pointer (some ⟨b, off, none⟩)) (V : Value) (hv : ∀ w, C w → (loadVar ty ⟨b, off, none⟩).run P w = .ok V w) (h : wpQuiet P ops C Q rest (a.put o.dst V)) : wpQuiet P ops C Q (o :: rest) a := by
  unfold wpQuiet
  rw [if_pos (by simp [Region.wanted, hg])]
  refine ⟨V, fun w hw => ?_, h⟩
  unfold Oper.quietAt execOp
  simp only [ho, hx, Instr.loadAt, Instr.sureAddr, Sem.run_bind, Sem.run_pure, Result.andThen_ok, hv w hw]
  exact ⟨rfl, rfl⟩

theorem readS_map (t : Slots) (id : Int) : readS (bytesT t) id = match pageT t id with | none => ([], 2) | some x => if layP id.toNat (x.2.take 56) = x.2 then (x.2.take 56, 0) else ([], 6) := by
  unfold readS
  rw [pageS_bytesT]
  cases pageT t id with
  | none => rfl
  | some x => rfl

set_option maxRecDepth 100000 in
set_option maxHeartbeats 1000000 in
theorem pRead_core (id : Int) (h : PSto O w p s) (hok : okS s) (hn : -9223372036854775808 ≤ id ∧ id ≤ 9223372036854775807) :
    Calls Try.prog 39 #[.pointer (some ⟨p, 0, none⟩), .int .i64 id] w fun e w' => ∃ v, e = .returned (.tuple #[v, .int .i64 (readS s id).2]) ∧ OwnP w.heap.size w' v (readS s id).1 ∧ Ext w w' ∧ ∀ k, v.ownBlock = some k → w.heap.size ≤ k := by
  obtain ⟨g, t, rfl, ht, rfl⟩ := h
  have HA := Lib.hid (pAllocated_any p g t id w ht hn)
  rw [readS_map]
  cases hp : pageT t id with
  | none =>
    rw [hp] at HA
    clear hp ht hok
    simp only [ptrV] at HA
    go_enter Try.func39, Try.ntmps39
    go_wp2_with fail
    refine HA.out.mono ?_
    rintro e w2 ⟨rfl, rfl⟩
    go_wp2_with fail
    go_ret2
    exact ⟨_, rfl, .inl ⟨rfl, rfl⟩, Below.refl _ _, fun k hk => by cases hk⟩
  | some x =>
    obtain ⟨pb, l0⟩ := x
    obtain ⟨k0, k1, hs⟩ := pageT_lt hp
    rw [hp] at HA
    simp only
    obtain ⟨i, rfl⟩ := Int.eq_ofNat_of_zero_le k0
    rw [Int.toNat_natCast] at hs ⊢
    have hlen0 : l0.length = 64 := hok.2 l0 (by unfold bytesT; exact List.mem_map.2 ⟨some (pb, l0), List.mem_of_getElem? hs, rfl⟩)
    have hpg := ht.page _ pb l0 hs
    have hl56 : (l0.take 56).length = 56 := by rw [List.length_take]; omega
    have HR := Lib.hid (show ∀ W, Ext w W → Rd W (.slice (some ⟨pb, 0, none⟩) 56 64) (l0.take 56) from fun W hx =>
      Rd.mono (rd_page (n := 56) (cap := 64) (l := l0.take 56) (fun j u hu => hpg j u (by
        rw [List.map_take, List.getElem?_take] at hu
        split at hu
        · exact hu
        · cases hu)) hl56.symm (by omega) (by simp [maxLen])) hx)
    have HL := Lib.hid (show ∀ W, Ext w W → (loadVar 87 ⟨pb, 0, none⟩).run Try.prog W = .ok (arrP l0) W from fun W hx =>
      run_loadVar_mid W pb 0 87 (l0.map bv) _ (fun j u hu => (hx.cell (lt_of_cell (hpg j u hu))).trans (hpg j u hu)) Try.underlying87 rfl (by rw [List.length_map, hlen0]; kernel_rfl))
    have HS := Lib.hid (fun W (hx : Ext w W) => pStored_any i _ (l0.take 56) W (HR.out W hx) (by omega) (by have := ht.few; omega))
    have hM64 := layP_length i (l0.take 56) (by omega)
    obtain ⟨M, hM⟩ : ∃ M, M = layP i (l0.take 56) := ⟨_, rfl⟩
    rw [← hM] at HS hM64 ⊢
    have HL56 := Lib.hid hl56
    have HEQ := Lib.hid (fun W => eq_bytes l0 M hlen0 hM64 W)
    have hguard : Try.prog.eqGuardType Try.prog.depth 87 = false := by kernel_rfl
    obtain ⟨V0, hV0⟩ : ∃ V0, arrP l0 = .agg V0 := ⟨_, rfl⟩
    obtain ⟨V1, hV1⟩ : ∃ V1, arrP M = .agg V1 := ⟨_, rfl⟩
    rw [hV0] at HL HEQ
    rw [hV1] at HS HEQ
    have HGU := Lib.hid hguard
    simp only [ptrV] at HA
    clear hp hs ht hok hn hlen0 hpg hl56 hM hM64 hV0 hV1 hguard
    by_cases he : l0 = M
    · rw [if_pos he.symm]
      have hEQ : ∀ W, (Op.equalIn 10000 87 (.agg V0) (.agg V1)).run Try.prog W = .ok true W := fun W => by rw [HEQ.out W, decide_eq_true he]
      clear he HEQ
      replace hEQ := Lib.hid hEQ
      go_enter Try.func39, Try.ntmps39
      go_wp2_with fail
      refine HA.out.mono ?_
      rintro e w2 ⟨rfl, rfl⟩
      go_wp2_with fail
      refine wp_region_segs Ext Ext.keeps [([0, 1, 2, 3, 4], some 5), ([6], none)] (by kernel_rfl) (by kernel_rfl) (fun c a a' w e h => (by exact ⟨e ▸ h.1, h.2⟩)) ?_
      simp only [pickSegs, pickOps, List.map_cons, List.map_nil, Option.map_some, Option.map_none, Option.getD_some, List.getElem?_toArray, List.getElem?_cons_zero, List.getElem?_cons_succ]
      refine wpSegs_some fun K hK => ?_
      iterate 2 go_big_quiet_step (fail)
      refine wpQuiet_load rfl 87 (.tmp 17) rfl pb 0 rfl (.agg V0) (fun W hz => by obtain ⟨z, rfl⟩ := hz; exact HL.out z.val (Ext.trans (Ext.drew w) z.ext)) ?_
      simp only [Act.put, List.setIfInBounds_toArray, List.set]
      repeat go_big_quiet_step (fail)
      refine wpQuiet_nil ?_
      go_wp2_with fail
      refine (HS.out _ (Ext.drew w)).mono ?_
      rintro e w3 ⟨rfl, hx3⟩
      have HX3 := Lib.hid hx3
      clear hx3
      go_wp2_with fail
      refine ⟨HX3.out, hK _ _ ?_⟩
      clear hK K
      have hEQ2 := hEQ.out
      have hguard := HGU.out
      refine wpSegs_none ?_
      repeat go_big_quiet_step (fail)
      refine wpQuiet_nil (wpSegs_nil ?_)
      clear hEQ2 hguard
      have HX4 := Lib.hid (Ext.trans (Ext.drew w) HX3.out)
      go_wp2_with fail
      refine (Clone_any _ (l0.take 56) _ (HR.out _ HX4.out) (by rw [HL56.out]; omega)).mono ?_
      rintro e w4 ⟨v, rfl, ho, hb⟩
      have HO := Lib.hid (ownP_pstep (owns_base ho HX4.out.size))
      have HB := Lib.hid (Ext.trans HX4.out hb)
      clear ho hb
      go_wp2_with fail
      go_ret2
      exact ⟨v, rfl, HO.out.1, HB.out, HO.out.2⟩
    · rw [if_neg (fun h => he h.symm)]
      have hEQ : ∀ W, (Op.equalIn 10000 87 (.agg V0) (.agg V1)).run Try.prog W = .ok false W := fun W => by rw [HEQ.out W, decide_eq_false he]
      clear he HEQ
      replace hEQ := Lib.hid hEQ
      go_enter Try.func39, Try.ntmps39
      go_wp2_with fail
      refine HA.out.mono ?_
      rintro e w2 ⟨rfl, rfl⟩
      go_wp2_with fail
      refine wp_region_segs Ext Ext.keeps [([0, 1, 2, 3, 4], some 5), ([6], none)] (by kernel_rfl) (by kernel_rfl) (fun c a a' w e h => (by exact ⟨e ▸ h.1, h.2⟩)) ?_
      simp only [pickSegs, pickOps, List.map_cons, List.map_nil, Option.map_some, Option.map_none, Option.getD_some, List.getElem?_toArray, List.getElem?_cons_zero, List.getElem?_cons_succ]
      refine wpSegs_some fun K hK => ?_
      iterate 2 go_big_quiet_step (fail)
      refine wpQuiet_load rfl 87 (.tmp 17) rfl pb 0 rfl (.agg V0) (fun W hz => by obtain ⟨z, rfl⟩ := hz; exact HL.out z.val (Ext.trans (Ext.drew w) z.ext)) ?_
      simp only [Act.put, List.setIfInBounds_toArray, List.set]
      repeat go_big_quiet_step (fail)
      refine wpQuiet_nil ?_
      go_wp2_with fail
      refine (HS.out _ (Ext.drew w)).mono ?_
      rintro e w3 ⟨rfl, hx3⟩
      have HX3 := Lib.hid hx3
      clear hx3
      go_wp2_with fail
      refine ⟨HX3.out, hK _ _ ?_⟩
      clear hK K
      have hEQ2 := hEQ.out
      have hguard := HGU.out
      refine wpSegs_none ?_
      repeat go_big_quiet_step (fail)
      refine wpQuiet_nil (wpSegs_nil ?_)
      clear hEQ2 hguard
      have HX4 := Lib.hid (Ext.trans (Ext.drew w) HX3.out)
      go_wp2_with fail
      go_ret2
      exact ⟨_, rfl, .inl ⟨rfl, rfl⟩, HX4.out, fun k hk => by cases hk⟩

theorem pRead_any (id : Int) (h : PSto O w p s) (hok : okS s) (hn : -9223372036854775808 ≤ id ∧ id ≤ 9223372036854775807) :
    Calls Try.prog 39 #[.pointer (some ⟨p, 0, none⟩), .int .i64 id] w fun e w' => ∃ v, e = .returned (.tuple #[v, .int .i64 (readS s id).2]) ∧ OwnP w.heap.size w' v (readS s id).1 ∧ PStep O w p s w' v := by
  refine (pRead_core id h hok hn).mono ?_
  rintro e w' ⟨v, rfl, h1, h2, h3⟩
  exact ⟨v, rfl, h1, pstep_same h h2 h3⟩

end Go.Proofs.Ytoagpaphghgkmaa

/-
  The program's contracts of layer 5: firstFree, Alloc.
-/
namespace Go.Proofs.Ytoagpaphghgkmaa
open Go.RowKit Go.BigFrame

variable {O : Nat → Prop} {p : Nat} {s : St} {w : World}

theorem takeS_lt : ∀ (n i : Nat) (s : St), ∀ x ∈ (takeS i n s).1, i ≤ x ∧ x < i + s.length
  | 0, i, s, x, hx => by rw [takeS_zero] at hx; cases hx
  | n + 1, i, [], x, hx => by rw [takeS_nil] at hx; cases hx
  | n + 1, i, none :: t, x, hx => by
    simp only [takeS, List.mem_cons] at hx
    rcases hx with rfl | hx
    · simp
    · have := takeS_lt n (i + 1) t x hx
      simp only [List.length_cons]
      omega
  | n + 1, i, some q :: t, x, hx => by
    simp only [takeS] at hx
    have := takeS_lt (n + 1) (i + 1) t x hx
    simp only [List.length_cons]
    omega
def setsS (ids : List Nat) (s : St) : St := ids.foldl (fun s j => s.set j (some (layP j []))) s
theorem takeS_sets : ∀ (n i : Nat) (s pre : St), pre.length = i → pre ++ (takeS i n s).2 = setsS (takeS i n s).1 (pre ++ s)
  | 0, i, s, pre, _ => by rw [takeS_zero]; rfl
  | n + 1, i, [], pre, _ => by rw [takeS_nil]; rfl
  | n + 1, i, none :: t, pre, h => by
    simp only [takeS]
    have ih := takeS_sets n (i + 1) t (pre ++ [some (layP i [])]) (by simp [h])
    rw [List.append_assoc] at ih
    have e : pre ++ some (layP i []) :: t = (pre ++ none :: t).set i (some (layP i [])) := by
      rw [List.set_append_right _ _ (by omega), h, Nat.sub_self]
      rfl
    rw [List.append_assoc] at ih
    simp only [List.singleton_append] at ih
    rw [ih, e]
    rfl
  | n + 1, i, some q :: t, pre, h => by
    simp only [takeS]
    have ih := takeS_sets (n + 1) (i + 1) t (pre ++ [some q]) (by simp [h])
    rw [List.append_assoc, List.append_assoc] at ih
    simpa using ih
theorem takeS_all (n : Nat) (s : St) : (takeS 0 n s).2 = setsS (takeS 0 n s).1 s := by
  have := takeS_sets n 0 s [] rfl
  simpa using this
theorem setsS_step (ids : List Nat) (s : St) (k : Nat) (h : k < ids.length) : setsS (ids.take (k + 1)) s = (setsS (ids.take k) s).set ids[k] (some (layP ids[k] [])) := by
  unfold setsS
  rw [List.take_succ_eq_append_getElem h, List.foldl_append]
  rfl
theorem setsS_length (s : St) : ∀ ids : List Nat, (setsS ids s).length = s.length := fun ids => by
  unfold setsS
  induction ids generalizing s with
  | nil => rfl
  | cons a l ih => rw [List.foldl_cons, ih]; simp

set_option maxRecDepth 100000 in
set_option maxHeartbeats 1000000 in
theorem pFirstFree_any (p g : Nat) (t : Slots) (n : Nat) (w : World) (h : PStoT w p g t) (hn : n ≤ 4096) :
    Calls Try.prog 41 #[.pointer (some ⟨p, 0, none⟩), .int .i64 n] w fun e w' => ∃ v, e = .returned v ∧ w'.ownsRow w.heap.size 3 1 v (takeS 0 n (bytesT t)).1.length ((takeS 0 n (bytesT t)).1.map iv) ∧ Ext w w' := by
  obtain ⟨i0, hi, hz0, hz1, hz2⟩ := info_parts Try.info_int
  have hq := h.top
  have hfew := h.few
  have HT := Lib.hid h
  obtain ⟨T, hT⟩ : ∃ T, T = (takeS 0 n (bytesT t)).1 := ⟨_, rfl⟩
  rw [← hT]
  replace hT := Lib.hid hT
  clear h
  generalize hL : t.length = L at hq hfew
  replace hL := Lib.hid hL
  go_enter Try.func41, Try.ntmps41
  go_wp2_with (at_make; refine wpList_make_own _ rfl _ _ 32 rfl w.heap.size 3 i0 (.int .i64 0) 1 Try.underlying32 hi hz0 hz1 _ _ _ n rfl rfl (by omega) (by rw [hz2]; omega) (by unfold maxLen; omega) (Nat.le_refl _) ?_; intro w1 hown1 hgrow1; have HO1 := Lib.hid hown1; have HX1 := Lib.hid (show Ext w w1 from (Below.refl _ w).grown hgrow1 (Nat.le_refl _) (fun k hk => by cases hk)); have hq := (HX1.out.cell (lt_of_cell hq)).trans hq; clear hown1 hgrow1)
  go_loopw [5, 15] (fun l i wr => ∃ (j m : Nat) (ids : List Nat), j ≤ L ∧ m ≤ n ∧ i = .int .i64 j ∧ ids.length = m ∧ T = ids ++ (takeS j (n - m) (bytesT (t.drop j))).1 ∧ wr.ownsRow w.heap.size 3 1 l m (ids.map iv) ∧ Ext w wr) (fun _ i _ => L - (intOf i).toNat)
  case atStart => exact ⟨0, 0, [], Nat.zero_le _, Nat.zero_le _, rfl, rfl, by rw [hT.out]; rfl, HO1.out, HX1.out⟩
  case round =>
    obtain ⟨j, m, ids, hjL, hmn, rfl, hids, hTe, hown, hext⟩ := hrel
    obtain ⟨a, cap, rfl, hc1, hc2⟩ := own_shape hown
    unfold maxLen at hc2
    have HI := Lib.hid hids
    have HTE := Lib.hid hTe
    have HO := Lib.hid hown
    have HE := Lib.hid hext
    clear hids hTe hown hext
    by_cases hj : j < L
    · have hjs : j < t.length := by have := hL.out; omega
      have hs : t[j]? = some t[j] := List.getElem?_eq_getElem hjs
      have hc := (HE.out.cell (lt_of_cell (HT.out.slot j _ hs))).trans (HT.out.slot j _ hs)
      by_cases hm : m < n
      · have hne : ((m : Int) == (n : Int)) = false := by rw [beq_eq_false_iff_ne]; omega
        have HDR := Lib.hid (show bytesT (t.drop j) = (t[j]).map Prod.snd :: bytesT (t.drop (j + 1)) from by rw [List.drop_eq_getElem_cons hjs]; rfl)
        clear hs
        generalize t[j] = B at hc HDR
        cases B with
        | some x =>
          simp only [ptrV] at hc
          go_wp2_with fail
          go_roundw
          case rel => exact ⟨j + 1, m, ids, by omega, hmn, by go_num, HI.out, by rw [HTE.out, HDR.out, Option.map_some, takeS_some _ _ _ _ (by omega)], HO.out, HE.out⟩
          case measure => simp [intOf]; omega
        | none =>
          simp only [ptrV] at hc
          have HB := Lib.hid (show Below w.heap.size w (wr.alloc (.cells #[.int .i64 (j : Int)] 3)) from Below.alloc HE.out HE.out.size _)
          go_wp2_with (at_builtin; go_must (refine wpList_append_own _ rfl (.tmp 26) (.tmp 28) 32 rfl w.heap.size 3 i0 (.int .i64 0) 1 8 Try.underlying32 hi hz0 hz1 hz2 rfl (by decide) _ _ _ rfl (HO.out.alloc _) ⟨wr.heap.size, 0, none⟩ 1 1 [.int .i64 (j : Int)] rfl rfl (row_new wr [.int .i64 (j : Int)] 3) (by simp [Value.oneCell']) (by unfold maxLen; first | omega | (simp; omega)) (by first | omega | (simp; omega)) (by have := HE.out.size; first | omega | (simp; omega)) ?_); intro v5 w5 hown5 hgrow5 _; have HO5 := Lib.hid hown5; have HB5 := Lib.hid (show Below w.heap.size w w5 from HB.out.grown hgrow5 (by have := HE.out.size; simp; omega) (fun k hk => (HO.out.lt k hk).1)); clear hown5 hgrow5)
          go_roundw
          case rel =>
            refine ⟨j + 1, m + 1, ids ++ [j], by omega, by omega, by go_num, by rw [List.length_append, HI.out]; rfl, ?_, ?_, HB5.out⟩
            · rw [HTE.out, HDR.out, Option.map_none, takeS_none _ _ _ (by omega)]
              simp [Nat.sub_sub]
            · have h := HO5.out
              rw [List.map_append]
              exact h
          case measure => simp [intOf]; omega
      · have hmN2 : m = n := by omega
        subst hmN2
        have HTF := Lib.hid (show T = ids from by rw [HTE.out, Nat.sub_self, takeS_zero]; simp)
        clear hs
        generalize ptrV t[j] = B at hc
        go_wp2_with fail
        go_ret
        refine ⟨_, rfl, ?_, HE.out⟩
        rw [HTF.out, HI.out]
        exact HO.out
    · have HTF := Lib.hid (show T = ids from by rw [HTE.out, List.drop_of_length_le (by have := hL.out; omega)]; simp [bytesT, takeS_nil])
      go_wp2_with fail
      go_ret
      refine ⟨_, rfl, ?_, HE.out⟩
      rw [HTF.out, HI.out]
      exact HO.out

end Go.Proofs.Ytoagpaphghgkmaa

/-
  The program's contracts of layer 5: Alloc.
-/
namespace Go.Proofs.Ytoagpaphghgkmaa
open Go.RowKit Go.BigFrame

variable {O : Nat → Prop} {p : Nat} {s : St} {w : World}

theorem allocS_neg {s : St} {n : Int} (h : n < 0) : allocS s n = (([], 1), s) := by unfold allocS; rw [if_pos h]
theorem allocS_full {s : St} {n : Int} (h : ¬ n < 0) (hf : (s.length : Int) - usedS s < n) : allocS s n = (([], 4), s) := by unfold allocS; rw [if_neg h, if_pos hf]
theorem PSto.mono {O : Nat → Prop} {w w' : World} {p : Nat} {s : St} (h : PSto O w p s) (hx : Ext w w') : PSto O w' p s := h.keep (fun b hb => hx.block b (h.lt b hb)) hx.size

/-- A page more: its bytes in a new block, its slot. -/
theorem PStoT.add {w2 w' : World} {p g : Nat} {t : Slots} {M : List UInt8} {Z : Array Value} (h : PStoT w2 p g t) (i : Nat) (hi : i < t.length) (hw : w' = (((w2.alloc (.cells Z 87)).setRow w2.heap.size (M.map bv).toArray).setCell ⟨g, i, none⟩ (.pointer (some ⟨w2.heap.size, 0, none⟩))))
    (_hM : M.length = 64) : PStoT w' p g (t.set i (some (w2.heap.size, M))) ∧ OnlyP g w2 w' := by
  obtain ⟨W, hW⟩ : ∃ W, W = (w2.alloc (.cells Z 87)).setRow w2.heap.size (M.map bv).toArray := ⟨_, rfl⟩
  rw [← hW] at hw
  have hWb : ∀ k, k < w2.heap.size → W.heap[k]? = w2.heap[k]? := fun k hk => by
    rw [hW, setRow_other _ _ _ _ (by omega), Below.heap_alloc w2 _ k hk]
  have hWn : W.heap[w2.heap.size]? = some (.cells (M.map bv).toArray 87 (0, 0)) := by
    rw [hW]; exact setRow_heap _ _ _ _ _ _ (heap_alloc_new _ _)
  have hWs : W.heap.size = w2.heap.size + 1 := by rw [hW]; simp
  have hg := h.glt
  have hp : p < w2.heap.size := lt_of_cell h.top
  have hne := h.ne
  have h' : ∀ k, k ≠ g → w'.heap[k]? = W.heap[k]? := fun k hk => by rw [hw]; exact Below.heap_setCell _ _ _ _ hk
  have hs' : w'.heap.size = w2.heap.size + 1 := by rw [hw]; simp [World.setCell, hWs]
  have hn' : w'.heap[w2.heap.size]? = some (.cells (M.map bv).toArray 87 (0, 0)) := by rw [h' _ (by omega)]; exact hWn
  refine ⟨h.change i (some (w2.heap.size, M)) (by omega) ((h' p hne).trans (hWb p hp)) (fun _ => ?_) (fun j hj => ?_) (fun j => ?_) (fun j b l hj ht => ?_) (fun b l he => ?_), ⟨?_, ?_, ?_, by omega, fun k hk hx => ?_⟩⟩
  · rw [hw]
    have hc := h.slot i _ (List.getElem?_eq_getElem hi)
    rw [← cell_of_same (hWb g hg)] at hc
    exact World.cell?_setCell_same _ _ _ hc
  · rw [hw, cell_set_other (.inr hj)]
    exact cell_of_same (hWb g hg)
  · rw [hw]
    have := h.free j
    rw [← frozen_of_same (hWb g hg)] at this
    simpa [go_sem] using this
  · have ha := h.apart j b l ht
    exact (h' b ha.2.1).trans (hWb b ha.2.2)
  · simp only [Option.some.injEq, Prod.mk.injEq] at he
    obtain ⟨rfl, rfl⟩ := he
    refine ⟨fun j u hu => ?_, fun j hj => ?_, by omega, by omega, by omega, fun j l' _ hh => ?_⟩
    · rw [Nat.zero_add, cell_of_row _ _ _ _ _ _ hn']
      simpa using hu
    · unfold World.frozen?
      rw [hn']
      simp
    · have := (h.apart j _ l' hh).2.2
      omega
  · rw [hw, hW]; rfl
  · rw [hw, hW]; rfl
  · rw [hw, hW]; rfl
  · rw [h' k (by simpa using hx)]
    exact hWb k hk

set_option maxRecDepth 100000 in
set_option maxHeartbeats 1000000 in
theorem pAlloc_any (n : Int) (h : PSto O w p s) (hok : okS s) (hn : -9223372036854775808 ≤ n ∧ n ≤ 9223372036854775807) :
    Calls Try.prog 12 #[.pointer (some ⟨p, 0, none⟩), .int .i64 n] w fun e w' => ∃ v, e = .returned (.tuple #[v, .int .i64 (allocS s n).1.2]) ∧ w'.ownsRow w.heap.size 3 1 v (allocS s n).1.1.length ((allocS s n).1.1.map iv) ∧ PStep O w p (allocS s n).2 w' v := by
  obtain ⟨hn0, hn1⟩ := hn
  have HP := Lib.hid h
  by_cases hneg : n < 0
  · rw [allocS_neg hneg]
    have hd : decide (n < 0) = true := decide_eq_true hneg
    clear h hok
    go_enter Try.func12, Try.ntmps12
    go_wp2_with fail
    go_ret2
    exact ⟨_, rfl, World.ownsRow_nil _ _ _ _, pstep_same HP.out (Below.refl _ _) (fun k hk => by cases hk)⟩
  · have hd : decide (n < 0) = false := decide_eq_false hneg
    have hus : usedS s ≤ s.length := List.countP_le_length
    have hfew := hok.1
    have HMO := Lib.hid (pMost_any (w := w) h)
    have HUS := Lib.hid (fun W (hx : Ext w W) => pUsed_any (w := W) (h.mono hx))
    by_cases hf : (s.length : Int) - usedS s < n
    · rw [allocS_full hneg hf]
      have hd2 : decide ((s.length : Int) - usedS s < n) = true := decide_eq_true hf
      clear h hok hf
      generalize usedS s = U at HUS hus hd2
      generalize s.length = L at HMO hus hd2 hfew
      go_enter Try.func12, Try.ntmps12
      go_wp2_with fail
      refine HMO.out.mono ?_
      rintro e w1 ⟨rfl, hx1⟩
      have HX1 := Lib.hid hx1
      clear hx1
      go_wp2_with fail
      refine (HUS.out w1 HX1.out).mono ?_
      rintro e w2 ⟨rfl, hx2⟩
      have HX2 := Lib.hid (Ext.trans HX1.out hx2)
      clear hx2
      go_wp2_with fail
      go_ret2
      exact ⟨_, rfl, World.ownsRow_nil _ _ _ _, pstep_same HP.out HX2.out (fun k hk => by cases hk)⟩
    · obtain ⟨N, rfl⟩ := Int.eq_ofNat_of_zero_le (show 0 ≤ n by omega)
      rw [allocS_fits _ hneg hf]
      simp only [Int.toNat_natCast]
      have hd2 : decide ((s.length : Int) - usedS s < N) = false := decide_eq_false hf
      have hNl : N ≤ 4096 := by omega
      obtain ⟨g, t, rfl, ht, rfl⟩ := h
      have HT := Lib.hid ht
      have HFF := Lib.hid (fun W (hx : Ext w W) => pFirstFree_any p g t N W (ht.mono hx) hNl)
      have hTl := takeS_lt N 0 (bytesT t)
      rw [bytesT_length, Nat.zero_add] at hTl
      have hAll := takeS_all N (bytesT t)
      obtain ⟨T, hT⟩ : ∃ T, (takeS 0 N (bytesT t)).1 = T := ⟨_, rfl⟩
      rw [hT] at HFF hTl hAll ⊢
      have HTL := Lib.hid hTl
      rw [hAll]
      have hTn : T.length ≤ 4096 := by
        rw [← hT]
        have := takeS_count N 0 (bytesT t) (by omega)
        omega
      obtain ⟨Z, hZ, hZ1⟩ := run_zeroN Try.zero64
      have HZ1 := Lib.hid hZ1
      clear hok hf ht hT hTl hAll hZ1 hNl
      have hL4 : (bytesT t).length ≤ 4096 := hfew
      generalize usedS (bytesT t) = U at HUS hus hd2
      generalize hL : (bytesT t).length = L at HMO hus hd2 hfew hL4
      replace hL := Lib.hid hL
      obtain ⟨m, hm⟩ : ∃ m, m = T.length := ⟨_, rfl⟩
      rw [← hm] at HFF hTn ⊢
      have HM := Lib.hid hm
      clear hm
      go_enter Try.func12, Try.ntmps12
      go_wp2_with fail
      refine HMO.out.mono ?_
      rintro e w1 ⟨rfl, hx1⟩
      have HX1 := Lib.hid hx1
      clear hx1
      go_wp2_with fail
      refine (HUS.out w1 HX1.out).mono ?_
      rintro e w2 ⟨rfl, hx2⟩
      have HX2 := Lib.hid (Ext.trans HX1.out hx2)
      clear hx2
      go_wp2_with fail
      refine (HFF.out w2 HX2.out).mono ?_
      rintro e w3 ⟨v, rfl, hown, hx3⟩
      have HX3 := Lib.hid (Ext.trans HX2.out hx3)
      have hsz2 := HX2.out.size
      obtain ⟨a, cap, rfl, hc1, hc2⟩ := own_shape hown
      unfold maxLen at hc2
      have HO := Lib.hid (owns_base hown hsz2)
      clear hx3 hown hsz2
      have hgw : g < w.heap.size := HT.out.glt
      go_wp2_with fail
      go_loopw [26] (fun i wr => ∃ (k : Nat) (tk : Slots), k ≤ m ∧ i = .int .i64 k ∧ PStoT wr p g tk ∧ bytesT tk = setsS (T.take k) (bytesT t) ∧ OnlyP g w3 wr ∧ (∀ b, ownT p g tk b → ownT p g t b ∨ w3.heap.size ≤ b)) (fun i _ => m - (intOf i).toNat)
      case atStart => exact ⟨0, t, Nat.zero_le _, rfl, HT.out.mono HX3.out, rfl, OnlyP.refl _ _, fun b hb => .inl hb⟩
      case round =>
        obtain ⟨k, tk, hkm, rfl, htk, hbt, hon, hnew⟩ := hrel
        have HTK := Lib.hid htk
        have HBT := Lib.hid hbt
        have HON := Lib.hid hon
        have HNEW := Lib.hid hnew
        clear htk hbt hon hnew
        by_cases hk : k < m
        · have hkT : k < T.length := by have := HM.out; omega
          obtain ⟨g', cap', he, -⟩ := owns_shape HO.out (by omega)
          simp only [Value.slice.injEq] at he
          obtain ⟨rfl, -, -⟩ := he
          have hor := own_only HO.out HON.out hgw
          have hc := hor.cellAt k (by omega)
          rw [List.getElem?_map, List.getElem?_eq_getElem hkT, Option.map_some] at hc
          unfold iv at hc
          have HID := Lib.hid (HTL.out T[k] (List.getElem_mem hkT))
          have HSTEP := Lib.hid (setsS_step T (bytesT t) k hkT)
          have hLt : (bytesT t).length = t.length := bytesT_length t
          generalize T[k] = id at hc HID HSTEP
          have hid4 : id ≤ 4096 := by have := HID.out.2; have := hL.out; omega
          have HLT := Lib.hid hLt
          clear hor hLt
          go_wp2_with fail
          refine (pStored_any id (.slice none 0 0) [] wr (Rd.nil wr) (by simp) hid4).mono ?_
          rintro e w4 ⟨rfl, hx4⟩
          have hM64 := layP_length id [] (by simp)
          obtain ⟨M, hM⟩ : ∃ M, M = layP id [] := ⟨_, rfl⟩
          rw [← hM] at hM64 HSTEP ⊢
          unfold arrP
          have HT4 := Lib.hid (HTK.out.mono hx4)
          have HON4 := Lib.hid (OnlyP.trans HON.out (OnlyP.of_ext (g := g) hx4))
          have hlen : tk.length = t.length := by
            have h := congrArg List.length HBT.out
            rw [bytesT_length, setsS_length, HLT.out] at h
            exact h
          have hidl : id < tk.length := by have := HID.out.2; omega
          have HI := Lib.hid (show (Try.prog.info? 87).map (·.size) = some (M.map bv).toArray.size from by rw [List.size_toArray, List.length_map, hM64]; kernel_rfl)
          have HZL := Lib.hid (show (Z.map bv).toArray.size = (M.map bv).toArray.size from by rw [HZ1.out]; simp [zeros, hM64])
          have HADD := Lib.hid (HT4.out.add (Z := (Z.map bv).toArray) id hidl rfl hM64)
          have HW1 := Lib.hid (show ((w4.alloc (.cells (Z.map bv).toArray 87)).setRow w4.heap.size (M.map bv).toArray).cell? ⟨p, 0, none⟩ = some (.slice (some ⟨g, 0, none⟩) tk.length tk.length) ∧ ((w4.alloc (.cells (Z.map bv).toArray 87)).setRow w4.heap.size (M.map bv).toArray).cell? ⟨g, id, none⟩ = some (ptrV tk[id]) ∧ ((w4.alloc (.cells (Z.map bv).toArray 87)).setRow w4.heap.size (M.map bv).toArray).frozen? ⟨g, id, none⟩ = false from by
            have hb : ∀ k, k < w4.heap.size → ((w4.alloc (.cells (Z.map bv).toArray 87)).setRow w4.heap.size (M.map bv).toArray).heap[k]? = w4.heap[k]? := fun k hk => by
              rw [setRow_other _ _ _ _ (by omega), Below.heap_alloc w4 _ k hk]
            exact ⟨by rw [cell_of_same (hb p (lt_of_cell HT4.out.top))]; exact HT4.out.top, by rw [cell_of_same (hb g HT4.out.glt)]; exact HT4.out.slot id _ (List.getElem?_eq_getElem hidl), by rw [frozen_of_same (hb g HT4.out.glt)]; exact HT4.out.free id⟩)
          have hlen4 : tk.length ≤ 4096 := HT4.out.few
          have HSZ4 := Lib.hid (show w3.heap.size ≤ w4.heap.size from HON4.out.size)
          generalize ptrV tk[id] = PV at HW1
          generalize hTKL : tk.length = TL at HW1 hidl hlen4
          clear hM hx4 hM64 hlen hTKL
          go_wp2_with (refine wpList_store_row rfl 87 (.tmp 9) (.tmp 31) rfl w4.heap.size (M.map bv).toArray rfl rfl 87 (Z.map bv).toArray (heap_alloc_new _ _) HI.out HZL.out (all_oneCell_toArray (bv_oneCell M)) ?_; generalize (w4.alloc (.cells (Z.map bv).toArray 87)).setRow w4.heap.size (M.map bv).toArray = W at HW1 HADD ⊢; obtain ⟨c0, c1, f1⟩ := HW1.out)
          go_roundw
          case rel =>
            refine ⟨k + 1, _, by omega, by go_num, HADD.out.1, ?_, OnlyP.trans HON4.out HADD.out.2, fun b hb => ?_⟩
            · rw [bytesT_set, HBT.out, HSTEP.out]
              rfl
            · rcases hb with h | h | ⟨l', h⟩
              · exact .inl (.inl h)
              · exact .inl (.inr (.inl h))
              · rcases List.mem_or_eq_of_mem_set h with h1 | h1
                · exact HNEW.out b (.inr (.inr ⟨l', h1⟩))
                · simp only [Option.some.injEq, Prod.mk.injEq] at h1
                  rw [h1.1]
                  exact .inr HSZ4.out
          case measure => simp [intOf]; omega
        · have hkm2 : k = m := by omega
          subst hkm2
          have HF := Lib.hid (show bytesT tk = setsS T (bytesT t) from by rw [HBT.out, List.take_of_length_le (by have := HM.out; omega)])
          have HOF := Lib.hid (own_only HO.out HON.out hgw)
          go_wp2_with fail
          go_ret2
          refine ⟨_, rfl, HOF.out, ownT p g tk, ⟨g, tk, HF.out.symm, HTK.out, rfl⟩, ?_, fun b hb => ?_, fun k hk hO => ?_⟩
          · exact OnlyS.trans (OnlyS.of_ext HX3.out) (OnlyS.of_onlyP HON.out (.inr (.inl rfl))) (fun i _ h => h)
          · rcases HNEW.out b hb with h | h
            · exact .inl h
            · exact .inr (Nat.le_trans HX3.out.size h)
          · have h1 := HO.out.lt k hk
            rcases HNEW.out k hO with h | h
            · have := HT.out.lt k h
              omega
            · omega

end Go.Proofs.Ytoagpaphghgkmaa

/-
  The program's contracts of layer 5: Drop, New, Put.
-/
namespace Go.Proofs.Ytoagpaphghgkmaa
open Go.RowKit Go.BigFrame

variable {O : Nat → Prop} {p : Nat} {s : St} {w : World}

/-- One step behind the others. -/
theorem pchain {O O' : Nat → Prop} {w wr w' : World} {p : Nat} {s : St} {v : Value} (h : OnlyS O w wr) (hn : ∀ b, O' b → O b ∨ w.heap.size ≤ b) (hs : PStep O' wr p s w' v) :
    ∃ O'', PSto O'' w' p s ∧ OnlyS O w w' ∧ (∀ b, O'' b → O b ∨ w.heap.size ≤ b) ∧ (∀ b, O'' b → O' b ∨ wr.heap.size ≤ b) ∧ OnlyS O' wr w' ∧ (∀ k, v.ownBlock = some k → ¬ O'' k) := by
  obtain ⟨O'', h1, h2, h3, h4⟩ := hs
  refine ⟨O'', h1, OnlyS.trans h h2 (fun i hi hO => ?_), fun b hb => ?_, h3, h2, h4⟩
  · rcases hn i hO with h | h
    · exact h
    · omega
  · rcases h3 b hb with h' | h'
    · exact hn b h'
    · exact .inr (Nat.le_trans h.size h')
theorem own_onlyS {X : Nat → Prop} {base : Nat} {e : TypeId} {w w' : World} {v : Value} {n : Nat} {xs : List Value} (h : w.ownsRow base e 1 v n xs) (ho : OnlyS X w w') (hx : ∀ k, v.ownBlock = some k → ¬ X k) : w'.ownsRow base e 1 v n xs := by
  obtain ⟨h1, h2⟩ := h
  refine ⟨h1, ?_⟩
  rcases h2 with h2 | ⟨g, cap, cur, rfl, h3, h4, h5⟩
  · exact .inl h2
  · exact .inr ⟨g, cap, cur, rfl, h3, by rw [ho.block g (Array.getElem?_eq_some_iff.1 h4).1 (hx g rfl)]; exact h4, h5⟩

set_option maxRecDepth 100000 in
set_option maxHeartbeats 1000000 in
theorem pDrop_any (u : Value) (ids : List Int) (h : PSto O w p s) (hok : okS s) (hu : RdV w u (ids.map (Value.int .i64))) (hb : ids ≠ [] → ∀ k, u.ownBlock = some k → ¬ O k) (hl : ids.length ≤ 1000000000000) (hw : ∀ i ∈ ids, -9223372036854775808 ≤ i ∧ i ≤ 9223372036854775807) :
    Calls Try.prog 61 #[.pointer (some ⟨p, 0, none⟩), u] w fun e w' => e = .returned (.tuple #[]) ∧ PStep O w p (dropS s ids) w' .nilIface := by
  have HU := Lib.hid hu
  obtain ⟨ai, capi, rfl, hc1, hc2, -⟩ := RdV.cellsAt hu
  have HB := Lib.hid hb
  have HW := Lib.hid hw
  have HP := Lib.hid h
  have HOK := Lib.hid hok
  rw [List.length_map] at hc1 HU HB ⊢
  unfold maxLen at hc2
  obtain ⟨N, hN⟩ : ∃ N, ids.length = N := ⟨_, rfl⟩
  have HN := Lib.hid hN
  rw [hN] at hc1 hl HU HB ⊢
  clear hu hb hw h hok hN
  go_enter Try.func61, Try.ntmps61
  go_wp2_with fail
  go_loopw [8] (fun i wr => ∃ (k : Nat) (O' : Nat → Prop) (sk : St), k ≤ N ∧ i = .int .i64 k ∧ PSto O' wr p sk ∧ okS sk ∧ dropS s ids = dropS sk (ids.drop k) ∧ OnlyS O w wr ∧ (∀ b, O' b → O b ∨ w.heap.size ≤ b)) (fun i _ => N - (intOf i).toNat)
  case atStart => exact ⟨0, O, s, Nat.zero_le _, rfl, HP.out, HOK.out, rfl, OnlyS.refl _ _, fun b hb => .inl hb⟩
  case round =>
    obtain ⟨k, O', sk, hk, rfl, hps, hoks, hdr, hon, hnew⟩ := hrel
    have HPS := Lib.hid hps
    have HOKS := Lib.hid hoks
    have HDR := Lib.hid hdr
    have HON := Lib.hid hon
    have HNEW := Lib.hid hnew
    clear hps hoks hdr hon hnew
    by_cases hlt : k < N
    · have hki : k < ids.length := by have := HN.out; omega
      have hne : ids.map (Value.int .i64) ≠ [] := by rintro h; rw [List.map_eq_nil_iff] at h; rw [h] at hki; simp at hki
      have hne2 : ids ≠ [] := by rintro rfl; simp at hki
      obtain ⟨ao, ca, h7, _, _, h8⟩ := RdV.cellsAt (RdV.onlyS HU.out HON.out (fun _ => HB.out hne2))
      simp only [Value.slice.injEq] at h7
      obtain ⟨rfl, -, -⟩ := h7
      obtain ⟨x, rfl, hcx⟩ := h8 k (.int .i64 ids[k]) (by rw [List.getElem?_map, List.getElem?_eq_getElem hki]; rfl)
      have HF := Lib.hid (pFree_any ids[k] HPS.out HOKS.out (HW.out _ (List.getElem_mem hki)))
      have HD := Lib.hid (show dropS sk (ids.drop k) = dropS (freeS sk ids[k]).2 (ids.drop (k + 1)) from by rw [List.drop_eq_getElem_cons hki]; rfl)
      have HOK2 := Lib.hid (freeS_ok HOKS.out ids[k])
      generalize ids[k] = id at hcx HF HD HOK2
      clear h8 hne hne2 hki
      go_wp2_with fail
      refine HF.out.mono ?_
      rintro e w3 ⟨rfl, hst⟩
      obtain ⟨O'', k1, k2, k3, -, -, -⟩ := pchain HON.out HNEW.out hst
      have HK1 := Lib.hid k1
      have HK2 := Lib.hid k2
      have HK3 := Lib.hid k3
      clear hst k1 k2 k3
      go_wp2_with fail
      go_roundw
      case rel => exact ⟨k + 1, O'', _, by omega, by go_num, HK1.out, HOK2.out, by rw [HDR.out, HD.out], HK2.out, HK3.out⟩
      case measure => simp [intOf]; omega
    · have hF := Lib.hid (show dropS s ids = sk from by rw [HDR.out, List.drop_of_length_le (by have := HN.out; omega)]; rfl)
      go_wp2_with fail
      go_end0
      exact ⟨rfl, O', by rw [hF.out]; exact HPS.out, HON.out, HNEW.out, fun _ hk => by cases hk⟩

theorem Try.info_ptr : (Try.prog.info? 89).map (fun i => (i.zero, i.size, i.bytes)) = some (some (.pointer none), 1, 8) := by kernel_rfl

def PNewed (w : World) (n : Int) (e : Ending) (w' : World) : Prop :=
  (0 ≤ n ∧ n ≤ 4096 ∧ ∃ p O', e = .returned (.tuple #[.pointer (some ⟨p, 0, none⟩), .int .i64 0]) ∧ PSto O' w' p (List.replicate n.toNat none) ∧ (∀ b, O' b → w.heap.size ≤ b) ∧ Ext w w') ∨
  (¬ (0 ≤ n ∧ n ≤ 4096) ∧ e = .returned (.tuple #[.pointer none, .int .i64 1]) ∧ Ext w w')

theorem pNew_any (n : Int) (hn : -9223372036854775808 ≤ n ∧ n ≤ 9223372036854775807) : Calls Try.prog 10 #[.int .i64 n] w (PNewed w n) := by
  obtain ⟨h0, h1⟩ := hn
  by_cases hneg : n < 0
  · have hd : decide (n < 0) = true := decide_eq_true hneg
    go_enter Try.func10, Try.ntmps10
    go_wp2_with fail
    go_ret2
    exact .inr ⟨by omega, rfl, Below.refl _ _⟩
  · have hd : decide (n < 0) = false := decide_eq_false hneg
    by_cases hbig : 4096 < n
    · have hd2 : decide (4096 < n) = true := decide_eq_true hbig
      go_enter Try.func10, Try.ntmps10
      go_wp2_with fail
      go_ret2
      exact .inr ⟨by omega, rfl, Below.refl _ _⟩
    · have hd2 : decide (4096 < n) = false := decide_eq_false hbig
      obtain ⟨N, rfl⟩ := Int.eq_ofNat_of_zero_le (show 0 ≤ n by omega)
      obtain ⟨i0, hi, hz0, hz1, hz2⟩ := info_parts Try.info_ptr
      have hmk := run_makeSlice (P := Try.prog) w 79 89 i0 _ Try.underlying79 hi hz0 .i64 .i64 N N (by omega) (Int.le_refl _) (by rw [hz1]; omega) (by rw [hz2]; omega) (by omega)
      rw [hz1] at hmk
      simp only [Int.toNat_natCast, Nat.mul_one] at hmk
      have hcs : ∀ k u, (madeCells (Value.pointer none).cells N)[k]? = some u → k < N ∧ u = .pointer none := fun k u hu => by
        unfold madeCells at hu
        rw [Array.getElem?_map] at hu
        obtain ⟨y, hy, rfl⟩ := Option.map_eq_some_iff.1 hu
        have hk := (Array.getElem?_eq_some_iff.1 hy).1
        simp at hk
        have hsz : (Value.pointer none).cells.size = 1 := rfl
        refine ⟨hk, ?_⟩
        simp only [hsz, Nat.mod_one]
        rfl
      have hcs2 : ∀ k, k < N → (madeCells (Value.pointer none).cells N)[k]? = some (.pointer none) := fun k hk => by
        have hsz : k < (madeCells (Value.pointer none).cells N).size := by unfold madeCells; simpa using hk
        rw [Array.getElem?_eq_getElem hsz]
        exact congrArg some (hcs k _ (Array.getElem?_eq_getElem hsz)).2
      generalize madeCells (Value.pointer none).cells N = C at hmk hcs hcs2
      have HCS := Lib.hid hcs2
      clear hcs hcs2
      go_enter Try.func10, Try.ntmps10
      go_wp2_with fail
      go_ret2
      refine .inl ⟨by omega, by omega, w.heap.size + 1, _, rfl, ⟨w.heap.size, List.replicate N none, by simp [bytesT], ⟨?_, fun i o hi => ?_, fun i b l hi => ?_, fun i b l hi => ?_, fun j => ?_, fun i j b l l' hi => ?_, by omega, fun i b l hi => ?_, by simp; omega, by simp; omega⟩, rfl⟩, fun b hb => ?_, Ext.trans (ext_new w _) (ext_new _ _)⟩
      · unfold World.cell?
        rw [heap_alloc2_new]
        simp
      · rw [List.getElem?_replicate] at hi
        split at hi
        · rename_i hiN
          cases hi
          unfold World.cell?
          rw [heap_alloc2_old]
          simpa [ptrV] using HCS.out i hiN
        · cases hi
      · rw [List.getElem?_replicate] at hi
        split at hi <;> cases hi
      · rw [List.getElem?_replicate] at hi
        split at hi <;> cases hi
      · unfold World.frozen?
        rw [heap_alloc2_old]
        simp
      · rw [List.getElem?_replicate] at hi
        split at hi <;> cases hi
      · rw [List.getElem?_replicate] at hi
        split at hi <;> cases hi
      · rcases hb with rfl | rfl | ⟨l, hl⟩
        · omega
        · omega
        · cases (List.eq_of_mem_replicate hl)

end Go.Proofs.Ytoagpaphghgkmaa

/-
  The program's contract of layer 5: Put.
-/
namespace Go.Proofs.Ytoagpaphghgkmaa
open Go.RowKit Go.BigFrame

variable {O : Nat → Prop} {p : Nat} {s : St} {w : World}

end Go.Proofs.Ytoagpaphghgkmaa
