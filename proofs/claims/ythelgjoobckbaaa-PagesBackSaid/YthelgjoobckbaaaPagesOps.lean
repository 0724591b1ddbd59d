/-
  The program's contracts of layer 5: Free, Write, Raw, Flip, Used, Most, Need.
-/
import Derived.Test.YthelgjoobckbaaaPagesSto
namespace Go.Proofs.Ythelgjoobckbaaa
open Go.RowKit Go.BigFrame

variable {O : Nat → Prop} {p : Nat} {s : St} {w : World}

theorem pstep_same {O : Nat → Prop} {p : Nat} {s : St} {w w' : World} {v : Value} (h : PSto O w p s) (hx : Ext w w') (hv : ∀ k, v.ownBlock = some k → w.heap.size ≤ k) : PStep O w p s w' v :=
  ⟨O, h.keep (fun b hb => hx.block b (h.lt b hb)) hx.size, OnlyS.of_ext hx, fun _ hb => .inl hb, fun k hk hO => by have := hv k hk; have := h.lt k hO; omega⟩
theorem freeS_map (t : Slots) (id : Int) : freeS (bytesT t) id = match pageT t id with | none => (2, bytesT t) | some _ => (0, bytesT (t.set id.toNat none)) := by
  unfold freeS
  rw [pageS_bytesT]
  cases pageT t id with
  | none => rfl
  | some x => simp only [Option.map_some, setS, bytesT_set, Option.map_none]
theorem ownT_set (p g : Nat) (t : Slots) (i : Nat) (b : Nat) (l : List UInt8) (hold : ∃ l', some (b, l') ∈ t) (k : Nat) (h : ownT p g (t.set i (some (b, l))) k) : ownT p g t k := by
  rcases h with h | h | ⟨l', h⟩
  · exact .inl h
  · exact .inr (.inl h)
  · rcases List.mem_or_eq_of_mem_set h with h1 | h1
    · exact .inr (.inr ⟨l', h1⟩)
    · simp only [Option.some.injEq, Prod.mk.injEq] at h1
      rw [h1.1]
      exact .inr (.inr hold)
theorem ownT_none (p g : Nat) (t : Slots) (i : Nat) (k : Nat) (h : ownT p g (t.set i none) k) : ownT p g t k := by
  rcases h with h | h | ⟨l', h⟩
  · exact .inl h
  · exact .inr (.inl h)
  · rcases List.mem_or_eq_of_mem_set h with h1 | h1
    · exact .inr (.inr ⟨l', h1⟩)
    · cases h1

set_option maxRecDepth 100000 in
theorem pFree_any (id : Int) (h : PSto O w p s) (hok : okS s) (hn : -9223372036854775808 ≤ id ∧ id ≤ 9223372036854775807) :
    Calls Try.prog 24 #[.pointer (some ⟨p, 0, none⟩), .int .i64 id] w fun e w' => e = .returned (.int .i64 (freeS s id).1) ∧ PStep O w p (freeS s id).2 w' .nilIface := by
  have HP := Lib.hid h
  obtain ⟨g, t, rfl, ht, rfl⟩ := h
  have HA := Lib.hid (pAllocated_any p g t id w ht hn)
  rw [freeS_map]
  cases hp : pageT t id with
  | none =>
    rw [hp] at HA
    clear hp ht hok
    simp only [ptrV] at HA
    go_enter Try.func24, Try.ntmps24
    go_wp2_with fail
    refine HA.out.mono ?_
    rintro e w2 ⟨rfl, rfl⟩
    go_wp2_with fail
    go_ret
    exact ⟨rfl, pstep_same HP.out (Below.refl _ _) (fun k hk => by cases hk)⟩
  | some x =>
    obtain ⟨b, l⟩ := x
    obtain ⟨k0, k1, hs⟩ := pageT_lt hp
    rw [hp] at HA
    obtain ⟨k, rfl⟩ := Int.eq_ofNat_of_zero_le k0
    rw [Int.toNat_natCast] at hs ⊢
    have HT := Lib.hid ht
    have HS := Lib.hid hs
    have hq := ht.top
    have hfew := ht.few
    have hc := ht.slot k _ hs
    have hf := ht.free k
    simp only [ptrV] at HA hc
    clear hp hs ht hok HP hn
    generalize hL : t.length = L at hq hfew k1
    replace hL := Lib.hid hL
    go_enter Try.func24, Try.ntmps24
    go_wp2_with fail
    refine HA.out.mono ?_
    rintro e w2 ⟨rfl, rfl⟩
    go_wp2_with fail
    go_ret
    refine ⟨rfl, ownT p g (t.set k none), ⟨g, _, rfl, ?_, rfl⟩, ?_, fun b hb => .inl (ownT_none p g t k b hb), fun _ hk => by cases hk⟩
    · have h := HT.out
      have hne := h.ne
      refine h.change k none (by simp [World.setCell]) (Below.heap_setCell _ _ _ _ hne) (fun _ => World.cell?_setCell_same _ _ _ hc) (fun j hj => cell_set_other (.inr (by simpa using hj))) (fun j => by simpa [go_sem] using h.free j) (fun j b' l' hj ht' => Below.heap_setCell _ _ _ _ (h.apart j b' l' ht').2.1) (fun b' l' hh => by cases hh)
    · exact ⟨rfl, rfl, rfl, by simp [World.setCell], fun i _ hi => Below.heap_setCell _ _ _ _ (fun e => hi (.inr (.inl e)))⟩

theorem writeS_map (t : Slots) (id : Int) (l : List UInt8) : writeS (bytesT t) id l = match pageT t id with | none => (2, bytesT t) | some x => if 56 < l.length then (3, bytesT t) else (0, bytesT (t.set id.toNat (some (x.1, layP id.toNat l)))) := by
  unfold writeS
  rw [pageS_bytesT]
  cases pageT t id with
  | none => rfl
  | some x => simp only [Option.map_some, setS, bytesT_set]
theorem mem_of_at {t : Slots} {i b : Nat} {l : List UInt8} (h : t[i]? = some (some (b, l))) : ∃ l', some (b, l') ∈ t := ⟨l, List.mem_of_getElem? h⟩
theorem setCells_heap : ∀ (vs : List Value) (w : World) (b o k : Nat), k ≠ b → (w.setCells b o vs).heap[k]? = w.heap[k]?
  | [], _, _, _, _, _ => rfl
  | v :: vs, w, b, o, k, h => by
    rw [World.setCells]
    rw [setCells_heap vs _ b (o + 1) k h]
    exact Below.heap_setCell _ _ _ _ h

theorem setCells_rest : ∀ (vs : List Value) (w : World) (b o : Nat), (w.setCells b o vs).heap.size = w.heap.size ∧ (w.setCells b o vs).os = w.os ∧ (w.setCells b o vs).tape = w.tape ∧ (w.setCells b o vs).output = w.output
  | [], _, _, _ => ⟨rfl, rfl, rfl, rfl⟩
  | v :: vs, w, b, o => by
    rw [World.setCells]
    obtain ⟨h1, h2, h3, h4⟩ := setCells_rest vs (w.setCell ⟨b, o, none⟩ v) b (o + 1)
    exact ⟨by rw [h1]; simp [World.setCell], h2, h3, h4⟩

/-- A page of the store has other bytes. -/
theorem PStoT.write {w w' : World} {p g i b : Nat} {t : Slots} {l0 : List UInt8} (h : PStoT w p g t) (hi : t[i]? = some (some (b, l0))) (l : List UInt8) (hsz : w.heap.size ≤ w'.heap.size)
    (hother : ∀ k, ownT p g t k → k ≠ b → w'.heap[k]? = w.heap[k]?) (hr : w'.rangeAt b 0 (l.map bv)) (hf : ∀ j, j < 64 → w'.frozen? ⟨b, j, none⟩ = false) : PStoT w' p g (t.set i (some (b, l))) := by
  have ha := h.apart i b l0 hi
  have hg : w'.heap[g]? = w.heap[g]? := hother g (.inr (.inl rfl)) (fun e => ha.2.1 e.symm)
  have hu : ∀ (j : Nat) l', j ≠ i → t[j]? ≠ some (some (b, l')) := fun j l' hj hh => hj (h.inj j i b l' l0 hh hi)
  refine h.change i _ hsz (hother p (.inl rfl) (fun e => ha.1 e.symm)) (fun _ => ?_) (fun j _ => cell_of_same hg) (fun j => by rw [frozen_of_same hg]; exact h.free j) (fun j b' l' hj ht => hother b' (.inr (.inr ⟨l', List.mem_of_getElem? ht⟩)) (fun e => by subst e; exact hu j l' hj ht)) (fun b' l' he => ?_)
  · have hsl := h.slot i _ hi
    rw [cell_of_same hg]; exact hsl
  · simp only [Option.some.injEq, Prod.mk.injEq] at he
    obtain ⟨rfl, rfl⟩ := he
    exact ⟨hr, hf, ha.1, ha.2.1, Nat.lt_of_lt_of_le ha.2.2 hsz, hu⟩

set_option maxRecDepth 100000 in
set_option maxHeartbeats 1000000 in
theorem pWrite_any (id : Int) (b : Value) (l : List UInt8) (h : PSto O w p s) (hok : okS s) (hn : -9223372036854775808 ≤ id ∧ id ≤ 9223372036854775807) (hr : Rd w b l) (hb : l ≠ [] → ∀ k, b.ownBlock = some k → ¬ O k) (hl : l.length ≤ 1000000) :
    Calls Try.prog 26 #[.pointer (some ⟨p, 0, none⟩), .int .i64 id, b] w fun e w' => e = .returned (.int .i64 (writeS s id l).1) ∧ PStep O w p (writeS s id l).2 w' .nilIface := by
  have HP := Lib.hid h
  obtain ⟨g, t, rfl, ht, rfl⟩ := h
  have HA := Lib.hid (pAllocated_any p g t id w ht hn)
  obtain ⟨ba, bc, rfl, hb1, hb2⟩ := hr.shape
  unfold maxLen at hb2
  rw [writeS_map]
  cases hp : pageT t id with
  | none =>
    rw [hp] at HA
    clear hp ht hok hr hb
    simp only [ptrV] at HA
    go_enter Try.func26, Try.ntmps26
    go_wp2_with fail
    refine HA.out.mono ?_
    rintro e w2 ⟨rfl, rfl⟩
    go_wp2_with fail
    go_ret
    exact ⟨rfl, pstep_same HP.out (Below.refl _ _) (fun k hk => by cases hk)⟩
  | some x =>
    obtain ⟨pb, l0⟩ := x
    obtain ⟨k0, k1, hs⟩ := pageT_lt hp
    rw [hp] at HA
    simp only
    by_cases h56 : 56 < l.length
    · rw [if_pos h56]
      have hd : decide (56 < (l.length : Int)) = true := decide_eq_true (by omega)
      simp only [ptrV] at HA
      clear hp hs ht hok hr hb
      go_enter Try.func26, Try.ntmps26
      go_wp2_with fail
      refine HA.out.mono ?_
      rintro e w2 ⟨rfl, rfl⟩
      go_wp2_with fail
      go_ret
      exact ⟨rfl, pstep_same HP.out (Below.refl _ _) (fun k hk => by cases hk)⟩
    · rw [if_neg h56]
      have hd : decide (56 < (l.length : Int)) = false := decide_eq_false (by omega)
      obtain ⟨k, rfl⟩ := Int.eq_ofNat_of_zero_le k0
      rw [Int.toNat_natCast] at hs ⊢
      have hlen0 : l0.length = 64 := hok.2 l0 (by unfold bytesT; exact List.mem_map.2 ⟨some (pb, l0), List.mem_of_getElem? hs, rfl⟩)
      have HST := Lib.hid (pStored_any k _ l w hr (by omega) (by have := ht.few; omega))
      have hM64 := layP_length k l (by omega)
      obtain ⟨M, hM⟩ : ∃ M, M = layP k l := ⟨_, rfl⟩
      rw [← hM] at HST hM64 ⊢
      have HM := Lib.hid hM64
      have HT := Lib.hid ht
      have HS := Lib.hid hs
      have HL0 := Lib.hid hlen0
      have HI := Lib.hid (show (Try.prog.info? 73).map (·.size) = some (M.map bv).toArray.size from by rw [List.size_toArray, List.length_map, hM64]; kernel_rfl)
      simp only [ptrV] at HA
      unfold arrP at HST
      clear hp hs ht hok HP hn hr hb hM hM64 hlen0
      go_enter Try.func26, Try.ntmps26
      go_wp2_with fail
      refine HA.out.mono ?_
      rintro e w2 ⟨rfl, rfl⟩
      go_wp2_with fail
      refine HST.out.mono ?_
      rintro e w2 ⟨rfl, hx⟩
      have HX := Lib.hid hx
      have HT2 := Lib.hid (HT.out.mono hx)
      have HTH := Lib.hid (show w2.there pb 0 64 from fun j hj => ⟨by
        rw [HT2.out.page k pb l0 HS.out j (bv (l0[j]'(by rw [HL0.out]; exact hj))) (by rw [List.getElem?_map, List.getElem?_eq_getElem]; rfl)]
        rfl, by rw [Nat.zero_add]; exact HT2.out.pfree k pb l0 HS.out j hj⟩)
      have HSZ := Lib.hid (show (M.map bv).toArray.size = 64 from by simp [HM.out])
      clear hx
      go_wp2_with (refine wpList_store_mid rfl 73 (.tmp 20) (.tmp 19) rfl pb 0 (M.map bv).toArray rfl rfl (by rw [HSZ.out]; exact HTH.out) HI.out (all_oneCell_toArray (bv_oneCell M)) ?_)
      go_ret
      have hap := HT.out.apart k pb l0 HS.out
      have hoth : ∀ i, i ≠ pb → (w2.setCells pb 0 (M.map bv)).heap[i]? = w2.heap[i]? := fun i hi => setCells_heap _ _ _ _ _ hi
      obtain ⟨hsz, hos, htp, hou⟩ := setCells_rest (M.map bv) w2 pb 0
      refine ⟨rfl, ownT p g (t.set k (some (pb, M))), ⟨g, _, rfl, ?_, rfl⟩, ?_, fun b hb => .inl (ownT_set p g t k pb M (mem_of_at HS.out) b hb), fun _ hk => by cases hk⟩
      · refine HT2.out.write HS.out M (by rw [hsz]; exact Nat.le_refl _) (fun i _ hi => hoth i hi) (World.rangeAt_setCells_same _ _ _ _ (by rw [List.length_map, HM.out]; exact HTH.out)) (fun j hj => ?_)
        rw [World.frozen?_setCells]
        exact HT2.out.pfree k pb l0 HS.out j hj
      · exact ⟨hos.trans HX.out.os, htp.trans HX.out.tape, hou.trans HX.out.output, by rw [hsz]; exact HX.out.size, fun i hi hx => (hoth i (fun e => hx (by rw [e]; exact .inr (.inr (mem_of_at HS.out))))).trans (HX.out.block i hi)⟩

end Go.Proofs.Ythelgjoobckbaaa
