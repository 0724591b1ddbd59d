/-
  The program's contracts of layer 5: Read.
-/
import Derived.Test.YthelgjoobckbaaaPagesOps2
namespace Go.Proofs.Ythelgjoobckbaaa
open Go.RowKit Go.BigFrame

variable {O : Nat → Prop} {p : Nat} {s : St} {w : World}

/-- A whole array is read, among operations that only read. -/
theorem wpQuiet_load {P : Program} {ops : Array Oper} {C : World → Prop} {Q : Act → Prop} {o : Oper} {rest : List Oper} {a : Act} (hg : o.guard = none) (ty : TypeId) (x : Operand) (ho : o.op = .load ty x) (b off : Nat)
    (hx : a.eval x = .pointer (some ⟨b, off, none⟩)) (V : Value) (hv : ∀ w, C w → (loadVar ty ⟨b, off, none⟩).run P w = .ok V w) (h : wpQuiet P ops C Q rest (a.put o.dst V)) : wpQuiet P ops C Q (o :: rest) a := by
  unfold wpQuiet
  rw [if_pos (by simp [Region.wanted, hg])]
  refine ⟨V, fun w hw => ?_, h⟩
  unfold Oper.quietAt execOp
  simp only [ho, hx, Instr.loadAt, Instr.sureAddr, Sem.run_bind, Sem.run_pure, Result.andThen_ok, hv w hw]
  exact ⟨rfl, rfl⟩

theorem readS_map (t : Slots) (id : Int) : readS (bytesT t) id = match pageT t id with | none => ([], 2) | some x => if layP id.toNat (x.2.take 56) = x.2 then (x.2.take 56, 0) else ([], 6) := by
  unfold readS
  rw [pageS_bytesT]
  cases pageT t id with
  | none => rfl
  | some x => rfl

set_option maxRecDepth 100000 in
set_option maxHeartbeats 1000000 in
theorem pRead_core (id : Int) (h : PSto O w p s) (hok : okS s) (hn : -9223372036854775808 ≤ id ∧ id ≤ 9223372036854775807) :
    Calls Try.prog 16 #[.pointer (some ⟨p, 0, none⟩), .int .i64 id] w fun e w' => ∃ v, e = .returned (.tuple #[v, .int .i64 (readS s id).2]) ∧ OwnP w.heap.size w' v (readS s id).1 ∧ Ext w w' ∧ ∀ k, v.ownBlock = some k → w.heap.size ≤ k := by
  obtain ⟨g, t, rfl, ht, rfl⟩ := h
  have HA := Lib.hid (pAllocated_any p g t id w ht hn)
  rw [readS_map]
  cases hp : pageT t id with
  | none =>
    rw [hp] at HA
    clear hp ht hok
    simp only [ptrV] at HA
    go_enter Try.func16, Try.ntmps16
    go_wp2_with fail
    refine HA.out.mono ?_
    rintro e w2 ⟨rfl, rfl⟩
    go_wp2_with fail
    go_ret2
    exact ⟨_, rfl, .inl ⟨rfl, rfl⟩, Below.refl _ _, fun k hk => by cases hk⟩
  | some x =>
    obtain ⟨pb, l0⟩ := x
    obtain ⟨k0, k1, hs⟩ := pageT_lt hp
    rw [hp] at HA
    simp only
    obtain ⟨i, rfl⟩ := Int.eq_ofNat_of_zero_le k0
    rw [Int.toNat_natCast] at hs ⊢
    have hlen0 : l0.length = 64 := hok.2 l0 (by unfold bytesT; exact List.mem_map.2 ⟨some (pb, l0), List.mem_of_getElem? hs, rfl⟩)
    have hpg := ht.page _ pb l0 hs
    have hl56 : (l0.take 56).length = 56 := by rw [List.length_take]; omega
    have HR := Lib.hid (show ∀ W, Ext w W → Rd W (.slice (some ⟨pb, 0, none⟩) 56 64) (l0.take 56) from fun W hx =>
      Rd.mono (rd_page (n := 56) (cap := 64) (l := l0.take 56) (fun j u hu => hpg j u (by
        rw [List.map_take, List.getElem?_take] at hu
        split at hu
        · exact hu
        · cases hu)) hl56.symm (by omega) (by simp [maxLen])) hx)
    have HL := Lib.hid (show ∀ W, Ext w W → (loadVar 73 ⟨pb, 0, none⟩).run Try.prog W = .ok (arrP l0) W from fun W hx =>
      run_loadVar_mid W pb 0 73 (l0.map bv) _ (fun j u hu => (hx.cell (lt_of_cell (hpg j u hu))).trans (hpg j u hu)) Try.underlying73 rfl (by rw [List.length_map, hlen0]; kernel_rfl))
    have HS := Lib.hid (fun W (hx : Ext w W) => pStored_any i _ (l0.take 56) W (HR.out W hx) (by omega) (by have := ht.few; omega))
    have hM64 := layP_length i (l0.take 56) (by omega)
    obtain ⟨M, hM⟩ : ∃ M, M = layP i (l0.take 56) := ⟨_, rfl⟩
    rw [← hM] at HS hM64 ⊢
    have HL56 := Lib.hid hl56
    have HEQ := Lib.hid (fun W => eq_bytes l0 M hlen0 hM64 W)
    have hguard : Try.prog.eqGuardType Try.prog.depth 73 = false := by kernel_rfl
    obtain ⟨V0, hV0⟩ : ∃ V0, arrP l0 = .agg V0 := ⟨_, rfl⟩
    obtain ⟨V1, hV1⟩ : ∃ V1, arrP M = .agg V1 := ⟨_, rfl⟩
    rw [hV0] at HL HEQ
    rw [hV1] at HS HEQ
    have HGU := Lib.hid hguard
    simp only [ptrV] at HA
    clear hp hs ht hok hn hlen0 hpg hl56 hM hM64 hV0 hV1 hguard
    by_cases he : l0 = M
    · rw [if_pos he.symm]
      have hEQ : ∀ W, (Op.equalIn 10000 73 (.agg V0) (.agg V1)).run Try.prog W = .ok true W := fun W => by rw [HEQ.out W, decide_eq_true he]
      clear he HEQ
      replace hEQ := Lib.hid hEQ
      go_enter Try.func16, Try.ntmps16
      go_wp2_with fail
      refine HA.out.mono ?_
      rintro e w2 ⟨rfl, rfl⟩
      go_wp2_with fail
      refine wp_region_segs Ext Ext.keeps [([0, 1, 2, 3, 4], some 5), ([6], none)] (by kernel_rfl) (by kernel_rfl) (fun c a a' w e h => (by exact ⟨e ▸ h.1, h.2⟩)) ?_
      simp only [pickSegs, pickOps, List.map_cons, List.map_nil, Option.map_some, Option.map_none, Option.getD_some, List.getElem?_toArray, List.getElem?_cons_zero, List.getElem?_cons_succ]
      refine wpSegs_some fun K hK => ?_
      iterate 2 go_big_quiet_step (fail)
      refine wpQuiet_load rfl 73 (.tmp 17) rfl pb 0 rfl (.agg V0) (fun W hz => by obtain ⟨z, rfl⟩ := hz; exact HL.out z.val (Ext.trans (Ext.drew w) z.ext)) ?_
      simp only [Act.put, List.setIfInBounds_toArray, List.set]
      repeat go_big_quiet_step (fail)
      refine wpQuiet_nil ?_
      go_wp2_with fail
      refine (HS.out _ (Ext.drew w)).mono ?_
      rintro e w3 ⟨rfl, hx3⟩
      have HX3 := Lib.hid hx3
      clear hx3
      go_wp2_with fail
      refine ⟨HX3.out, hK _ _ ?_⟩
      clear hK K
      have hEQ2 := hEQ.out
      have hguard := HGU.out
      refine wpSegs_none ?_
      repeat go_big_quiet_step (fail)
      refine wpQuiet_nil (wpSegs_nil ?_)
      clear hEQ2 hguard
      have HX4 := Lib.hid (Ext.trans (Ext.drew w) HX3.out)
      go_wp2_with fail
      refine (Clone_any _ (l0.take 56) _ (HR.out _ HX4.out) (by rw [HL56.out]; omega)).mono ?_
      rintro e w4 ⟨v, rfl, ho, hb⟩
      have HO := Lib.hid (ownP_pstep (owns_base ho HX4.out.size))
      have HB := Lib.hid (Ext.trans HX4.out hb)
      clear ho hb
      go_wp2_with fail
      go_ret2
      exact ⟨v, rfl, HO.out.1, HB.out, HO.out.2⟩
    · rw [if_neg (fun h => he h.symm)]
      have hEQ : ∀ W, (Op.equalIn 10000 73 (.agg V0) (.agg V1)).run Try.prog W = .ok false W := fun W => by rw [HEQ.out W, decide_eq_false he]
      clear he HEQ
      replace hEQ := Lib.hid hEQ
      go_enter Try.func16, Try.ntmps16
      go_wp2_with fail
      refine HA.out.mono ?_
      rintro e w2 ⟨rfl, rfl⟩
      go_wp2_with fail
      refine wp_region_segs Ext Ext.keeps [([0, 1, 2, 3, 4], some 5), ([6], none)] (by kernel_rfl) (by kernel_rfl) (fun c a a' w e h => (by exact ⟨e ▸ h.1, h.2⟩)) ?_
      simp only [pickSegs, pickOps, List.map_cons, List.map_nil, Option.map_some, Option.map_none, Option.getD_some, List.getElem?_toArray, List.getElem?_cons_zero, List.getElem?_cons_succ]
      refine wpSegs_some fun K hK => ?_
      iterate 2 go_big_quiet_step (fail)
      refine wpQuiet_load rfl 73 (.tmp 17) rfl pb 0 rfl (.agg V0) (fun W hz => by obtain ⟨z, rfl⟩ := hz; exact HL.out z.val (Ext.trans (Ext.drew w) z.ext)) ?_
      simp only [Act.put, List.setIfInBounds_toArray, List.set]
      repeat go_big_quiet_step (fail)
      refine wpQuiet_nil ?_
      go_wp2_with fail
      refine (HS.out _ (Ext.drew w)).mono ?_
      rintro e w3 ⟨rfl, hx3⟩
      have HX3 := Lib.hid hx3
      clear hx3
      go_wp2_with fail
      refine ⟨HX3.out, hK _ _ ?_⟩
      clear hK K
      have hEQ2 := hEQ.out
      have hguard := HGU.out
      refine wpSegs_none ?_
      repeat go_big_quiet_step (fail)
      refine wpQuiet_nil (wpSegs_nil ?_)
      clear hEQ2 hguard
      have HX4 := Lib.hid (Ext.trans (Ext.drew w) HX3.out)
      go_wp2_with fail
      go_ret2
      exact ⟨_, rfl, .inl ⟨rfl, rfl⟩, HX4.out, fun k hk => by cases hk⟩

theorem pRead_any (id : Int) (h : PSto O w p s) (hok : okS s) (hn : -9223372036854775808 ≤ id ∧ id ≤ 9223372036854775807) :
    Calls Try.prog 16 #[.pointer (some ⟨p, 0, none⟩), .int .i64 id] w fun e w' => ∃ v, e = .returned (.tuple #[v, .int .i64 (readS s id).2]) ∧ OwnP w.heap.size w' v (readS s id).1 ∧ PStep O w p s w' v := by
  refine (pRead_core id h hok hn).mono ?_
  rintro e w' ⟨v, rfl, h1, h2, h3⟩
  exact ⟨v, rfl, h1, pstep_same h h2 h3⟩

end Go.Proofs.Ythelgjoobckbaaa
