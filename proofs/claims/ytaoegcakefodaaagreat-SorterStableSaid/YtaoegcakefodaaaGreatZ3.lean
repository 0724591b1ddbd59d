/-
  Texts of this proof, merged.
-/
import Derived.Laws.OwnMore
import Derived.Sort.Walk0
import Derived.Test.YtaoegcakefodaaaGreatZ1
import Derived.Test.YtaoegcakefodaaaGreatZ2
namespace Go.Proofs.YtaoegcakefodaaaGreat
open Go.RowKit Go.BigFrame
variable {O : Nat → Prop} {p : Nat} {s : St} {w : World}
theorem wpQuiet_load {P : Program} {ops : Array Oper} {C : World → Prop} {Q : Act → Prop} {o : Oper} {rest : List Oper} {a : Act} (hg : o.guard = none) (ty : TypeId) (x : Operand) (ho : o.op = .load ty x) (b off : Nat)
    (hx : a.eval x = .pointer (some ⟨b, off, none⟩)) (V : Value) (hv : ∀ w, C w → (loadVar ty ⟨b, off, none⟩).run P w = .ok V w) (h : wpQuiet P ops C Q rest (a.put o.dst V)) : wpQuiet P ops C Q (o :: rest) a := by
  unfold wpQuiet
  rw [if_pos (by simp [Region.wanted, hg])]
  refine ⟨V, fun w hw => ?_, h⟩
  unfold Oper.quietAt execOp
  simp only [ho, hx, Instr.loadAt, Instr.sureAddr, Sem.run_bind, Sem.run_pure, Result.andThen_ok, hv w hw]
  exact ⟨rfl, rfl⟩
theorem readS_map (t : Slots) (id : Int) : readS (bytesT t) id = match pageT t id with | none => ([], 2) | some x => if layP id.toNat (x.2.take 56) = x.2 then (x.2.take 56, 0) else ([], 6) := by
  unfold readS
  rw [pageS_bytesT]
  cases pageT t id with
  | none => rfl
  | some x => rfl
set_option maxRecDepth 100000 in
set_option maxHeartbeats 1000000 in
theorem pRead_core (id : Int) (h : PSto O w p s) (hok : okS s) (hn : -9223372036854775808 ≤ id ∧ id ≤ 9223372036854775807) :
    Calls Tryz.prog 169 #[.pointer (some ⟨p, 0, none⟩), .int .i64 id] w fun e w' => ∃ v, e = .returned (.tuple #[v, .int .i64 (readS s id).2]) ∧ OwnP w.heap.size w' v (readS s id).1 ∧ Ext w w' ∧ ∀ k, v.ownBlock = some k → w.heap.size ≤ k := by
  obtain ⟨g, t, rfl, ht, rfl⟩ := h
  have HA := Lib.hid (pAllocated_any p g t id w ht hn)
  rw [readS_map]
  cases hp : pageT t id with
  | none =>
    rw [hp] at HA
    clear hp ht hok
    simp only [ptrV] at HA
    go_enter Tryz.func169, Tryz.ntmps169
    go_wp2_with fail
    refine HA.out.mono ?_
    rintro e w2 ⟨rfl, rfl⟩
    go_wp2_with fail
    go_ret2
    exact ⟨_, rfl, .inl ⟨rfl, rfl⟩, Below.refl _ _, fun k hk => by cases hk⟩
  | some x =>
    obtain ⟨pb, l0⟩ := x
    obtain ⟨k0, k1, hs⟩ := pageT_lt hp
    rw [hp] at HA
    simp only
    obtain ⟨i, rfl⟩ := Int.eq_ofNat_of_zero_le k0
    rw [Int.toNat_natCast] at hs ⊢
    have hlen0 : l0.length = 64 := hok.2 l0 (by unfold bytesT; exact List.mem_map.2 ⟨some (pb, l0), List.mem_of_getElem? hs, rfl⟩)
    have hpg := ht.page _ pb l0 hs
    have hl56 : (l0.take 56).length = 56 := by rw [List.length_take]; omega
    have HR := Lib.hid (show ∀ W, Ext w W → Rd W (.slice (some ⟨pb, 0, none⟩) 56 64) (l0.take 56) from fun W hx =>
      Rd.mono (rd_page (n := 56) (cap := 64) (l := l0.take 56) (fun j u hu => hpg j u (by
        rw [List.map_take, List.getElem?_take] at hu
        split at hu
        · exact hu
        · cases hu)) hl56.symm (by omega) (by simp [maxLen])) hx)
    have HL := Lib.hid (show ∀ W, Ext w W → (loadVar 91 ⟨pb, 0, none⟩).run Tryz.prog W = .ok (arrP l0) W from fun W hx =>
      run_loadVar_mid W pb 0 91 (l0.map bv) _ (fun j u hu => (hx.cell (lt_of_cell (hpg j u hu))).trans (hpg j u hu)) Tryz.underlying91 rfl (by rw [List.length_map, hlen0]; kernel_rfl))
    have HS := Lib.hid (fun W (hx : Ext w W) => pStored_any i _ (l0.take 56) W (HR.out W hx) (by omega) (by have := ht.few; omega))
    have hM64 := layP_length i (l0.take 56) (by omega)
    obtain ⟨M, hM⟩ : ∃ M, M = layP i (l0.take 56) := ⟨_, rfl⟩
    rw [← hM] at HS hM64 ⊢
    have HL56 := Lib.hid hl56
    have HEQ := Lib.hid (fun W => eq_bytes l0 M hlen0 hM64 W)
    have hguard : Tryz.prog.eqGuardType Tryz.prog.depth 91 = false := by kernel_rfl
    obtain ⟨V0, hV0⟩ : ∃ V0, arrP l0 = .agg V0 := ⟨_, rfl⟩
    obtain ⟨V1, hV1⟩ : ∃ V1, arrP M = .agg V1 := ⟨_, rfl⟩
    rw [hV0] at HL HEQ
    rw [hV1] at HS HEQ
    have HGU := Lib.hid hguard
    simp only [ptrV] at HA
    clear hp hs ht hok hn hlen0 hpg hl56 hM hM64 hV0 hV1 hguard
    by_cases he : l0 = M
    · rw [if_pos he.symm]
      have hEQ : ∀ W, (Op.equalIn 10000 91 (.agg V0) (.agg V1)).run Tryz.prog W = .ok true W := fun W => by rw [HEQ.out W, decide_eq_true he]
      clear he HEQ
      replace hEQ := Lib.hid hEQ
      go_enter Tryz.func169, Tryz.ntmps169
      go_wp2_with fail
      refine HA.out.mono ?_
      rintro e w2 ⟨rfl, rfl⟩
      go_wp2_with fail
      refine wp_region_segs Ext Ext.keeps [([0, 1, 2, 3, 4], some 5), ([6], none)] (by kernel_rfl) (by kernel_rfl) (fun c a a' w e h => (by exact ⟨e ▸ h.1, h.2⟩)) ?_
      simp only [pickSegs, pickOps, List.map_cons, List.map_nil, Option.map_some, Option.map_none, Option.getD_some, List.getElem?_toArray, List.getElem?_cons_zero, List.getElem?_cons_succ]
      refine wpSegs_some fun K hK => ?_
      iterate 2 go_big_quiet_step (fail)
      refine wpQuiet_load rfl 91 (.tmp 17) rfl pb 0 rfl (.agg V0) (fun W hz => by obtain ⟨z, rfl⟩ := hz; exact HL.out z.val (Ext.trans (Ext.drew w) z.ext)) ?_
      simp only [Act.put, List.setIfInBounds_toArray, List.set]
      repeat go_big_quiet_step (fail)
      refine wpQuiet_nil ?_
      go_wp2_with fail
      refine (HS.out _ (Ext.drew w)).mono ?_
      rintro e w3 ⟨rfl, hx3⟩
      have HX3 := Lib.hid hx3
      clear hx3
      go_wp2_with fail
      refine ⟨HX3.out, hK _ _ ?_⟩
      clear hK K
      have hEQ2 := hEQ.out
      have hguard := HGU.out
      refine wpSegs_none ?_
      repeat go_big_quiet_step (fail)
      refine wpQuiet_nil (wpSegs_nil ?_)
      clear hEQ2 hguard
      have HX4 := Lib.hid (Ext.trans (Ext.drew w) HX3.out)
      go_wp2_with fail
      refine (Clone_any _ (l0.take 56) _ (HR.out _ HX4.out) (by rw [HL56.out]; omega)).mono ?_
      rintro e w4 ⟨v, rfl, ho, hb⟩
      have HO := Lib.hid (ownP_pstep (owns_base ho HX4.out.size))
      have HB := Lib.hid (Ext.trans HX4.out hb)
      clear ho hb
      go_wp2_with fail
      go_ret2
      exact ⟨v, rfl, HO.out.1, HB.out, HO.out.2⟩
    · rw [if_neg (fun h => he h.symm)]
      have hEQ : ∀ W, (Op.equalIn 10000 91 (.agg V0) (.agg V1)).run Tryz.prog W = .ok false W := fun W => by rw [HEQ.out W, decide_eq_false he]
      clear he HEQ
      replace hEQ := Lib.hid hEQ
      go_enter Tryz.func169, Tryz.ntmps169
      go_wp2_with fail
      refine HA.out.mono ?_
      rintro e w2 ⟨rfl, rfl⟩
      go_wp2_with fail
      refine wp_region_segs Ext Ext.keeps [([0, 1, 2, 3, 4], some 5), ([6], none)] (by kernel_rfl) (by kernel_rfl) (fun c a a' w e h => (by exact ⟨e ▸ h.1, h.2⟩)) ?_
      simp only [pickSegs, pickOps, List.map_cons, List.map_nil, Option.map_some, Option.map_none, Option.getD_some, List.getElem?_toArray, List.getElem?_cons_zero, List.getElem?_cons_succ]
      refine wpSegs_some fun K hK => ?_
      iterate 2 go_big_quiet_step (fail)
      refine wpQuiet_load rfl 91 (.tmp 17) rfl pb 0 rfl (.agg V0) (fun W hz => by obtain ⟨z, rfl⟩ := hz; exact HL.out z.val (Ext.trans (Ext.drew w) z.ext)) ?_
      simp only [Act.put, List.setIfInBounds_toArray, List.set]
      repeat go_big_quiet_step (fail)
      refine wpQuiet_nil ?_
      go_wp2_with fail
      refine (HS.out _ (Ext.drew w)).mono ?_
      rintro e w3 ⟨rfl, hx3⟩
      have HX3 := Lib.hid hx3
      clear hx3
      go_wp2_with fail
      refine ⟨HX3.out, hK _ _ ?_⟩
      clear hK K
      have hEQ2 := hEQ.out
      have hguard := HGU.out
      refine wpSegs_none ?_
      repeat go_big_quiet_step (fail)
      refine wpQuiet_nil (wpSegs_nil ?_)
      clear hEQ2 hguard
      have HX4 := Lib.hid (Ext.trans (Ext.drew w) HX3.out)
      go_wp2_with fail
      go_ret2
      exact ⟨_, rfl, .inl ⟨rfl, rfl⟩, HX4.out, fun k hk => by cases hk⟩
theorem pRead_any (id : Int) (h : PSto O w p s) (hok : okS s) (hn : -9223372036854775808 ≤ id ∧ id ≤ 9223372036854775807) :
    Calls Tryz.prog 169 #[.pointer (some ⟨p, 0, none⟩), .int .i64 id] w fun e w' => ∃ v, e = .returned (.tuple #[v, .int .i64 (readS s id).2]) ∧ OwnP w.heap.size w' v (readS s id).1 ∧ PStep O w p s w' v := by
  refine (pRead_core id h hok hn).mono ?_
  rintro e w' ⟨v, rfl, h1, h2, h3⟩
  exact ⟨v, rfl, h1, pstep_same h h2 h3⟩
end Go.Proofs.YtaoegcakefodaaaGreat

namespace Go.Proofs.YtaoegcakefodaaaGreat
open Go.RowKit Go.BigFrame
variable {O : Nat → Prop} {p : Nat} {s : St} {w : World}
theorem takeS_lt : ∀ (n i : Nat) (s : St), ∀ x ∈ (takeS i n s).1, i ≤ x ∧ x < i + s.length
  | 0, i, s, x, hx => by rw [takeS_zero] at hx; cases hx
  | n + 1, i, [], x, hx => by rw [takeS_nil] at hx; cases hx
  | n + 1, i, none :: t, x, hx => by
    simp only [takeS, List.mem_cons] at hx
    rcases hx with rfl | hx
    · simp
    · have := takeS_lt n (i + 1) t x hx
      simp only [List.length_cons]
      omega
  | n + 1, i, some q :: t, x, hx => by
    simp only [takeS] at hx
    have := takeS_lt (n + 1) (i + 1) t x hx
    simp only [List.length_cons]
    omega
def setsS (ids : List Nat) (s : St) : St := ids.foldl (fun s j => s.set j (some (layP j []))) s
theorem takeS_sets : ∀ (n i : Nat) (s pre : St), pre.length = i → pre ++ (takeS i n s).2 = setsS (takeS i n s).1 (pre ++ s)
  | 0, i, s, pre, _ => by rw [takeS_zero]; rfl
  | n + 1, i, [], pre, _ => by rw [takeS_nil]; rfl
  | n + 1, i, none :: t, pre, h => by
    simp only [takeS]
    have ih := takeS_sets n (i + 1) t (pre ++ [some (layP i [])]) (by simp [h])
    rw [List.append_assoc] at ih
    have e : pre ++ some (layP i []) :: t = (pre ++ none :: t).set i (some (layP i [])) := by
      rw [List.set_append_right _ _ (by omega), h, Nat.sub_self]
      rfl
    rw [List.append_assoc] at ih
    simp only [List.singleton_append] at ih
    rw [ih, e]
    rfl
  | n + 1, i, some q :: t, pre, h => by
    simp only [takeS]
    have ih := takeS_sets (n + 1) (i + 1) t (pre ++ [some q]) (by simp [h])
    rw [List.append_assoc, List.append_assoc] at ih
    simpa using ih
theorem takeS_all (n : Nat) (s : St) : (takeS 0 n s).2 = setsS (takeS 0 n s).1 s := by
  have := takeS_sets n 0 s [] rfl
  simpa using this
theorem setsS_step (ids : List Nat) (s : St) (k : Nat) (h : k < ids.length) : setsS (ids.take (k + 1)) s = (setsS (ids.take k) s).set ids[k] (some (layP ids[k] [])) := by
  unfold setsS
  rw [List.take_succ_eq_append_getElem h, List.foldl_append]
  rfl
theorem setsS_length (s : St) : ∀ ids : List Nat, (setsS ids s).length = s.length := fun ids => by
  unfold setsS
  induction ids generalizing s with
  | nil => rfl
  | cons a l ih => rw [List.foldl_cons, ih]; simp
set_option maxRecDepth 100000 in
set_option maxHeartbeats 1000000 in
theorem pFirstFree_any (p g : Nat) (t : Slots) (n : Nat) (w : World) (h : PStoT w p g t) (hn : n ≤ 4096) :
    Calls Tryz.prog 47 #[.pointer (some ⟨p, 0, none⟩), .int .i64 n] w fun e w' => ∃ v, e = .returned v ∧ w'.ownsRow w.heap.size 3 1 v (takeS 0 n (bytesT t)).1.length ((takeS 0 n (bytesT t)).1.map iv) ∧ Ext w w' := by
  obtain ⟨i0, hi, hz0, hz1, hz2⟩ := info_parts Tryz.info_int
  have hq := h.top
  have hfew := h.few
  have HT := Lib.hid h
  obtain ⟨T, hT⟩ : ∃ T, T = (takeS 0 n (bytesT t)).1 := ⟨_, rfl⟩
  rw [← hT]
  replace hT := Lib.hid hT
  clear h
  generalize hL : t.length = L at hq hfew
  replace hL := Lib.hid hL
  go_enter Tryz.func47, Tryz.ntmps47
  go_wp2_with (at_make; refine wpList_make_own _ rfl _ _ 48 rfl w.heap.size 3 i0 (.int .i64 0) 1 Tryz.underlying48 hi hz0 hz1 _ _ _ n rfl rfl (by omega) (by rw [hz2]; omega) (by unfold maxLen; omega) (Nat.le_refl _) ?_; intro w1 hown1 hgrow1; have HO1 := Lib.hid hown1; have HX1 := Lib.hid (show Ext w w1 from (Below.refl _ w).grown hgrow1 (Nat.le_refl _) (fun k hk => by cases hk)); have hq := (HX1.out.cell (lt_of_cell hq)).trans hq; clear hown1 hgrow1)
  go_loopw [5, 15] (fun l i wr => ∃ (j m : Nat) (ids : List Nat), j ≤ L ∧ m ≤ n ∧ i = .int .i64 j ∧ ids.length = m ∧ T = ids ++ (takeS j (n - m) (bytesT (t.drop j))).1 ∧ wr.ownsRow w.heap.size 3 1 l m (ids.map iv) ∧ Ext w wr) (fun _ i _ => L - (intOf i).toNat)
  case atStart => exact ⟨0, 0, [], Nat.zero_le _, Nat.zero_le _, rfl, rfl, by rw [hT.out]; rfl, HO1.out, HX1.out⟩
  case round =>
    obtain ⟨j, m, ids, hjL, hmn, rfl, hids, hTe, hown, hext⟩ := hrel
    obtain ⟨a, cap, rfl, hc1, hc2⟩ := own_shape hown
    unfold maxLen at hc2
    have HI := Lib.hid hids
    have HTE := Lib.hid hTe
    have HO := Lib.hid hown
    have HE := Lib.hid hext
    clear hids hTe hown hext
    by_cases hj : j < L
    · have hjs : j < t.length := by have := hL.out; omega
      have hs : t[j]? = some t[j] := List.getElem?_eq_getElem hjs
      have hc := (HE.out.cell (lt_of_cell (HT.out.slot j _ hs))).trans (HT.out.slot j _ hs)
      by_cases hm : m < n
      · have hne : ((m : Int) == (n : Int)) = false := by rw [beq_eq_false_iff_ne]; omega
        have HDR := Lib.hid (show bytesT (t.drop j) = (t[j]).map Prod.snd :: bytesT (t.drop (j + 1)) from by rw [List.drop_eq_getElem_cons hjs]; rfl)
        clear hs
        generalize t[j] = B at hc HDR
        cases B with
        | some x =>
          simp only [ptrV] at hc
          go_wp2_with fail
          go_roundw
          case rel => exact ⟨j + 1, m, ids, by omega, hmn, by go_num, HI.out, by rw [HTE.out, HDR.out, Option.map_some, takeS_some _ _ _ _ (by omega)], HO.out, HE.out⟩
          case measure => simp [intOf]; omega
        | none =>
          simp only [ptrV] at hc
          have HB := Lib.hid (show Below w.heap.size w (wr.alloc (.cells #[.int .i64 (j : Int)] 3)) from Below.alloc HE.out HE.out.size _)
          go_wp2_with (at_builtin; go_must (refine wpList_append_own _ rfl (.tmp 26) (.tmp 28) 48 rfl w.heap.size 3 i0 (.int .i64 0) 1 8 Tryz.underlying48 hi hz0 hz1 hz2 rfl (by decide) _ _ _ rfl (HO.out.alloc _) ⟨wr.heap.size, 0, none⟩ 1 1 [.int .i64 (j : Int)] rfl rfl (row_new wr [.int .i64 (j : Int)] 3) (by simp [Value.oneCell']) (by unfold maxLen; first | omega | (simp; omega)) (by first | omega | (simp; omega)) (by have := HE.out.size; first | omega | (simp; omega)) ?_); intro v5 w5 hown5 hgrow5 _; have HO5 := Lib.hid hown5; have HB5 := Lib.hid (show Below w.heap.size w w5 from HB.out.grown hgrow5 (by have := HE.out.size; simp; omega) (fun k hk => (HO.out.lt k hk).1)); clear hown5 hgrow5)
          go_roundw
          case rel =>
            refine ⟨j + 1, m + 1, ids ++ [j], by omega, by omega, by go_num, by rw [List.length_append, HI.out]; rfl, ?_, ?_, HB5.out⟩
            · rw [HTE.out, HDR.out, Option.map_none, takeS_none _ _ _ (by omega)]
              simp [Nat.sub_sub]
            · have h := HO5.out
              rw [List.map_append]
              exact h
          case measure => simp [intOf]; omega
      · have hmN2 : m = n := by omega
        subst hmN2
        have HTF := Lib.hid (show T = ids from by rw [HTE.out, Nat.sub_self, takeS_zero]; simp)
        clear hs
        generalize ptrV t[j] = B at hc
        go_wp2_with fail
        go_ret
        refine ⟨_, rfl, ?_, HE.out⟩
        rw [HTF.out, HI.out]
        exact HO.out
    · have HTF := Lib.hid (show T = ids from by rw [HTE.out, List.drop_of_length_le (by have := hL.out; omega)]; simp [bytesT, takeS_nil])
      go_wp2_with fail
      go_ret
      refine ⟨_, rfl, ?_, HE.out⟩
      rw [HTF.out, HI.out]
      exact HO.out
end Go.Proofs.YtaoegcakefodaaaGreat

namespace Go.Proofs.YtaoegcakefodaaaGreat
open Go.RowKit Go.BigFrame
variable {O : Nat → Prop} {p : Nat} {s : St} {w : World}
theorem allocS_neg {s : St} {n : Int} (h : n < 0) : allocS s n = (([], 1), s) := by unfold allocS; rw [if_pos h]
theorem allocS_full {s : St} {n : Int} (h : ¬ n < 0) (hf : (s.length : Int) - usedS s < n) : allocS s n = (([], 4), s) := by unfold allocS; rw [if_neg h, if_pos hf]
theorem PSto.mono {O : Nat → Prop} {w w' : World} {p : Nat} {s : St} (h : PSto O w p s) (hx : Ext w w') : PSto O w' p s := h.keep (fun b hb => hx.block b (h.lt b hb)) hx.size
theorem PStoT.add {w2 w' : World} {p g : Nat} {t : Slots} {M : List UInt8} {Z : Array Value} (h : PStoT w2 p g t) (i : Nat) (hi : i < t.length) (hw : w' = (((w2.alloc (.cells Z 91)).setRow w2.heap.size (M.map bv).toArray).setCell ⟨g, i, none⟩ (.pointer (some ⟨w2.heap.size, 0, none⟩))))
    (_hM : M.length = 64) : PStoT w' p g (t.set i (some (w2.heap.size, M))) ∧ OnlyP g w2 w' := by
  obtain ⟨W, hW⟩ : ∃ W, W = (w2.alloc (.cells Z 91)).setRow w2.heap.size (M.map bv).toArray := ⟨_, rfl⟩
  rw [← hW] at hw
  have hWb : ∀ k, k < w2.heap.size → W.heap[k]? = w2.heap[k]? := fun k hk => by
    rw [hW, setRow_other _ _ _ _ (by omega), Below.heap_alloc w2 _ k hk]
  have hWn : W.heap[w2.heap.size]? = some (.cells (M.map bv).toArray 91 (0, 0)) := by
    rw [hW]; exact setRow_heap _ _ _ _ _ _ (heap_alloc_new _ _)
  have hWs : W.heap.size = w2.heap.size + 1 := by rw [hW]; simp
  have hg := h.glt
  have hp : p < w2.heap.size := lt_of_cell h.top
  have hne := h.ne
  have h' : ∀ k, k ≠ g → w'.heap[k]? = W.heap[k]? := fun k hk => by rw [hw]; exact Below.heap_setCell _ _ _ _ hk
  have hs' : w'.heap.size = w2.heap.size + 1 := by rw [hw]; simp [World.setCell, hWs]
  have hn' : w'.heap[w2.heap.size]? = some (.cells (M.map bv).toArray 91 (0, 0)) := by rw [h' _ (by omega)]; exact hWn
  refine ⟨h.change i (some (w2.heap.size, M)) (by omega) ((h' p hne).trans (hWb p hp)) (fun _ => ?_) (fun j hj => ?_) (fun j => ?_) (fun j b l hj ht => ?_) (fun b l he => ?_), ⟨?_, ?_, ?_, by omega, fun k hk hx => ?_⟩⟩
  · rw [hw]
    have hc := h.slot i _ (List.getElem?_eq_getElem hi)
    rw [← cell_of_same (hWb g hg)] at hc
    exact World.cell?_setCell_same _ _ _ hc
  · rw [hw, cell_set_other (.inr hj)]
    exact cell_of_same (hWb g hg)
  · rw [hw]
    have := h.free j
    rw [← frozen_of_same (hWb g hg)] at this
    simpa [go_sem] using this
  · have ha := h.apart j b l ht
    exact (h' b ha.2.1).trans (hWb b ha.2.2)
  · simp only [Option.some.injEq, Prod.mk.injEq] at he
    obtain ⟨rfl, rfl⟩ := he
    refine ⟨fun j u hu => ?_, fun j hj => ?_, by omega, by omega, by omega, fun j l' _ hh => ?_⟩
    · rw [Nat.zero_add, cell_of_row _ _ _ _ _ _ hn']
      simpa using hu
    · unfold World.frozen?
      rw [hn']
      simp
    · have := (h.apart j _ l' hh).2.2
      omega
  · rw [hw, hW]; rfl
  · rw [hw, hW]; rfl
  · rw [hw, hW]; rfl
  · rw [h' k (by simpa using hx)]
    exact hWb k hk
set_option maxRecDepth 100000 in
set_option maxHeartbeats 1000000 in
theorem pAlloc_any (n : Int) (h : PSto O w p s) (hok : okS s) (hn : -9223372036854775808 ≤ n ∧ n ≤ 9223372036854775807) :
    Calls Tryz.prog 25 #[.pointer (some ⟨p, 0, none⟩), .int .i64 n] w fun e w' => ∃ v, e = .returned (.tuple #[v, .int .i64 (allocS s n).1.2]) ∧ w'.ownsRow w.heap.size 3 1 v (allocS s n).1.1.length ((allocS s n).1.1.map iv) ∧ PStep O w p (allocS s n).2 w' v := by
  obtain ⟨hn0, hn1⟩ := hn
  have HP := Lib.hid h
  by_cases hneg : n < 0
  · rw [allocS_neg hneg]
    have hd : decide (n < 0) = true := decide_eq_true hneg
    clear h hok
    go_enter Tryz.func25, Tryz.ntmps25
    go_wp2_with fail
    go_ret2
    exact ⟨_, rfl, World.ownsRow_nil _ _ _ _, pstep_same HP.out (Below.refl _ _) (fun k hk => by cases hk)⟩
  · have hd : decide (n < 0) = false := decide_eq_false hneg
    have hus : usedS s ≤ s.length := List.countP_le_length
    have hfew := hok.1
    have HMO := Lib.hid (pMost_any (w := w) h)
    have HUS := Lib.hid (fun W (hx : Ext w W) => pUsed_any (w := W) (h.mono hx))
    by_cases hf : (s.length : Int) - usedS s < n
    · rw [allocS_full hneg hf]
      have hd2 : decide ((s.length : Int) - usedS s < n) = true := decide_eq_true hf
      clear h hok hf
      generalize usedS s = U at HUS hus hd2
      generalize s.length = L at HMO hus hd2 hfew
      go_enter Tryz.func25, Tryz.ntmps25
      go_wp2_with fail
      refine HMO.out.mono ?_
      rintro e w1 ⟨rfl, hx1⟩
      have HX1 := Lib.hid hx1
      clear hx1
      go_wp2_with fail
      refine (HUS.out w1 HX1.out).mono ?_
      rintro e w2 ⟨rfl, hx2⟩
      have HX2 := Lib.hid (Ext.trans HX1.out hx2)
      clear hx2
      go_wp2_with fail
      go_ret2
      exact ⟨_, rfl, World.ownsRow_nil _ _ _ _, pstep_same HP.out HX2.out (fun k hk => by cases hk)⟩
    · obtain ⟨N, rfl⟩ := Int.eq_ofNat_of_zero_le (show 0 ≤ n by omega)
      rw [allocS_fits _ hneg hf]
      simp only [Int.toNat_natCast]
      have hd2 : decide ((s.length : Int) - usedS s < N) = false := decide_eq_false hf
      have hNl : N ≤ 4096 := by omega
      obtain ⟨g, t, rfl, ht, rfl⟩ := h
      have HT := Lib.hid ht
      have HFF := Lib.hid (fun W (hx : Ext w W) => pFirstFree_any p g t N W (ht.mono hx) hNl)
      have hTl := takeS_lt N 0 (bytesT t)
      rw [bytesT_length, Nat.zero_add] at hTl
      have hAll := takeS_all N (bytesT t)
      obtain ⟨T, hT⟩ : ∃ T, (takeS 0 N (bytesT t)).1 = T := ⟨_, rfl⟩
      rw [hT] at HFF hTl hAll ⊢
      have HTL := Lib.hid hTl
      rw [hAll]
      have hTn : T.length ≤ 4096 := by
        rw [← hT]
        have := takeS_count N 0 (bytesT t) (by omega)
        omega
      obtain ⟨Z, hZ, hZ1⟩ := run_zeroN Tryz.zero64
      have HZ1 := Lib.hid hZ1
      clear hok hf ht hT hTl hAll hZ1 hNl
      have hL4 : (bytesT t).length ≤ 4096 := hfew
      generalize usedS (bytesT t) = U at HUS hus hd2
      generalize hL : (bytesT t).length = L at HMO hus hd2 hfew hL4
      replace hL := Lib.hid hL
      obtain ⟨m, hm⟩ : ∃ m, m = T.length := ⟨_, rfl⟩
      rw [← hm] at HFF hTn ⊢
      have HM := Lib.hid hm
      clear hm
      go_enter Tryz.func25, Tryz.ntmps25
      go_wp2_with fail
      refine HMO.out.mono ?_
      rintro e w1 ⟨rfl, hx1⟩
      have HX1 := Lib.hid hx1
      clear hx1
      go_wp2_with fail
      refine (HUS.out w1 HX1.out).mono ?_
      rintro e w2 ⟨rfl, hx2⟩
      have HX2 := Lib.hid (Ext.trans HX1.out hx2)
      clear hx2
      go_wp2_with fail
      refine (HFF.out w2 HX2.out).mono ?_
      rintro e w3 ⟨v, rfl, hown, hx3⟩
      have HX3 := Lib.hid (Ext.trans HX2.out hx3)
      have hsz2 := HX2.out.size
      obtain ⟨a, cap, rfl, hc1, hc2⟩ := own_shape hown
      unfold maxLen at hc2
      have HO := Lib.hid (owns_base hown hsz2)
      clear hx3 hown hsz2
      have hgw : g < w.heap.size := HT.out.glt
      go_wp2_with fail
      go_loopw [26] (fun i wr => ∃ (k : Nat) (tk : Slots), k ≤ m ∧ i = .int .i64 k ∧ PStoT wr p g tk ∧ bytesT tk = setsS (T.take k) (bytesT t) ∧ OnlyP g w3 wr ∧ (∀ b, ownT p g tk b → ownT p g t b ∨ w3.heap.size ≤ b)) (fun i _ => m - (intOf i).toNat)
      case atStart => exact ⟨0, t, Nat.zero_le _, rfl, HT.out.mono HX3.out, rfl, OnlyP.refl _ _, fun b hb => .inl hb⟩
      case round =>
        obtain ⟨k, tk, hkm, rfl, htk, hbt, hon, hnew⟩ := hrel
        have HTK := Lib.hid htk
        have HBT := Lib.hid hbt
        have HON := Lib.hid hon
        have HNEW := Lib.hid hnew
        clear htk hbt hon hnew
        by_cases hk : k < m
        · have hkT : k < T.length := by have := HM.out; omega
          obtain ⟨g', cap', he, -⟩ := owns_shape HO.out (by omega)
          simp only [Value.slice.injEq] at he
          obtain ⟨rfl, -, -⟩ := he
          have hor := own_only HO.out HON.out hgw
          have hc := hor.cellAt k (by omega)
          rw [List.getElem?_map, List.getElem?_eq_getElem hkT, Option.map_some] at hc
          unfold iv at hc
          have HID := Lib.hid (HTL.out T[k] (List.getElem_mem hkT))
          have HSTEP := Lib.hid (setsS_step T (bytesT t) k hkT)
          have hLt : (bytesT t).length = t.length := bytesT_length t
          generalize T[k] = id at hc HID HSTEP
          have hid4 : id ≤ 4096 := by have := HID.out.2; have := hL.out; omega
          have HLT := Lib.hid hLt
          clear hor hLt
          go_wp2_with fail
          refine (pStored_any id (.slice none 0 0) [] wr (Rd.nil wr) (by simp) hid4).mono ?_
          rintro e w4 ⟨rfl, hx4⟩
          have hM64 := layP_length id [] (by simp)
          obtain ⟨M, hM⟩ : ∃ M, M = layP id [] := ⟨_, rfl⟩
          rw [← hM] at hM64 HSTEP ⊢
          unfold arrP
          have HT4 := Lib.hid (HTK.out.mono hx4)
          have HON4 := Lib.hid (OnlyP.trans HON.out (OnlyP.of_ext (g := g) hx4))
          have hlen : tk.length = t.length := by
            have h := congrArg List.length HBT.out
            rw [bytesT_length, setsS_length, HLT.out] at h
            exact h
          have hidl : id < tk.length := by have := HID.out.2; omega
          have HI := Lib.hid (show (Tryz.prog.info? 91).map (·.size) = some (M.map bv).toArray.size from by rw [List.size_toArray, List.length_map, hM64]; kernel_rfl)
          have HZL := Lib.hid (show (Z.map bv).toArray.size = (M.map bv).toArray.size from by rw [HZ1.out]; simp [zeros, hM64])
          have HADD := Lib.hid (HT4.out.add (Z := (Z.map bv).toArray) id hidl rfl hM64)
          have HW1 := Lib.hid (show ((w4.alloc (.cells (Z.map bv).toArray 91)).setRow w4.heap.size (M.map bv).toArray).cell? ⟨p, 0, none⟩ = some (.slice (some ⟨g, 0, none⟩) tk.length tk.length) ∧ ((w4.alloc (.cells (Z.map bv).toArray 91)).setRow w4.heap.size (M.map bv).toArray).cell? ⟨g, id, none⟩ = some (ptrV tk[id]) ∧ ((w4.alloc (.cells (Z.map bv).toArray 91)).setRow w4.heap.size (M.map bv).toArray).frozen? ⟨g, id, none⟩ = false from by
            have hb : ∀ k, k < w4.heap.size → ((w4.alloc (.cells (Z.map bv).toArray 91)).setRow w4.heap.size (M.map bv).toArray).heap[k]? = w4.heap[k]? := fun k hk => by
              rw [setRow_other _ _ _ _ (by omega), Below.heap_alloc w4 _ k hk]
            exact ⟨by rw [cell_of_same (hb p (lt_of_cell HT4.out.top))]; exact HT4.out.top, by rw [cell_of_same (hb g HT4.out.glt)]; exact HT4.out.slot id _ (List.getElem?_eq_getElem hidl), by rw [frozen_of_same (hb g HT4.out.glt)]; exact HT4.out.free id⟩)
          have hlen4 : tk.length ≤ 4096 := HT4.out.few
          have HSZ4 := Lib.hid (show w3.heap.size ≤ w4.heap.size from HON4.out.size)
          generalize ptrV tk[id] = PV at HW1
          generalize hTKL : tk.length = TL at HW1 hidl hlen4
          clear hM hx4 hM64 hlen hTKL
          go_wp2_with (refine wpList_store_row rfl 91 (.tmp 9) (.tmp 31) rfl w4.heap.size (M.map bv).toArray rfl rfl 91 (Z.map bv).toArray (heap_alloc_new _ _) HI.out HZL.out (all_oneCell_toArray (bv_oneCell M)) ?_; generalize (w4.alloc (.cells (Z.map bv).toArray 91)).setRow w4.heap.size (M.map bv).toArray = W at HW1 HADD ⊢; obtain ⟨c0, c1, f1⟩ := HW1.out)
          go_roundw
          case rel =>
            refine ⟨k + 1, _, by omega, by go_num, HADD.out.1, ?_, OnlyP.trans HON4.out HADD.out.2, fun b hb => ?_⟩
            · rw [bytesT_set, HBT.out, HSTEP.out]
              rfl
            · rcases hb with h | h | ⟨l', h⟩
              · exact .inl (.inl h)
              · exact .inl (.inr (.inl h))
              · rcases List.mem_or_eq_of_mem_set h with h1 | h1
                · exact HNEW.out b (.inr (.inr ⟨l', h1⟩))
                · simp only [Option.some.injEq, Prod.mk.injEq] at h1
                  rw [h1.1]
                  exact .inr HSZ4.out
          case measure => simp [intOf]; omega
        · have hkm2 : k = m := by omega
          subst hkm2
          have HF := Lib.hid (show bytesT tk = setsS T (bytesT t) from by rw [HBT.out, List.take_of_length_le (by have := HM.out; omega)])
          have HOF := Lib.hid (own_only HO.out HON.out hgw)
          go_wp2_with fail
          go_ret2
          refine ⟨_, rfl, HOF.out, ownT p g tk, ⟨g, tk, HF.out.symm, HTK.out, rfl⟩, ?_, fun b hb => ?_, fun k hk hO => ?_⟩
          · exact OnlyS.trans (OnlyS.of_ext HX3.out) (OnlyS.of_onlyP HON.out (.inr (.inl rfl))) (fun i _ h => h)
          · rcases HNEW.out b hb with h | h
            · exact .inl h
            · exact .inr (Nat.le_trans HX3.out.size h)
          · have h1 := HO.out.lt k hk
            rcases HNEW.out k hO with h | h
            · have := HT.out.lt k h
              omega
            · omega
end Go.Proofs.YtaoegcakefodaaaGreat

namespace Go.Proofs.YtaoegcakefodaaaGreat
open Go.RowKit Go.BigFrame
variable {O : Nat → Prop} {p : Nat} {s : St} {w : World}
theorem pchain {O O' : Nat → Prop} {w wr w' : World} {p : Nat} {s : St} {v : Value} (h : OnlyS O w wr) (hn : ∀ b, O' b → O b ∨ w.heap.size ≤ b) (hs : PStep O' wr p s w' v) :
    ∃ O'', PSto O'' w' p s ∧ OnlyS O w w' ∧ (∀ b, O'' b → O b ∨ w.heap.size ≤ b) ∧ (∀ b, O'' b → O' b ∨ wr.heap.size ≤ b) ∧ OnlyS O' wr w' ∧ (∀ k, v.ownBlock = some k → ¬ O'' k) := by
  obtain ⟨O'', h1, h2, h3, h4⟩ := hs
  refine ⟨O'', h1, OnlyS.trans h h2 (fun i hi hO => ?_), fun b hb => ?_, h3, h2, h4⟩
  · rcases hn i hO with h | h
    · exact h
    · omega
  · rcases h3 b hb with h' | h'
    · exact hn b h'
    · exact .inr (Nat.le_trans h.size h')
theorem own_onlyS {X : Nat → Prop} {base : Nat} {e : TypeId} {w w' : World} {v : Value} {n : Nat} {xs : List Value} (h : w.ownsRow base e 1 v n xs) (ho : OnlyS X w w') (hx : ∀ k, v.ownBlock = some k → ¬ X k) : w'.ownsRow base e 1 v n xs := by
  obtain ⟨h1, h2⟩ := h
  refine ⟨h1, ?_⟩
  rcases h2 with h2 | ⟨g, cap, cur, rfl, h3, h4, h5⟩
  · exact .inl h2
  · exact .inr ⟨g, cap, cur, rfl, h3, by rw [ho.block g (Array.getElem?_eq_some_iff.1 h4).1 (hx g rfl)]; exact h4, h5⟩
set_option maxRecDepth 100000 in
set_option maxHeartbeats 1000000 in
theorem pDrop_any (u : Value) (ids : List Int) (h : PSto O w p s) (hok : okS s) (hu : RdV w u (ids.map (Value.int .i64))) (hb : ids ≠ [] → ∀ k, u.ownBlock = some k → ¬ O k) (hl : ids.length ≤ 1000000000000) (hw : ∀ i ∈ ids, -9223372036854775808 ≤ i ∧ i ≤ 9223372036854775807) :
    Calls Tryz.prog 101 #[.pointer (some ⟨p, 0, none⟩), u] w fun e w' => e = .returned (.tuple #[]) ∧ PStep O w p (dropS s ids) w' .nilIface := by
  have HU := Lib.hid hu
  obtain ⟨ai, capi, rfl, hc1, hc2, -⟩ := RdV.cellsAt hu
  have HB := Lib.hid hb
  have HW := Lib.hid hw
  have HP := Lib.hid h
  have HOK := Lib.hid hok
  rw [List.length_map] at hc1 HU HB ⊢
  unfold maxLen at hc2
  obtain ⟨N, hN⟩ : ∃ N, ids.length = N := ⟨_, rfl⟩
  have HN := Lib.hid hN
  rw [hN] at hc1 hl HU HB ⊢
  clear hu hb hw h hok hN
  go_enter Tryz.func101, Tryz.ntmps101
  go_wp2_with fail
  go_loopw [8] (fun i wr => ∃ (k : Nat) (O' : Nat → Prop) (sk : St), k ≤ N ∧ i = .int .i64 k ∧ PSto O' wr p sk ∧ okS sk ∧ dropS s ids = dropS sk (ids.drop k) ∧ OnlyS O w wr ∧ (∀ b, O' b → O b ∨ w.heap.size ≤ b)) (fun i _ => N - (intOf i).toNat)
  case atStart => exact ⟨0, O, s, Nat.zero_le _, rfl, HP.out, HOK.out, rfl, OnlyS.refl _ _, fun b hb => .inl hb⟩
  case round =>
    obtain ⟨k, O', sk, hk, rfl, hps, hoks, hdr, hon, hnew⟩ := hrel
    have HPS := Lib.hid hps
    have HOKS := Lib.hid hoks
    have HDR := Lib.hid hdr
    have HON := Lib.hid hon
    have HNEW := Lib.hid hnew
    clear hps hoks hdr hon hnew
    by_cases hlt : k < N
    · have hki : k < ids.length := by have := HN.out; omega
      have hne : ids.map (Value.int .i64) ≠ [] := by rintro h; rw [List.map_eq_nil_iff] at h; rw [h] at hki; simp at hki
      have hne2 : ids ≠ [] := by rintro rfl; simp at hki
      obtain ⟨ao, ca, h7, _, _, h8⟩ := RdV.cellsAt (RdV.onlyS HU.out HON.out (fun _ => HB.out hne2))
      simp only [Value.slice.injEq] at h7
      obtain ⟨rfl, -, -⟩ := h7
      obtain ⟨x, rfl, hcx⟩ := h8 k (.int .i64 ids[k]) (by rw [List.getElem?_map, List.getElem?_eq_getElem hki]; rfl)
      have HF := Lib.hid (pFree_any ids[k] HPS.out HOKS.out (HW.out _ (List.getElem_mem hki)))
      have HD := Lib.hid (show dropS sk (ids.drop k) = dropS (freeS sk ids[k]).2 (ids.drop (k + 1)) from by rw [List.drop_eq_getElem_cons hki]; rfl)
      have HOK2 := Lib.hid (freeS_ok HOKS.out ids[k])
      generalize ids[k] = id at hcx HF HD HOK2
      clear h8 hne hne2 hki
      go_wp2_with fail
      refine HF.out.mono ?_
      rintro e w3 ⟨rfl, hst⟩
      obtain ⟨O'', k1, k2, k3, -, -, -⟩ := pchain HON.out HNEW.out hst
      have HK1 := Lib.hid k1
      have HK2 := Lib.hid k2
      have HK3 := Lib.hid k3
      clear hst k1 k2 k3
      go_wp2_with fail
      go_roundw
      case rel => exact ⟨k + 1, O'', _, by omega, by go_num, HK1.out, HOK2.out, by rw [HDR.out, HD.out], HK2.out, HK3.out⟩
      case measure => simp [intOf]; omega
    · have hF := Lib.hid (show dropS s ids = sk from by rw [HDR.out, List.drop_of_length_le (by have := HN.out; omega)]; rfl)
      go_wp2_with fail
      go_end0
      exact ⟨rfl, O', by rw [hF.out]; exact HPS.out, HON.out, HNEW.out, fun _ hk => by cases hk⟩
theorem Tryz.info_ptr : (Tryz.prog.info? 88).map (fun i => (i.zero, i.size, i.bytes)) = some (some (.pointer none), 1, 8) := by kernel_rfl
def PNewed (w : World) (n : Int) (e : Ending) (w' : World) : Prop :=
  (0 ≤ n ∧ n ≤ 4096 ∧ ∃ p O', e = .returned (.tuple #[.pointer (some ⟨p, 0, none⟩), .int .i64 0]) ∧ PSto O' w' p (List.replicate n.toNat none) ∧ (∀ b, O' b → w.heap.size ≤ b) ∧ Ext w w') ∨
  (¬ (0 ≤ n ∧ n ≤ 4096) ∧ e = .returned (.tuple #[.pointer none, .int .i64 1]) ∧ Ext w w')
theorem pNew_any (n : Int) (hn : -9223372036854775808 ≤ n ∧ n ≤ 9223372036854775807) : Calls Tryz.prog 14 #[.int .i64 n] w (PNewed w n) := by
  obtain ⟨h0, h1⟩ := hn
  by_cases hneg : n < 0
  · have hd : decide (n < 0) = true := decide_eq_true hneg
    go_enter Tryz.func14, Tryz.ntmps14
    go_wp2_with fail
    go_ret2
    exact .inr ⟨by omega, rfl, Below.refl _ _⟩
  · have hd : decide (n < 0) = false := decide_eq_false hneg
    by_cases hbig : 4096 < n
    · have hd2 : decide (4096 < n) = true := decide_eq_true hbig
      go_enter Tryz.func14, Tryz.ntmps14
      go_wp2_with fail
      go_ret2
      exact .inr ⟨by omega, rfl, Below.refl _ _⟩
    · have hd2 : decide (4096 < n) = false := decide_eq_false hbig
      obtain ⟨N, rfl⟩ := Int.eq_ofNat_of_zero_le (show 0 ≤ n by omega)
      obtain ⟨i0, hi, hz0, hz1, hz2⟩ := info_parts Tryz.info_ptr
      have hmk := run_makeSlice (P := Tryz.prog) w 73 88 i0 _ Tryz.underlying73 hi hz0 .i64 .i64 N N (by omega) (Int.le_refl _) (by rw [hz1]; omega) (by rw [hz2]; omega) (by omega)
      rw [hz1] at hmk
      simp only [Int.toNat_natCast, Nat.mul_one] at hmk
      have hcs : ∀ k u, (madeCells (Value.pointer none).cells N)[k]? = some u → k < N ∧ u = .pointer none := fun k u hu => by
        unfold madeCells at hu
        rw [Array.getElem?_map] at hu
        obtain ⟨y, hy, rfl⟩ := Option.map_eq_some_iff.1 hu
        have hk := (Array.getElem?_eq_some_iff.1 hy).1
        simp at hk
        have hsz : (Value.pointer none).cells.size = 1 := rfl
        refine ⟨hk, ?_⟩
        simp only [hsz, Nat.mod_one]
        rfl
      have hcs2 : ∀ k, k < N → (madeCells (Value.pointer none).cells N)[k]? = some (.pointer none) := fun k hk => by
        have hsz : k < (madeCells (Value.pointer none).cells N).size := by unfold madeCells; simpa using hk
        rw [Array.getElem?_eq_getElem hsz]
        exact congrArg some (hcs k _ (Array.getElem?_eq_getElem hsz)).2
      generalize madeCells (Value.pointer none).cells N = C at hmk hcs hcs2
      have HCS := Lib.hid hcs2
      clear hcs hcs2
      go_enter Tryz.func14, Tryz.ntmps14
      go_wp2_with fail
      go_ret2
      refine .inl ⟨by omega, by omega, w.heap.size + 1, _, rfl, ⟨w.heap.size, List.replicate N none, by simp [bytesT], ⟨?_, fun i o hi => ?_, fun i b l hi => ?_, fun i b l hi => ?_, fun j => ?_, fun i j b l l' hi => ?_, by omega, fun i b l hi => ?_, by simp; omega, by simp; omega⟩, rfl⟩, fun b hb => ?_, Ext.trans (ext_new w _) (ext_new _ _)⟩
      · unfold World.cell?
        rw [heap_alloc2_new]
        simp
      · rw [List.getElem?_replicate] at hi
        split at hi
        · rename_i hiN
          cases hi
          unfold World.cell?
          rw [heap_alloc2_old]
          simpa [ptrV] using HCS.out i hiN
        · cases hi
      · rw [List.getElem?_replicate] at hi
        split at hi <;> cases hi
      · rw [List.getElem?_replicate] at hi
        split at hi <;> cases hi
      · unfold World.frozen?
        rw [heap_alloc2_old]
        simp
      · rw [List.getElem?_replicate] at hi
        split at hi <;> cases hi
      · rw [List.getElem?_replicate] at hi
        split at hi <;> cases hi
      · rcases hb with rfl | rfl | ⟨l, hl⟩
        · omega
        · omega
        · cases (List.eq_of_mem_replicate hl)
end Go.Proofs.YtaoegcakefodaaaGreat

namespace Go.Proofs.YtaoegcakefodaaaGreat
open Go.RowKit Go.BigFrame
variable {O : Nat → Prop} {p : Nat} {s : St} {w : World}
theorem add_more' (x : Addr) (n i : Nat) : (x.add n).add i = x.add (n + i) := by
  unfold Addr.add
  by_cases hn : n = 0
  · subst hn; simp
  · by_cases hi : i = 0
    · subst hi; simp [hn]
    · simp [hn, hi, Nat.add_assoc]
end Go.Proofs.YtaoegcakefodaaaGreat

namespace Go.Proofs.YtaoegcakefodaaaGreat
open Go.RowKit Go.BigFrame
theorem PSto.onlyS {O X : Nat → Prop} {w w' : World} {p : Nat} {s : St} (h : PSto O w p s) (ho : OnlyS X w w') (hx : ∀ b, O b → ¬ X b) : PSto O w' p s :=
  h.keep (fun b hb => ho.block b (h.lt b hb) (hx b hb)) ho.size
end Go.Proofs.YtaoegcakefodaaaGreat

namespace Go.Proofs.YtaoegcakefodaaaGreat
open Go.RowKit Go.BigFrame
def InRow (v : Value) (n : Nat) (b : Nat) : Prop := 0 < n ∧ v.ownBlock = some b
theorem OwnP.row {base : Nat} {w : World} {v : Value} {l : List UInt8} (h : OwnP base w v l) : ∀ b, InRow v l.length b → base ≤ b ∧ b < w.heap.size := fun b hb => by
  obtain ⟨h0, h1⟩ := hb
  rcases h with ⟨rfl, rfl⟩ | ⟨g, off, cap, rfl, h2, h3, h4, h5, h6⟩
  · simp at h0
  · cases h1
    exact ⟨h2, lt_of_cell (h5 0 (bv (l[0]'h0)) (by rw [List.getElem?_map, List.getElem?_eq_getElem h0]; rfl))⟩
theorem OwnP.shape {base : Nat} {w : World} {v : Value} {l : List UInt8} (h : OwnP base w v l) : ∃ a cap, v = .slice a l.length cap ∧ l.length ≤ cap ∧ cap ≤ maxLen := by
  rcases h with ⟨rfl, rfl⟩ | ⟨g, off, cap, rfl, _, h2, h3, _⟩
  · exact ⟨none, 0, rfl, Nat.le_refl _, by simp [maxLen]⟩
  · exact ⟨_, cap, rfl, h2, h3⟩
theorem writesS_length : ∀ (ids : List Nat) (b : List UInt8) (s : St), (writesS ids b s).length = s.length
  | [], _, _ => rfl
  | id :: t, b, s => by
    unfold writesS
    rw [writesS_length, List.length_set]
theorem freeS_length (s : St) (id : Int) : (freeS s id).2.length = s.length := by
  unfold freeS setS
  split
  · rfl
  · simp
theorem dropS_length : ∀ (ids : List Int) (s : St), (dropS s ids).length = s.length
  | [], _ => rfl
  | id :: t, s => by
    unfold dropS
    rw [dropS_length, freeS_length]
end Go.Proofs.YtaoegcakefodaaaGreat

namespace Go.Proofs.YtaoegcakefodaaaGreat
open Go.RowKit Go.BigFrame
def Holds (s : St) : List Nat → List UInt8 → Prop
  | [], x => x = []
  | id :: t, x => x ≠ [] ∧ s[id]? = some (some (layP id (x.take 56))) ∧ Holds s t (x.drop 56)
theorem fill_fill (b : List UInt8) (h : b.length ≤ 56) : fill (fill b) = fill b := fill_full _ (fill_length b h)
theorem layP_fill (id : Nat) (b : List UInt8) (h : b.length ≤ 56) : layP id (fill b) = layP id b := by
  unfold layP
  rw [fill_fill b h]
theorem pageS_at {s : St} {id : Nat} {o : Option (List UInt8)} (h : s[id]? = some o) : pageS s (id : Int) = o := by
  unfold pageS
  rw [if_pos (by omega), Int.toNat_natCast, h]
  rfl
theorem read_laid {s : St} {id : Nat} {b : List UInt8} (h : s[id]? = some (some (layP id b))) (hb : b.length ≤ 56) : readS s (id : Int) = (fill b, 0) := by
  unfold readS
  rw [pageS_at h]
  simp only
  rw [Int.toNat_natCast, layP_take id b hb, layP_fill id b hb, if_pos rfl]
theorem needS_nil : needS ((0 : Nat) : Int) = 0 := rfl
theorem needS_step {n : Nat} (h : 0 < n) : needS (n : Int) = needS ((n - 56 : Nat) : Int) + 1 := by
  unfold needS
  by_cases h56 : n ≤ 56
  · rw [if_neg (by omega), if_pos (by omega)]
    omega
  · rw [if_neg (by omega), if_neg (by omega)]
    omega
theorem Holds.count {s : St} : ∀ {ids : List Nat} {x : List UInt8}, Holds s ids x → (ids.length : Int) = needS (x.length : Int)
  | [], x, h => by
    have h1 : x = [] := h
    rw [h1]; rfl
  | id :: t, x, h => by
    obtain ⟨h1, _, h3⟩ := h
    have ih := h3.count
    rw [List.length_drop] at ih
    rw [needS_step (List.length_pos_iff.2 h1), ← ih]
    simp
theorem Holds.keep {s s' : St} : ∀ {ids : List Nat} {x : List UInt8}, Holds s ids x → (∀ i ∈ ids, ∀ q, s[i]? = some (some q) → s'[i]? = some (some q)) → Holds s' ids x
  | [], _, h, _ => h
  | _ :: _, _, ⟨h1, h2, h3⟩, hk => ⟨h1, hk _ (.head _) _ h2, h3.keep (fun i hi => hk i (.tail _ hi))⟩
theorem Holds.page {s : St} : ∀ {ids : List Nat} {x : List UInt8}, Holds s ids x → ∀ i ∈ ids, ∃ c, c.length ≤ 56 ∧ s[i]? = some (some (layP i c))
  | id :: t, x, ⟨_, h2, h3⟩, i, hi => by
    rcases List.mem_cons.1 hi with rfl | hi
    · exact ⟨_, by rw [List.length_take]; omega, h2⟩
    · exact h3.page i hi
theorem writesS_other : ∀ (ids : List Nat) (b : List UInt8) (s : St) (i : Nat), i ∉ ids → (writesS ids b s)[i]? = s[i]?
  | [], _, _, _, _ => rfl
  | id :: t, b, s, i, h => by
    unfold writesS
    rw [writesS_other t _ _ i (fun hh => h (.tail _ hh)), List.getElem?_set_ne (fun e => h (by rw [e]; exact .head _))]
theorem writesS_holds : ∀ (ids : List Nat) (x : List UInt8) (s : St), ids.Nodup → (∀ i ∈ ids, i < s.length) → (ids.length : Int) = needS (x.length : Int) → Holds (writesS ids x s) ids x
  | [], x, s, _, _, hn => by
    show x = []
    cases x with
    | nil => rfl
    | cons a t =>
      rw [needS_step (by simp)] at hn
      have : 0 ≤ needS (((a :: t).length - 56 : Nat) : Int) := by unfold needS; split <;> omega
      rw [List.length_nil] at hn
      omega
  | id :: t, x, s, hd, hl, hn => by
    have hx : x ≠ [] := by
      rintro rfl
      simp only [List.length_nil, List.length_cons] at hn
      rw [needS_nil] at hn
      omega
    have hd' := List.nodup_cons.1 hd
    rw [needS_step (List.length_pos_iff.2 hx)] at hn
    refine ⟨hx, ?_, ?_⟩
    · unfold writesS
      rw [writesS_other t _ _ id hd'.1, List.getElem?_set_self (hl id (.head _))]
    · unfold writesS
      exact writesS_holds t (x.drop 56) _ hd'.2 (fun i hi => by rw [List.length_set]; exact hl i (.tail _ hi)) (by rw [List.length_drop]; simp only [List.length_cons] at hn; omega)
theorem takeS_nodup : ∀ (n i : Nat) (s : St), (takeS i n s).1.Nodup
  | 0, i, s => by rw [takeS_zero]; exact List.nodup_nil
  | n + 1, i, [] => by rw [takeS_nil]; exact List.nodup_nil
  | n + 1, i, none :: t => by
    simp only [takeS]
    refine List.nodup_cons.2 ⟨fun h => ?_, takeS_nodup n (i + 1) t⟩
    have := (takeS_lt n (i + 1) t i h).1
    omega
  | n + 1, i, some q :: t => by
    simp only [takeS]
    exact takeS_nodup (n + 1) (i + 1) t
theorem takeS_free : ∀ (n i : Nat) (s : St), ∀ x ∈ (takeS i n s).1, s[x - i]? = some none
  | 0, i, s, x, h => by rw [takeS_zero] at h; cases h
  | n + 1, i, [], x, h => by rw [takeS_nil] at h; cases h
  | n + 1, i, none :: t, x, h => by
    simp only [takeS, List.mem_cons] at h
    rcases h with rfl | h
    · simp
    · have h1 := takeS_free n (i + 1) t x h
      have h2 := (takeS_lt n (i + 1) t x h).1
      rw [show x - i = (x - (i + 1)) + 1 by omega]
      exact h1
  | n + 1, i, some q :: t, x, h => by
    simp only [takeS] at h
    have h1 := takeS_free (n + 1) (i + 1) t x h
    have h2 := (takeS_lt (n + 1) (i + 1) t x h).1
    rw [show x - i = (x - (i + 1)) + 1 by omega]
    exact h1
theorem putS_holds {s : St} {x : List UInt8} (h : (putS s x).1.2 = 0) : Holds (putS s x).2 (putS s x).1.1 x ∧ (putS s x).1.1.Nodup ∧ (∀ i ∈ (putS s x).1.1, s[i]? = some none) ∧ ((putS s x).1.1.length : Int) = needS (x.length : Int) := by
  have hs : (allocS s (needS x.length)).1.2 = 0 := by
    unfold putS at h
    by_cases he : (allocS s (needS x.length)).1.2 = 0
    · exact he
    · rw [if_neg he] at h
      exact h
  have hfit : ¬ needS (x.length : Int) < 0 ∧ ¬ (s.length : Int) - usedS s < needS (x.length : Int) := by
    unfold allocS at hs
    split at hs
    · cases hs
    · split at hs
      · cases hs
      · exact ⟨by assumption, by assumption⟩
  have hput : putS s x = (((allocS s (needS x.length)).1.1, 0), writesS (allocS s (needS x.length)).1.1 x (allocS s (needS x.length)).2) := by unfold putS; rw [if_pos hs]
  have hal := allocS_fits (s := s) (needS (x.length : Int)) hfit.1 hfit.2
  have hus := (List.countP_le_length : usedS s ≤ s.length)
  have hn : 0 ≤ needS (x.length : Int) := by unfold needS; split <;> omega
  have hcnt := takeS_count (needS (x.length : Int)).toNat 0 s (by omega)
  rw [hput, hal]
  simp only
  refine ⟨writesS_holds _ x _ (takeS_nodup _ _ _) (fun i hi => ?_) (by rw [hcnt]; omega), takeS_nodup _ _ _, fun i hi => ?_, by rw [hcnt]; omega⟩
  · rw [takeS_length]
    have := (takeS_lt _ _ _ i hi).2
    omega
  · have := takeS_free _ _ _ i hi
    rwa [Nat.sub_zero] at this
end Go.Proofs.YtaoegcakefodaaaGreat

namespace Go.Proofs.YtaoegcakefodaaaGreat
open Go.RowKit Go.BigFrame
theorem takeS_used : ∀ (n i : Nat) (s : St), n + usedS s ≤ s.length → usedS (takeS i n s).2 = usedS s + n
  | 0, i, s, _ => by rw [takeS_zero]; rfl
  | n + 1, i, [], h => by simp at h
  | n + 1, i, none :: t, h => by
    have := takeS_used n (i + 1) t (by simp [usedS] at h ⊢; omega)
    simp only [takeS]
    unfold usedS at this ⊢
    rw [List.countP_cons, this, List.countP_cons]
    simp
    omega
  | n + 1, i, some q :: t, h => by
    have := takeS_used (n + 1) (i + 1) t (by simp [usedS] at h ⊢; omega)
    simp only [takeS]
    unfold usedS at this ⊢
    rw [List.countP_cons, this, List.countP_cons]
    simp
    omega
end Go.Proofs.YtaoegcakefodaaaGreat

namespace Go.Proofs.YtaoegcakefodaaaGreat
open Go.RowKit
structure V where
  k : Int
  n : Int
  s : List UInt8
deriving DecidableEq
def V.zero : V := ⟨0, 0, []⟩
def V.val (v : V) : Value := .agg #[.int .u8 v.k, .int .i64 v.n, .string ⟨v.s.toArray⟩]
def V.cells (v : V) : List Value := [.int .u8 v.k, .int .i64 v.n, .string ⟨v.s.toArray⟩]
structure V.fits (v : V) : Prop where
  k0 : 0 ≤ v.k
  k1 : v.k ≤ 255
  lo : -9223372036854775808 ≤ v.n
  hi : v.n ≤ 9223372036854775807
def rightV (v : V) : Bool :=
  (decide (v.k = 0) && decide (v.n = 0) && decide (v.s = [])) || (decide (v.k = 1) && (decide (v.n = 0) || decide (v.n = 1)) && decide (v.s = [])) ||
  (decide (v.k = 2) && decide (v.s = [])) || (decide (v.k = 3) && decide (v.n = 0) && decide (v.s.length ≤ 1024))
theorem rightV_iff (v : V) : rightV v = true ↔ (v.k = 0 ∧ v.n = 0 ∧ v.s = []) ∨ (v.k = 1 ∧ (v.n = 0 ∨ v.n = 1) ∧ v.s = []) ∨ (v.k = 2 ∧ v.s = []) ∨ (v.k = 3 ∧ v.n = 0 ∧ v.s.length ≤ 1024) := by
  unfold rightV
  simp only [Bool.or_eq_true, Bool.and_eq_true, decide_eq_true_eq, and_assoc, or_assoc]
def cmpN (a b : Int) : Int := if a = b then 0 else if a < b then -1 else 1
def cmpB (a b : List UInt8) : Int := if a = b then 0 else if Op.bytesLess a b = true then -1 else 1
def cmpV (a b : V) : Int := if a.k = b.k then (if a.n = b.n then cmpB a.s b.s else cmpN a.n b.n) else cmpN a.k b.k
theorem cmpN_zero {a b : Int} : cmpN a b = 0 ↔ a = b := by unfold cmpN; split <;> (try split) <;> omega
theorem cmpN_neg (a b : Int) : cmpN b a = -cmpN a b := by unfold cmpN; repeat' split <;> try omega
theorem cmpN_three (a b : Int) : cmpN a b = -1 ∨ cmpN a b = 0 ∨ cmpN a b = 1 := by
  unfold cmpN
  split
  · exact .inr (.inl rfl)
  · split
    · exact .inl rfl
    · exact .inr (.inr rfl)
theorem cmpN_lt {a b : Int} : cmpN a b = -1 ↔ a < b := by
  unfold cmpN
  by_cases h : a = b
  · subst h; simp
  · rw [if_neg h]
    by_cases h2 : a < b
    · simp [h2]
    · simp [h2]
theorem less_iff (a b : List UInt8) : Op.bytesLess a b = true ↔ a < b := by rw [bytesLess_eq]; simp
theorem less_asymm {a b : List UInt8} (h : a < b) : ¬ b < a := List.not_lt.2 (List.le_of_lt h)
theorem cmpB_zero {a b : List UInt8} : cmpB a b = 0 ↔ a = b := by
  unfold cmpB
  by_cases h : a = b
  · simp [h]
  · rw [if_neg h]
    split <;> simp [h]
theorem cmpB_three (a b : List UInt8) : cmpB a b = -1 ∨ cmpB a b = 0 ∨ cmpB a b = 1 := by
  unfold cmpB
  split
  · exact .inr (.inl rfl)
  · split
    · exact .inl rfl
    · exact .inr (.inr rfl)
theorem cmpB_lt {a b : List UInt8} : cmpB a b = -1 ↔ a < b := by
  unfold cmpB
  by_cases h : a = b
  · subst h
    simp
  · rw [if_neg h]
    by_cases hl : Op.bytesLess a b = true
    · rw [if_pos hl]
      simp [(less_iff a b).1 hl]
    · rw [if_neg hl]
      simp only [less_iff] at hl
      simp [hl]
theorem less_total (a b : List UInt8) (h : a ≠ b) : a < b ∨ b < a := by
  rcases Classical.em (a < b) with h1 | h1
  · exact .inl h1
  · right
    rcases Classical.em (b < a) with h2 | h2
    · exact h2
    · exact absurd (List.le_antisymm (List.not_lt.1 h2) (List.not_lt.1 h1)) h
theorem cmpB_neg (a b : List UInt8) : cmpB b a = -cmpB a b := by
  by_cases h : a = b
  · subst h
    have := (cmpB_zero (a := a) (b := a)).2 rfl
    omega
  · rcases less_total a b h with hl | hl
    · have h1 := cmpB_lt.2 hl
      have h2 : cmpB b a ≠ -1 := fun e => less_asymm hl (cmpB_lt.1 e)
      have h3 : cmpB b a ≠ 0 := fun e => h (cmpB_zero.1 e).symm
      have := cmpB_three b a
      omega
    · have h1 := cmpB_lt.2 hl
      have h2 : cmpB a b ≠ -1 := fun e => less_asymm hl (cmpB_lt.1 e)
      have h3 : cmpB a b ≠ 0 := fun e => h (cmpB_zero.1 e)
      have := cmpB_three a b
      omega
theorem cmpV_zero {a b : V} : cmpV a b = 0 ↔ a = b := by
  obtain ⟨k, n, s⟩ := a
  obtain ⟨k', n', s'⟩ := b
  unfold cmpV
  simp only [V.mk.injEq]
  by_cases hk : k = k'
  · rw [if_pos hk]
    by_cases hn : n = n'
    · rw [if_pos hn, cmpB_zero]
      simp [hk, hn]
    · rw [if_neg hn, cmpN_zero]
      simp [hn]
  · rw [if_neg hk, cmpN_zero]
    simp [hk]
theorem cmpV_three (a b : V) : cmpV a b = -1 ∨ cmpV a b = 0 ∨ cmpV a b = 1 := by
  unfold cmpV
  split
  · split
    · exact cmpB_three _ _
    · exact cmpN_three _ _
  · exact cmpN_three _ _
theorem cmpV_neg (a b : V) : cmpV b a = -cmpV a b := by
  unfold cmpV
  by_cases hk : a.k = b.k
  · rw [if_pos hk, if_pos hk.symm]
    by_cases hn : a.n = b.n
    · rw [if_pos hn, if_pos hn.symm, cmpB_neg]
    · rw [if_neg hn, if_neg (Ne.symm hn), cmpN_neg]
  · rw [if_neg hk, if_neg (Ne.symm hk), cmpN_neg]
theorem cmpV_trans {a b c : V} (h1 : cmpV a b = -1) (h2 : cmpV b c = -1) : cmpV a c = -1 := by
  unfold cmpV at *
  by_cases hk : a.k = b.k
  · by_cases hk2 : b.k = c.k
    · rw [if_pos hk] at h1
      rw [if_pos hk2] at h2
      rw [if_pos (hk.trans hk2)]
      by_cases hn : a.n = b.n
      · by_cases hn2 : b.n = c.n
        · rw [if_pos hn] at h1
          rw [if_pos hn2] at h2
          rw [if_pos (hn.trans hn2)]
          exact cmpB_lt.2 (List.lt_trans (cmpB_lt.1 h1) (cmpB_lt.1 h2))
        · rw [if_neg hn2] at h2
          rw [if_neg (by rw [hn]; exact hn2), hn]
          exact h2
      · rw [if_neg hn] at h1
        have l1 := cmpN_lt.1 h1
        by_cases hn2 : b.n = c.n
        · rw [if_neg (by rw [← hn2]; exact hn), ← hn2]
          exact h1
        · rw [if_neg hn2] at h2
          have l2 := cmpN_lt.1 h2
          rw [if_neg (by omega)]
          exact cmpN_lt.2 (by omega)
    · rw [if_neg hk2] at h2
      rw [if_neg (by rw [hk]; exact hk2), hk]
      exact h2
  · rw [if_neg hk] at h1
    have l1 := cmpN_lt.1 h1
    by_cases hk2 : b.k = c.k
    · rw [if_neg (by rw [← hk2]; exact hk), ← hk2]
      exact h1
    · rw [if_neg hk2] at h2
      have l2 := cmpN_lt.1 h2
      rw [if_neg (by omega)]
      exact cmpN_lt.2 (by omega)
theorem cmpV_law (a b c : V) : (0 < cmpV a b ∨ 0 < cmpV b c) ∨ (cmpV a c ≤ 0 ∧ ((cmpV a b = 0 ∧ cmpV b c = 0) ∨ cmpV a c < 0)) := by
  rcases cmpV_three a b with h | h | h
  · rcases cmpV_three b c with h2 | h2 | h2
    · have := cmpV_trans h h2
      omega
    · have e := cmpV_zero.1 h2
      subst e
      omega
    · omega
  · have e := cmpV_zero.1 h
    subst e
    have := cmpV_three a c
    omega
  · omega
def RdVals (w : World) (u : Value) (vs : List V) : Prop :=
  ∃ ao cap, u = .slice ao vs.length cap ∧ vs.length ≤ cap ∧ cap ≤ maxLen ∧ ∀ j, (hj : j < vs.length) → ∃ g off, ao = some ⟨g, off, none⟩ ∧ ∀ i y, (vs[j].cells)[i]? = some y → w.cell? ⟨g, off + j * 3 + i, none⟩ = some y
def RdRows (w : World) (u : Value) (rs : List (List V)) : Prop :=
  ∃ ao cap, u = .slice ao rs.length cap ∧ rs.length ≤ cap ∧ cap ≤ maxLen ∧ ∀ j, (hj : j < rs.length) → ∃ x v, ao = some x ∧ RdVals w v rs[j] ∧ w.cell? (x.add j) = some v
theorem RdVals.mono {w w' : World} {u : Value} {vs : List V} (h : RdVals w u vs) (hb : Below w.heap.size w w') : RdVals w' u vs := by
  obtain ⟨ao, cap, h1, h2, h3, h4⟩ := h
  refine ⟨ao, cap, h1, h2, h3, fun j hj => ?_⟩
  obtain ⟨g, off, h5, h6⟩ := h4 j hj
  exact ⟨g, off, h5, fun i y hy => (hb.cell (World.block_lt_of_cell? w _ (h6 i y hy))).trans (h6 i y hy)⟩
theorem RdRows.mono {w w' : World} {u : Value} {rs : List (List V)} (h : RdRows w u rs) (hb : Below w.heap.size w w') : RdRows w' u rs := by
  obtain ⟨ao, cap, h1, h2, h3, h4⟩ := h
  refine ⟨ao, cap, h1, h2, h3, fun j hj => ?_⟩
  obtain ⟨x, v, h5, h6, h7⟩ := h4 j hj
  exact ⟨x, v, h5, h6.mono hb, (hb.cell (World.block_lt_of_cell? w _ h7)).trans h7⟩
theorem RdVals.nil (w : World) : RdVals w (.slice none 0 0) [] := ⟨none, 0, rfl, Nat.le_refl _, by simp [maxLen], fun j hj => by simp at hj⟩
theorem RdRows.nil (w : World) : RdRows w (.slice none 0 0) [] := ⟨none, 0, rfl, Nat.le_refl _, by simp [maxLen], fun j hj => by simp at hj⟩
theorem RdVals.shape {w : World} {u : Value} {vs : List V} (h : RdVals w u vs) : ∃ a cap, u = .slice a vs.length cap ∧ vs.length ≤ cap ∧ cap ≤ maxLen := by
  obtain ⟨a, cap, h1, h2, h3, _⟩ := h
  exact ⟨a, cap, h1, h2, h3⟩
theorem RdRows.shape {w : World} {u : Value} {rs : List (List V)} (h : RdRows w u rs) : ∃ a cap, u = .slice a rs.length cap ∧ rs.length ≤ cap ∧ cap ≤ maxLen := by
  obtain ⟨a, cap, h1, h2, h3, _⟩ := h
  exact ⟨a, cap, h1, h2, h3⟩
def rowCost (vs : List V) : Int := 8 + ((vs.map fun v => 8 + v.s.length).sum : Nat)
end Go.Proofs.YtaoegcakefodaaaGreat

