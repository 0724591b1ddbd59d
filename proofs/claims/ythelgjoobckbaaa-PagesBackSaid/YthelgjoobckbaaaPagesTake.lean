/-
  The program's contracts of layer 5: firstFree, Alloc.
-/
import Derived.Test.YthelgjoobckbaaaPagesReads
namespace Go.Proofs.Ythelgjoobckbaaa
open Go.RowKit Go.BigFrame

variable {O : Nat → Prop} {p : Nat} {s : St} {w : World}

theorem takeS_lt : ∀ (n i : Nat) (s : St), ∀ x ∈ (takeS i n s).1, i ≤ x ∧ x < i + s.length
  | 0, i, s, x, hx => by rw [takeS_zero] at hx; cases hx
  | n + 1, i, [], x, hx => by rw [takeS_nil] at hx; cases hx
  | n + 1, i, none :: t, x, hx => by
    simp only [takeS, List.mem_cons] at hx
    rcases hx with rfl | hx
    · simp
    · have := takeS_lt n (i + 1) t x hx
      simp only [List.length_cons]
      omega
  | n + 1, i, some q :: t, x, hx => by
    simp only [takeS] at hx
    have := takeS_lt (n + 1) (i + 1) t x hx
    simp only [List.length_cons]
    omega
def setsS (ids : List Nat) (s : St) : St := ids.foldl (fun s j => s.set j (some (layP j []))) s
theorem takeS_sets : ∀ (n i : Nat) (s pre : St), pre.length = i → pre ++ (takeS i n s).2 = setsS (takeS i n s).1 (pre ++ s)
  | 0, i, s, pre, _ => by rw [takeS_zero]; rfl
  | n + 1, i, [], pre, _ => by rw [takeS_nil]; rfl
  | n + 1, i, none :: t, pre, h => by
    simp only [takeS]
    have ih := takeS_sets n (i + 1) t (pre ++ [some (layP i [])]) (by simp [h])
    rw [List.append_assoc] at ih
    have e : pre ++ some (layP i []) :: t = (pre ++ none :: t).set i (some (layP i [])) := by
      rw [List.set_append_right _ _ (by omega), h, Nat.sub_self]
      rfl
    rw [List.append_assoc] at ih
    simp only [List.singleton_append] at ih
    rw [ih, e]
    rfl
  | n + 1, i, some q :: t, pre, h => by
    simp only [takeS]
    have ih := takeS_sets (n + 1) (i + 1) t (pre ++ [some q]) (by simp [h])
    rw [List.append_assoc, List.append_assoc] at ih
    simpa using ih
theorem takeS_all (n : Nat) (s : St) : (takeS 0 n s).2 = setsS (takeS 0 n s).1 s := by
  have := takeS_sets n 0 s [] rfl
  simpa using this
theorem setsS_step (ids : List Nat) (s : St) (k : Nat) (h : k < ids.length) : setsS (ids.take (k + 1)) s = (setsS (ids.take k) s).set ids[k] (some (layP ids[k] [])) := by
  unfold setsS
  rw [List.take_succ_eq_append_getElem h, List.foldl_append]
  rfl
theorem setsS_length (s : St) : ∀ ids : List Nat, (setsS ids s).length = s.length := fun ids => by
  unfold setsS
  induction ids generalizing s with
  | nil => rfl
  | cons a l ih => rw [List.foldl_cons, ih]; simp

set_option maxRecDepth 100000 in
set_option maxHeartbeats 1000000 in
theorem pFirstFree_any (p g : Nat) (t : Slots) (n : Nat) (w : World) (h : PStoT w p g t) (hn : n ≤ 4096) :
    Calls Try.prog 43 #[.pointer (some ⟨p, 0, none⟩), .int .i64 n] w fun e w' => ∃ v, e = .returned v ∧ w'.ownsRow w.heap.size 3 1 v (takeS 0 n (bytesT t)).1.length ((takeS 0 n (bytesT t)).1.map iv) ∧ Ext w w' := by
  obtain ⟨i0, hi, hz0, hz1, hz2⟩ := info_parts Try.info_int
  have hq := h.top
  have hfew := h.few
  have HT := Lib.hid h
  obtain ⟨T, hT⟩ : ∃ T, T = (takeS 0 n (bytesT t)).1 := ⟨_, rfl⟩
  rw [← hT]
  replace hT := Lib.hid hT
  clear h
  generalize hL : t.length = L at hq hfew
  replace hL := Lib.hid hL
  go_enter Try.func43, Try.ntmps43
  go_wp2_with (at_make; refine wpList_make_own _ rfl _ _ 34 rfl w.heap.size 3 i0 (.int .i64 0) 1 Try.underlying34 hi hz0 hz1 _ _ _ n rfl rfl (by omega) (by rw [hz2]; omega) (by unfold maxLen; omega) (Nat.le_refl _) ?_; intro w1 hown1 hgrow1; have HO1 := Lib.hid hown1; have HX1 := Lib.hid (show Ext w w1 from (Below.refl _ w).grown hgrow1 (Nat.le_refl _) (fun k hk => by cases hk)); have hq := (HX1.out.cell (lt_of_cell hq)).trans hq; clear hown1 hgrow1)
  go_loopw [5, 15] (fun l i wr => ∃ (j m : Nat) (ids : List Nat), j ≤ L ∧ m ≤ n ∧ i = .int .i64 j ∧ ids.length = m ∧ T = ids ++ (takeS j (n - m) (bytesT (t.drop j))).1 ∧ wr.ownsRow w.heap.size 3 1 l m (ids.map iv) ∧ Ext w wr) (fun _ i _ => L - (intOf i).toNat)
  case atStart => exact ⟨0, 0, [], Nat.zero_le _, Nat.zero_le _, rfl, rfl, by rw [hT.out]; rfl, HO1.out, HX1.out⟩
  case round =>
    obtain ⟨j, m, ids, hjL, hmn, rfl, hids, hTe, hown, hext⟩ := hrel
    obtain ⟨a, cap, rfl, hc1, hc2⟩ := own_shape hown
    unfold maxLen at hc2
    have HI := Lib.hid hids
    have HTE := Lib.hid hTe
    have HO := Lib.hid hown
    have HE := Lib.hid hext
    clear hids hTe hown hext
    by_cases hj : j < L
    · have hjs : j < t.length := by have := hL.out; omega
      have hs : t[j]? = some t[j] := List.getElem?_eq_getElem hjs
      have hc := (HE.out.cell (lt_of_cell (HT.out.slot j _ hs))).trans (HT.out.slot j _ hs)
      by_cases hm : m < n
      · have hne : ((m : Int) == (n : Int)) = false := by rw [beq_eq_false_iff_ne]; omega
        have HDR := Lib.hid (show bytesT (t.drop j) = (t[j]).map Prod.snd :: bytesT (t.drop (j + 1)) from by rw [List.drop_eq_getElem_cons hjs]; rfl)
        clear hs
        generalize t[j] = B at hc HDR
        cases B with
        | some x =>
          simp only [ptrV] at hc
          go_wp2_with fail
          go_roundw
          case rel => exact ⟨j + 1, m, ids, by omega, hmn, by go_num, HI.out, by rw [HTE.out, HDR.out, Option.map_some, takeS_some _ _ _ _ (by omega)], HO.out, HE.out⟩
          case measure => simp [intOf]; omega
        | none =>
          simp only [ptrV] at hc
          have HB := Lib.hid (show Below w.heap.size w (wr.alloc (.cells #[.int .i64 (j : Int)] 3)) from Below.alloc HE.out HE.out.size _)
          go_wp2_with (at_builtin; go_must (refine wpList_append_own _ rfl (.tmp 26) (.tmp 28) 34 rfl w.heap.size 3 i0 (.int .i64 0) 1 8 Try.underlying34 hi hz0 hz1 hz2 rfl (by decide) _ _ _ rfl (HO.out.alloc _) ⟨wr.heap.size, 0, none⟩ 1 1 [.int .i64 (j : Int)] rfl rfl (row_new wr [.int .i64 (j : Int)] 3) (by simp [Value.oneCell']) (by unfold maxLen; first | omega | (simp; omega)) (by first | omega | (simp; omega)) (by have := HE.out.size; first | omega | (simp; omega)) ?_); intro v5 w5 hown5 hgrow5 _; have HO5 := Lib.hid hown5; have HB5 := Lib.hid (show Below w.heap.size w w5 from HB.out.grown hgrow5 (by have := HE.out.size; simp; omega) (fun k hk => (HO.out.lt k hk).1)); clear hown5 hgrow5)
          go_roundw
          case rel =>
            refine ⟨j + 1, m + 1, ids ++ [j], by omega, by omega, by go_num, by rw [List.length_append, HI.out]; rfl, ?_, ?_, HB5.out⟩
            · rw [HTE.out, HDR.out, Option.map_none, takeS_none _ _ _ (by omega)]
              simp [Nat.sub_sub]
            · have h := HO5.out
              rw [List.map_append]
              exact h
          case measure => simp [intOf]; omega
      · have hmN2 : m = n := by omega
        subst hmN2
        have HTF := Lib.hid (show T = ids from by rw [HTE.out, Nat.sub_self, takeS_zero]; simp)
        clear hs
        generalize ptrV t[j] = B at hc
        go_wp2_with fail
        go_ret
        refine ⟨_, rfl, ?_, HE.out⟩
        rw [HTF.out, HI.out]
        exact HO.out
    · have HTF := Lib.hid (show T = ids from by rw [HTE.out, List.drop_of_length_le (by have := hL.out; omega)]; simp [bytesT, takeS_nil])
      go_wp2_with fail
      go_ret
      refine ⟨_, rfl, ?_, HE.out⟩
      rw [HTF.out, HI.out]
      exact HO.out

end Go.Proofs.Ythelgjoobckbaaa
