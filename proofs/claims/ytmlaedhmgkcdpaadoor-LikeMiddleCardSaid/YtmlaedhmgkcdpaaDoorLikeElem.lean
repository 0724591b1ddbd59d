/-
  The program's elements, and Check.
-/
import Derived.Test.YtmlaedhmgkcdpaaDoorLikeQuote
namespace Go.Proofs.YtmlaedhmgkcdpaaDoor
open Go.RowKit

/-- An element's cells. -/
def pC : El → List Value
  | .any => [.int .u8 2, .string ByteArray.empty]
  | .one => [.int .u8 1, .string ByteArray.empty]
  | .lit c => [.int .u8 0, sv c]
theorem pC_oneCell (e : El) : ∀ u ∈ pC e, u.oneCell' = true := by
  intro u hu
  cases e <;> simp only [pC, List.mem_cons, List.not_mem_nil, or_false] at hu <;> rcases hu with rfl | rfl <;> rfl
theorem pC_len (ps : List El) : (ps.flatMap pC).length = ps.length * 2 := by
  induction ps with
  | nil => rfl
  | cons e t ih =>
    rw [List.flatMap_cons, List.length_append, ih, List.length_cons, show (pC e).length = 2 by cases e <;> rfl]
    omega
theorem pC_at (ps : List El) (j f : Nat) (hj : j < ps.length) (hf : f < 2) : (ps.flatMap pC)[j * 2 + f]? = (pC ps[j])[f]? := by
  induction ps generalizing j with
  | nil => simp at hj
  | cons e t ih =>
    have he : (pC e).length = 2 := by cases e <;> rfl
    rw [List.flatMap_cons]
    cases j with
    | zero => rw [List.getElem?_append_left (by omega), Nat.zero_mul, Nat.zero_add]; rfl
    | succ j =>
      rw [List.getElem?_append_right (by omega), he, show (j + 1) * 2 + f - 2 = j * 2 + f by omega]
      exact ih j (by simpa using hj)

theorem Tryd.info_element : (Tryd.prog.info? 61).map (fun i => (i.zero, i.size, i.bytes)) = some (some (.agg #[.int .u8 0, .string ByteArray.empty]), 2, 24) := by kernel_rfl

/-- append(l, x) of an element. -/
theorem wpList_append_pC {ops : Array Oper} {rest : List Oper} {o : Oper} {a : Act} {Q : Exit → Act → World → Prop} {w : World} (hgd : o.guard = none) (s x : Operand)
    (ho : o.op = .call { callee := .builtin .append, args := #[s, x], argTypes := #[39, 39] })
    (base : Nat) (v : Value) (ps : List El) (e : El) (hs : a.eval s = v) (hown : w.ownsRow base 61 2 v ps.length (ps.flatMap pC))
    (hx : a.eval x = .slice (some ⟨w.heap.size, 0, none⟩) 1 1) (hp : ps.length ≤ 5000) (hbase : base ≤ w.heap.size)
    (h : ∀ v' w', w'.ownsRow base 61 2 v' (ps ++ [e]).length ((ps ++ [e]).flatMap pC) → Below base w w' → wpList Tryd.prog ops Q rest (a.put o.dst v') w') :
    wpList Tryd.prog ops Q (o :: rest) a (w.alloc (.cells (pC e).toArray 61)) := by
  obtain ⟨i0, hi, hz0, hz1, hz2⟩ := info_parts Tryd.info_element
  have hc := cells_new w (pC e) 61
  refine wpList_append_own _ hgd s x 39 ho base 61 i0 _ 2 24 Tryd.underlying39 hi hz0 hz1 hz2 rfl (by decide) v ps.length _ hs (hown.alloc _) ⟨w.heap.size, 0, none⟩ 1 1 (pC e) hx (by cases e <;> rfl) hc (pC_oneCell e) (by unfold maxLen; omega) (by omega) (by simp; omega) fun v' w' h1 h2 _ => h v' w' ?_ ?_
  · rw [List.length_append, List.flatMap_append]
    simpa using h1
  · exact (((Below.refl base w).alloc hbase _).grown h2 (by simp; omega) (fun b hb => (hown.lt b hb).1))

/-- The element that a letter is by itself. -/
def unE (c : List UInt8) : El := if c = [37] then .any else if c = [95] then .one else .lit c

theorem unescaped_any (c : List UInt8) (w : World) :
    Calls Tryd.prog 33 #[sv c] w fun e w' => e = .returned (.agg (pC (unE c)).toArray) ∧ Ext w w' := by
  unfold unE sv
  by_cases h37 : c = [37]
  · subst h37
    go_enter Tryd.func33, Tryd.ntmps33
    go_wp2_with fail
    refine bodyPost_ret (results_cell_row (P := Tryd.prog) (fn := Tryd.f33) rfl _ _ w.heap.size 61 _ (0, 0) _ rfl (heap_alloc_new _ _) Tryd.underlying61 rfl (by kernel_rfl)) rfl ?_
    exact ⟨rfl, (Below.refl _ w).alloc (Nat.le_refl _) _⟩
  · by_cases h95 : c = [95]
    · subst h95
      go_enter Tryd.func33, Tryd.ntmps33
      go_wp2_with fail
      refine bodyPost_ret (results_cell_row (P := Tryd.prog) (fn := Tryd.f33) rfl _ _ w.heap.size 61 _ (0, 0) _ rfl (heap_alloc_new _ _) Tryd.underlying61 rfl (by kernel_rfl)) rfl ?_
      exact ⟨rfl, (Below.refl _ w).alloc (Nat.le_refl _) _⟩
    · have q37 : (c == [37]) = false := beq_eq_false_iff_ne.2 h37
      have q95 : (c == [95]) = false := beq_eq_false_iff_ne.2 h95
      rw [if_neg h37, if_neg h95]
      clear h37 h95
      go_enter Tryd.func33, Tryd.ntmps33
      go_wp2_with fail
      refine bodyPost_ret (results_cell_row (P := Tryd.prog) (fn := Tryd.f33) rfl _ _ w.heap.size 61 _ (0, 0) _ rfl (heap_alloc_new _ _) Tryd.underlying61 rfl (by kernel_rfl)) rfl ?_
      exact ⟨rfl, (Below.refl _ w).alloc (Nat.le_refl _) _⟩

/-- A call that tells a pattern's elements, or why it is none. -/
def PParts (w : World) (l : List UInt8) (e : Ending) (w' : World) : Prop :=
  ((∃ ps v, elsOf l = some ps ∧ e = .returned (.tuple #[v, .int .i64 0]) ∧ w'.ownsRow w.heap.size 61 2 v ps.length (ps.flatMap pC)) ∨
   (elsOf l = none ∧ e = .returned (.tuple #[.slice none 0 0, .int .i64 30]))) ∧ Ext w w'

theorem els_un (c : List UInt8) (t : List (List UInt8)) (h : c ≠ [92]) : els (c :: t) = (els t).map (unE c :: ·) := by
  unfold unE
  rw [els.eq_def]
  simp only
  rw [if_neg h]
  by_cases h37 : c = [37]
  · rw [if_pos h37, if_pos h37]
  · rw [if_neg h37, if_neg h37]
    by_cases h95 : c = [95]
    · rw [if_pos h95, if_pos h95]
    · rw [if_neg h95, if_neg h95]

set_option maxRecDepth 100000 in
set_option maxHeartbeats 1000000 in
theorem elements_any (l : List UInt8) (w : World) (hT : Tabs w) (hl : l.length ≤ 5000) :
    Calls Tryd.prog 24 #[sv l] w (PParts w l) := by
  have HL := Lib.hid hl
  have HLT := Lib.hid (Letters_any l w hT hl)
  have HLL := Lib.hid (lets_length l)
  obtain ⟨ls, hls⟩ : ∃ ls, ls = lets l := ⟨_, rfl⟩
  have HLS := Lib.hid hls
  rw [← hls] at HLT HLL
  clear hT hl hls
  unfold sv at HLT ⊢
  go_enter Tryd.func24, Tryd.ntmps24
  go_wp2_with fail
  refine HLT.out.mono ?_
  rintro e w1 ⟨lv, rfl, ho1, hb1⟩
  rw [List.length_map] at ho1
  have HO1 := Lib.hid ho1
  have HB1 := Lib.hid hb1
  obtain ⟨ao, cp, rfl, hc1, hc2, hca⟩ := RdV.cellsAt (RdV.of_owns ho1)
  rw [List.length_map] at hc1
  simp only [List.length_map] at *
  unfold maxLen at hc2
  have HCA := Lib.hid hca
  clear ho1 hb1 hca
  generalize hN : ls.length = N at *
  have HN := Lib.hid hN
  clear hN
  go_wp2_with fail
  go_loopw [4, 5, 11] (fun v es i wr => ∃ (j : Nat) (ps : List El) (b : Bool), j ≤ N ∧ i = .int .i64 j ∧ es = .bool b ∧ els ls = (els (if b = true then [92] :: ls.drop j else ls.drop j)).map (ps ++ ·) ∧ ps.length ≤ j ∧ wr.ownsRow w1.heap.size 61 2 v ps.length (ps.flatMap pC) ∧ Below w1.heap.size w1 wr) (fun _ _ i _ => N - (intOf i).toNat)
  case atStart => exact ⟨0, [], false, Nat.zero_le _, rfl, rfl, by simp, Nat.le_refl _, World.ownsRow_nil _ _ _ _, Below.refl _ _⟩
  case round =>
    obtain ⟨j, ps, b, hj, rfl, rfl, hels, hpl, hown, hbel⟩ := hrel
    have HELS := Lib.hid hels
    have HOWN := Lib.hid hown
    have HBEL := Lib.hid hbel
    have hsz := hbel.size
    clear hels hown hbel
    by_cases hlt : j < N
    · have hjl : j < ls.length := by have := HN.out; omega
      obtain ⟨x, rfl, hc⟩ := HCA.out j (sv ls[j]) (by rw [List.getElem?_map, List.getElem?_eq_getElem hjl]; rfl)
      obtain ⟨g, rfl, _, hg⟩ := own_addr HO1.out
      rw [add_at, Nat.zero_add] at hc
      have hgr : g < wr.heap.size := by omega
      have hcell : wr.cell? ⟨g, j, none⟩ = some (sv ls[j]) := by rw [HBEL.out.cell (lt_of_cell hc)]; exact hc
      have HDR := Lib.hid (List.drop_eq_getElem_cons hjl)
      generalize ls[j] = c at hcell HDR
      clear hc
      have hp5 : ps.length ≤ 5000 := by have := HLL.out; have := HL.out; omega
      cases b with
      | true =>
        have HE := Lib.hid (show els ls = (els (ls.drop (j + 1))).map ((ps ++ [.lit c]) ++ ·) by
          rw [HELS.out, if_pos rfl, HDR.out, els_back, Option.map_map]; congr 1; funext q; simp)
        unfold sv at hcell
        go_wp2_with (at_builtin; go_loud (refine wpList_append_pC (w := wr) rfl (.tmp 22) (.tmp 25) rfl w1.heap.size _ ps (.lit c) rfl HOWN.out rfl hp5 hsz ?_); intro v3 w3 hown3 hb3; have HO3 := Lib.hid hown3; have HB3 := Lib.hid hb3; clear hown3 hb3)
        go_roundw
        case rel => exact ⟨j + 1, ps ++ [.lit c], false, by omega, by go_num, rfl, by rw [if_neg (by decide)]; exact HE.out, by simp; omega, HO3.out, HBEL.out.trans HB3.out⟩
        case measure => simp [intOf]; omega
      | false =>
        by_cases h92 : c = [92]
        · subst h92
          unfold sv at hcell
          go_wp2_with fail
          go_roundw
          case rel => exact ⟨j + 1, ps, true, by omega, by go_num, rfl, by rw [HELS.out, if_neg (by decide), if_pos rfl, HDR.out], by omega, HOWN.out, HBEL.out⟩
          case measure => simp [intOf]; omega
        · have HE := Lib.hid (show els ls = (els (ls.drop (j + 1))).map ((ps ++ [unE c]) ++ ·) by
            rw [HELS.out, if_neg (by decide), HDR.out, els_un _ _ h92, Option.map_map]; congr 1; funext q; simp)
          have q92 : (c == [92]) = false := beq_eq_false_iff_ne.2 h92
          have HU := Lib.hid (unescaped_any c)
          unfold sv at hcell HU
          clear h92
          go_wp2_with fail
          refine (HU.out wr).mono ?_
          rintro e w2 ⟨rfl, hb2⟩
          have HB2 := Lib.hid hb2
          have hsz2 : w1.heap.size ≤ w2.heap.size := Nat.le_trans hsz hb2.size
          have HO2 := Lib.hid (show w2.ownsRow w1.heap.size 61 2 _ ps.length (ps.flatMap pC) from HOWN.out.kept (row := none) ⟨hb2.os, hb2.tape, hb2.output, hb2.size, fun k hk _ => hb2.block k hk⟩ (by cases Value.ownBlock _ <;> simp))
          clear hb2
          generalize unE c = el at HE
          obtain ⟨z1, z2, hz⟩ : ∃ z1 z2, pC el = [z1, z2] := by cases el <;> exact ⟨_, _, rfl⟩
          have HZ := Lib.hid hz
          rw [hz]
          clear hz
          go_wp2_with (at_builtin; go_loud (rw [show #[z1, z2] = (pC el).toArray by rw [HZ.out]]; refine wpList_append_pC (w := w2) rfl (.tmp 15) (.tmp 18) rfl w1.heap.size _ ps el rfl HO2.out rfl hp5 hsz2 ?_); intro v3 w3 hown3 hb3; have HO3 := Lib.hid hown3; have HB3 := Lib.hid hb3; clear hown3 hb3)
          go_roundw
          case rel => exact ⟨j + 1, ps ++ [el], false, by omega, by go_num, rfl, by rw [if_neg (by decide)]; exact HE.out, by simp; omega, HO3.out, (HBEL.out.trans (HB2.out.mono hsz)).trans HB3.out⟩
          case measure => simp [intOf]; omega
    · have hjN : j = N := by omega
      subst hjN
      have HDN := Lib.hid (show ls.drop j = [] from List.drop_eq_nil_of_le (by have := HN.out; omega))
      cases b with
      | true =>
        have HSO := Lib.hid (show els ls = none by rw [HELS.out, if_pos rfl, HDN.out]; rfl)
        go_wp2_with fail
        go_ret2
        exact ⟨.inr ⟨by unfold elsOf; rw [← HLS.out]; exact HSO.out, rfl⟩, HB1.out.trans (HBEL.out.mono HB1.out.size)⟩
      | false =>
        have HSO := Lib.hid (show els ls = some ps by rw [HELS.out, if_neg (by decide), HDN.out]; simp [els])
        go_wp2_with fail
        go_ret2
        exact ⟨.inl ⟨ps, _, by unfold elsOf; rw [← HLS.out]; exact HSO.out, rfl, owns_baseK HOWN.out HB1.out.size⟩, HB1.out.trans (HBEL.out.mono HB1.out.size)⟩

end Go.Proofs.YtmlaedhmgkcdpaaDoor
