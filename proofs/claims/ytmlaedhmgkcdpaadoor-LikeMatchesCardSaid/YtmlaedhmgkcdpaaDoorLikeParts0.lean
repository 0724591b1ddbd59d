/-
  The contract of the document's own Parts.
-/
import Derived.Test.YtmlaedhmgkcdpaaDoorLikeRef
namespace Go.Proofs.YtmlaedhmgkcdpaaDoor
open Go.RowKit

/-- An element's cells. -/
def elC : El → List Value
  | .any => [.bool true, .bool false, .string ByteArray.empty]
  | .one => [.bool false, .bool true, .string ByteArray.empty]
  | .lit c => [.bool false, .bool false, sv c]
theorem elC_oneCell (e : El) : ∀ u ∈ elC e, u.oneCell' = true := by
  intro u hu
  cases e <;> simp only [elC, List.mem_cons, List.not_mem_nil, or_false] at hu <;> rcases hu with rfl | rfl | rfl <;> rfl

theorem Tryd.info_part : (Tryd.prog.info? 59).map (fun i => (i.zero, i.size, i.bytes)) = some (some (.agg #[.bool false, .bool false, .string ByteArray.empty]), 3, 24) := by kernel_rfl

/-- A call that tells a pattern's elements. -/
def RParts (w : World) (l : List UInt8) (e : Ending) (w' : World) : Prop :=
  ((∃ ps v, elsOf l = some ps ∧ e = .returned (.tuple #[v, .bool true]) ∧ w'.ownsRow w.heap.size 59 3 v ps.length (ps.flatMap elC)) ∨
   (elsOf l = none ∧ e = .returned (.tuple #[.slice none 0 0, .bool false]))) ∧ Ext w w'

theorem flat_len (ps : List El) : (ps.flatMap elC).length = ps.length * 3 := by
  induction ps with
  | nil => rfl
  | cons e t ih =>
    rw [List.flatMap_cons, List.length_append, ih, List.length_cons, show (elC e).length = 3 by cases e <;> rfl]
    omega

/-- append(out, x) of an element. -/
theorem wpList_append_el {ops : Array Oper} {rest : List Oper} {o : Oper} {a : Act} {Q : Exit → Act → World → Prop} {w : World} (hgd : o.guard = none) (s x : Operand)
    (ho : o.op = .call { callee := .builtin .append, args := #[s, x], argTypes := #[42, 42] })
    (base : Nat) (v : Value) (ps : List El) (A : Obj) (e : El) (hs : a.eval s = v) (hown : w.ownsRow base 59 3 v ps.length (ps.flatMap elC))
    (hx : a.eval x = .slice (some ⟨w.heap.size + 1, 0, none⟩) 1 1) (hp : ps.length ≤ 5000) (hbase : base ≤ w.heap.size)
    (h : ∀ v' w', w'.ownsRow base 59 3 v' (ps ++ [e]).length ((ps ++ [e]).flatMap elC) → Below base w w' → wpList Tryd.prog ops Q rest (a.put o.dst v') w') :
    wpList Tryd.prog ops Q (o :: rest) a ((w.alloc A).alloc (.cells (elC e).toArray 59)) := by
  obtain ⟨i0, hi, hz0, hz1, hz2⟩ := info_parts Tryd.info_part
  have hsz : (w.alloc A).heap.size = w.heap.size + 1 := by simp
  have hc := cells_new (w.alloc A) (elC e) 59
  rw [hsz] at hc
  refine wpList_append_own _ hgd s x 42 ho base 59 i0 _ 3 24 Tryd.underlying42 hi hz0 hz1 hz2 rfl (by decide) v ps.length _ hs ((hown.alloc _).alloc _) ⟨w.heap.size + 1, 0, none⟩ 1 1 (elC e) hx (by cases e <;> rfl) hc (elC_oneCell e) (by unfold maxLen; omega) (by omega) (by simp; omega) fun v' w' h1 h2 _ => h v' w' ?_ ?_
  · rw [List.length_append, List.flatMap_append]
    simpa using h1
  · exact ((((Below.refl base w).alloc hbase _).alloc (by simp; omega) _).grown h2 (by simp; omega) (fun b hb => (hown.lt b hb).1))

set_option maxRecDepth 100000 in
set_option maxHeartbeats 1000000 in
theorem refParts_any (l : List UInt8) (w : World) (hT : Tabs w) (hl : l.length ≤ 5000) :
    Calls Tryd.prog 25 #[sv l] w (RParts w l) := by
  obtain ⟨i0, hi, hz0, hz1, hz2⟩ := info_parts Tryd.info_part
  have HL := Lib.hid hl
  have HLT := Lib.hid (refLetters_any l w hT hl)
  have HLL := Lib.hid (lets_length l)
  obtain ⟨ls, hls⟩ : ∃ ls, ls = lets l := ⟨_, rfl⟩
  have HLS := Lib.hid hls
  rw [← hls] at HLT HLL
  clear hT hl hls
  unfold sv at HLT ⊢
  go_enter Tryd.func25, Tryd.ntmps25
  go_wp2_with fail
  refine HLT.out.mono ?_
  rintro e w1 ⟨lv, rfl, ho1, hb1⟩
  rw [List.length_map] at ho1
  have HO1 := Lib.hid ho1
  have HB1 := Lib.hid hb1
  obtain ⟨ao, cp, rfl, hc1, hc2, hca⟩ := RdV.cellsAt (RdV.of_owns ho1)
  rw [List.length_map] at hc1
  simp only [List.length_map] at *
  unfold maxLen at hc2
  have HCA := Lib.hid hca
  clear ho1 hb1 hca
  generalize hN : ls.length = N at *
  have HN := Lib.hid hN
  clear hN
  go_wp2_with fail
  go_loopw [5, 6] (fun v i wr => ∃ (j : Nat) (ps : List El), j ≤ N ∧ i = .int .i64 j ∧ els ls = (els (ls.drop j)).map (ps ++ ·) ∧ ps.length ≤ j ∧ wr.ownsRow w1.heap.size 59 3 v ps.length (ps.flatMap elC) ∧ Below w1.heap.size w1 wr) (fun _ i _ => N - (intOf i).toNat)
  case atStart => exact ⟨0, [], Nat.zero_le _, rfl, by simp, Nat.le_refl _, World.ownsRow_nil _ _ _ _, Below.refl _ _⟩
  case round =>
    obtain ⟨j, ps, hj, rfl, hels, hpl, hown, hbel⟩ := hrel
    have HELS := Lib.hid hels
    have HOWN := Lib.hid hown
    have HBEL := Lib.hid hbel
    clear hels hown hbel
    by_cases hlt : j < N
    · have hjl : j < ls.length := by have := HN.out; omega
      obtain ⟨x, rfl, hc⟩ := HCA.out j (sv ls[j]) (by rw [List.getElem?_map, List.getElem?_eq_getElem hjl]; rfl)
      obtain ⟨g, rfl, _, hg⟩ := own_addr HO1.out
      rw [add_at, Nat.zero_add] at hc
      have hgr : g < wr.heap.size := by have := HBEL.out.size; omega
      have hcell : wr.cell? ⟨g, j, none⟩ = some (sv ls[j]) := by rw [HBEL.out.cell (lt_of_cell hc)]; exact hc
      have HDR := Lib.hid (List.drop_eq_getElem_cons hjl)
      generalize ls[j] = c at hcell HDR
      unfold sv at hcell
      clear hc
      have hp5 : ps.length ≤ 5000 := by have := HLL.out; have := HL.out; omega
      have hsz := HBEL.out.size
      by_cases h37 : c = [37]
      · subst h37
        have HE := Lib.hid (els_any (ls.drop (j + 1)))
        go_wp2_with (at_builtin; go_loud (refine wpList_append_el (w := wr) rfl (.tmp 50) (.tmp 52) rfl w1.heap.size _ ps _ .any rfl HOWN.out rfl hp5 hsz ?_); intro v3 w3 hown3 hb3; have HO3 := Lib.hid hown3; have HB3 := Lib.hid hb3; clear hown3 hb3)
        go_roundw
        case rel => exact ⟨j + 1, ps ++ [.any], by omega, by go_num, by rw [HELS.out, HDR.out, HE.out, Option.map_map]; congr 1; funext q; simp, by simp; omega, HO3.out, HBEL.out.trans HB3.out⟩
        case measure => simp [intOf]; omega
      · by_cases h95 : c = [95]
        · subst h95
          have HE := Lib.hid (els_one (ls.drop (j + 1)))
          clear h37
          go_wp2_with (at_builtin; go_loud (refine wpList_append_el (w := wr) rfl (.tmp 50) (.tmp 52) rfl w1.heap.size _ ps _ .one rfl HOWN.out rfl hp5 hsz ?_); intro v3 w3 hown3 hb3; have HO3 := Lib.hid hown3; have HB3 := Lib.hid hb3; clear hown3 hb3)
          go_roundw
          case rel => exact ⟨j + 1, ps ++ [.one], by omega, by go_num, by rw [HELS.out, HDR.out, HE.out, Option.map_map]; congr 1; funext q; simp, by simp; omega, HO3.out, HBEL.out.trans HB3.out⟩
          case measure => simp [intOf]; omega
        · by_cases h92 : c = [92]
          · subst h92
            clear h37 h95
            by_cases hlt2 : j + 1 < N
            · have hjl2 : j + 1 < ls.length := by have := HN.out; omega
              obtain ⟨x2, hx2, hc2'⟩ := HCA.out (j + 1) (sv ls[j + 1]) (by rw [List.getElem?_map, List.getElem?_eq_getElem hjl2]; rfl)
              cases hx2
              rw [add_at, Nat.zero_add] at hc2'
              have hcell2 : wr.cell? ⟨g, j + 1, none⟩ = some (sv ls[j + 1]) := by rw [HBEL.out.cell (lt_of_cell hc2')]; exact hc2'
              have HDR2 := Lib.hid (List.drop_eq_getElem_cons hjl2)
              generalize ls[j + 1] = d at hcell2 HDR2
              have HE := Lib.hid (els_back d (ls.drop (j + 1 + 1)))
              unfold sv at hcell2
              have hne : (((j : Int) + 1) == (N : Int)) = false := by rw [beq_eq_false_iff_ne]; omega
              clear hc2'
              go_wp2_with (at_builtin; go_loud (refine wpList_append_el (w := wr) rfl (.tmp 50) (.tmp 52) rfl w1.heap.size _ ps _ (.lit d) rfl HOWN.out rfl hp5 hsz ?_); intro v3 w3 hown3 hb3; have HO3 := Lib.hid hown3; have HB3 := Lib.hid hb3; clear hown3 hb3)
              go_roundw
              case rel => exact ⟨j + 1 + 1, ps ++ [.lit d], by omega, by go_num, by rw [HELS.out, HDR.out, HDR2.out, HE.out, Option.map_map]; congr 1; funext q; simp, by simp; omega, HO3.out, HBEL.out.trans HB3.out⟩
              case measure => simp [intOf]; omega
            · have hjN : N = j + 1 := by omega
              have HNO := Lib.hid (show els ls = none by
                rw [HELS.out, HDR.out, List.drop_eq_nil_of_le (by have := HN.out; omega)]
                rfl)
              subst hjN
              go_wp2_with fail
              go_ret2
              exact ⟨.inr ⟨by unfold elsOf; rw [← HLS.out]; exact HNO.out, rfl⟩, (HB1.out.trans (HBEL.out.mono HB1.out.size)).alloc (by have := HB1.out.size; omega) _⟩
          · have HE := Lib.hid (els_lit c (ls.drop (j + 1)) (by rw [← Bool.not_eq_true, special_iff]; rintro (h | h | h) <;> contradiction))
            have q37 : (c == [37]) = false := beq_eq_false_iff_ne.2 h37
            have q95 : (c == [95]) = false := beq_eq_false_iff_ne.2 h95
            have q92 : (c == [92]) = false := beq_eq_false_iff_ne.2 h92
            clear h37 h95 h92
            go_wp2_with (at_builtin; go_loud (refine wpList_append_el (w := wr) rfl (.tmp 50) (.tmp 52) rfl w1.heap.size _ ps _ (.lit c) rfl HOWN.out rfl hp5 hsz ?_); intro v3 w3 hown3 hb3; have HO3 := Lib.hid hown3; have HB3 := Lib.hid hb3; clear hown3 hb3)
            go_roundw
            case rel => exact ⟨j + 1, ps ++ [.lit c], by omega, by go_num, by rw [HELS.out, HDR.out, HE.out, Option.map_map]; congr 1; funext q; simp, by simp; omega, HO3.out, HBEL.out.trans HB3.out⟩
            case measure => simp [intOf]; omega
    · have hjN : j = N := by omega
      subst hjN
      have HSO := Lib.hid (show els ls = some ps by
        rw [HELS.out, List.drop_eq_nil_of_le (by have := HN.out; omega)]
        simp [els])
      go_wp2_with fail
      go_ret2
      exact ⟨.inl ⟨ps, _, by unfold elsOf; rw [← HLS.out]; exact HSO.out, rfl, owns_baseK HOWN.out HB1.out.size⟩, HB1.out.trans (HBEL.out.mono HB1.out.size)⟩

end Go.Proofs.YtmlaedhmgkcdpaaDoor
