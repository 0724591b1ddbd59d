/-
  Texts of this proof, merged: LikeParts0, LikeRef2, LikeRef3, MayR1, MayR2.
-/
import Derived.Test.YtfnmcdjfdhdlmaaGreatDoorZ13
import Derived.Test.YtfnmcdjfdhdlmaaGreatDoorZ12
import Derived.Test.YtfnmcdjfdhdlmaaGreatDoorZ9
import Derived.Test.YtfnmcdjfdhdlmaaGreatDoorZ11
/-
  The contract of the document's own Parts.
-/
namespace Go.Proofs.YtfnmcdjfdhdlmaaGreatDoor
open Go.RowKit

/-- An element's cells. -/
def elC : El → List Value
  | .any => [.bool true, .bool false, .string ByteArray.empty]
  | .one => [.bool false, .bool true, .string ByteArray.empty]
  | .lit c => [.bool false, .bool false, sv c]
theorem elC_oneCell (e : El) : ∀ u ∈ elC e, u.oneCell' = true := by
  intro u hu
  cases e <;> simp only [elC, List.mem_cons, List.not_mem_nil, or_false] at hu <;> rcases hu with rfl | rfl | rfl <;> rfl

theorem Tryz.info_part : (Tryz.prog.info? 115).map (fun i => (i.zero, i.size, i.bytes)) = some (some (.agg #[.bool false, .bool false, .string ByteArray.empty]), 3, 24) := by kernel_rfl

/-- A call that tells a pattern's elements. -/
def RParts (w : World) (l : List UInt8) (e : Ending) (w' : World) : Prop :=
  ((∃ ps v, elsOf l = some ps ∧ e = .returned (.tuple #[v, .bool true]) ∧ w'.ownsRow w.heap.size 115 3 v ps.length (ps.flatMap elC)) ∨
   (elsOf l = none ∧ e = .returned (.tuple #[.slice none 0 0, .bool false]))) ∧ Ext w w'

theorem flat_len (ps : List El) : (ps.flatMap elC).length = ps.length * 3 := by
  induction ps with
  | nil => rfl
  | cons e t ih =>
    rw [List.flatMap_cons, List.length_append, ih, List.length_cons, show (elC e).length = 3 by cases e <;> rfl]
    omega

/-- append(out, x) of an element. -/
theorem wpList_append_el {ops : Array Oper} {rest : List Oper} {o : Oper} {a : Act} {Q : Exit → Act → World → Prop} {w : World} (hgd : o.guard = none) (s x : Operand)
    (ho : o.op = .call { callee := .builtin .append, args := #[s, x], argTypes := #[94, 94] })
    (base : Nat) (v : Value) (ps : List El) (A : Obj) (e : El) (hs : a.eval s = v) (hown : w.ownsRow base 115 3 v ps.length (ps.flatMap elC))
    (hx : a.eval x = .slice (some ⟨w.heap.size + 1, 0, none⟩) 1 1) (hp : ps.length ≤ 5000) (hbase : base ≤ w.heap.size)
    (h : ∀ v' w', w'.ownsRow base 115 3 v' (ps ++ [e]).length ((ps ++ [e]).flatMap elC) → Below base w w' → wpList Tryz.prog ops Q rest (a.put o.dst v') w') :
    wpList Tryz.prog ops Q (o :: rest) a ((w.alloc A).alloc (.cells (elC e).toArray 115)) := by
  obtain ⟨i0, hi, hz0, hz1, hz2⟩ := info_parts Tryz.info_part
  have hsz : (w.alloc A).heap.size = w.heap.size + 1 := by simp
  have hc := cells_new (w.alloc A) (elC e) 115
  rw [hsz] at hc
  refine wpList_append_own _ hgd s x 94 ho base 115 i0 _ 3 24 Tryz.underlying94 hi hz0 hz1 hz2 rfl (by decide) v ps.length _ hs ((hown.alloc _).alloc _) ⟨w.heap.size + 1, 0, none⟩ 1 1 (elC e) hx (by cases e <;> rfl) hc (elC_oneCell e) (by unfold maxLen; omega) (by omega) (by simp; omega) fun v' w' h1 h2 _ => h v' w' ?_ ?_
  · rw [List.length_append, List.flatMap_append]
    simpa using h1
  · exact ((((Below.refl base w).alloc hbase _).alloc (by simp; omega) _).grown h2 (by simp; omega) (fun b hb => (hown.lt b hb).1))

set_option maxRecDepth 100000 in
set_option maxHeartbeats 1000000 in
theorem refParts_any (l : List UInt8) (w : World) (hT : Tabs w) (hl : l.length ≤ 5000) :
    Calls Tryz.prog 69 #[sv l] w (RParts w l) := by
  obtain ⟨i0, hi, hz0, hz1, hz2⟩ := info_parts Tryz.info_part
  have HL := Lib.hid hl
  have HLT := Lib.hid (refLetters_any l w hT hl)
  have HLL := Lib.hid (lets_length l)
  obtain ⟨ls, hls⟩ : ∃ ls, ls = lets l := ⟨_, rfl⟩
  have HLS := Lib.hid hls
  rw [← hls] at HLT HLL
  clear hT hl hls
  unfold sv at HLT ⊢
  go_enter Tryz.func69, Tryz.ntmps69
  go_wp2_with fail
  refine HLT.out.mono ?_
  rintro e w1 ⟨lv, rfl, ho1, hb1⟩
  rw [List.length_map] at ho1
  have HO1 := Lib.hid ho1
  have HB1 := Lib.hid hb1
  obtain ⟨ao, cp, rfl, hc1, hc2, hca⟩ := RdV.cellsAt (RdV.of_owns ho1)
  rw [List.length_map] at hc1
  simp only [List.length_map] at *
  unfold maxLen at hc2
  have HCA := Lib.hid hca
  clear ho1 hb1 hca
  generalize hN : ls.length = N at *
  have HN := Lib.hid hN
  clear hN
  go_wp2_with fail
  go_loopw [5, 6] (fun v i wr => ∃ (j : Nat) (ps : List El), j ≤ N ∧ i = .int .i64 j ∧ els ls = (els (ls.drop j)).map (ps ++ ·) ∧ ps.length ≤ j ∧ wr.ownsRow w1.heap.size 115 3 v ps.length (ps.flatMap elC) ∧ Below w1.heap.size w1 wr) (fun _ i _ => N - (intOf i).toNat)
  case atStart => exact ⟨0, [], Nat.zero_le _, rfl, by simp, Nat.le_refl _, World.ownsRow_nil _ _ _ _, Below.refl _ _⟩
  case round =>
    obtain ⟨j, ps, hj, rfl, hels, hpl, hown, hbel⟩ := hrel
    have HELS := Lib.hid hels
    have HOWN := Lib.hid hown
    have HBEL := Lib.hid hbel
    clear hels hown hbel
    by_cases hlt : j < N
    · have hjl : j < ls.length := by have := HN.out; omega
      obtain ⟨x, rfl, hc⟩ := HCA.out j (sv ls[j]) (by rw [List.getElem?_map, List.getElem?_eq_getElem hjl]; rfl)
      obtain ⟨g, rfl, _, hg⟩ := own_addr HO1.out
      rw [add_at, Nat.zero_add] at hc
      have hgr : g < wr.heap.size := by have := HBEL.out.size; omega
      have hcell : wr.cell? ⟨g, j, none⟩ = some (sv ls[j]) := by rw [HBEL.out.cell (lt_of_cell hc)]; exact hc
      have HDR := Lib.hid (List.drop_eq_getElem_cons hjl)
      generalize ls[j] = c at hcell HDR
      unfold sv at hcell
      clear hc
      have hp5 : ps.length ≤ 5000 := by have := HLL.out; have := HL.out; omega
      have hsz := HBEL.out.size
      by_cases h37 : c = [37]
      · subst h37
        have HE := Lib.hid (els_any (ls.drop (j + 1)))
        go_wp2_with (at_builtin; go_loud (refine wpList_append_el (w := wr) rfl (.tmp 50) (.tmp 52) rfl w1.heap.size _ ps _ .any rfl HOWN.out rfl hp5 hsz ?_); intro v3 w3 hown3 hb3; have HO3 := Lib.hid hown3; have HB3 := Lib.hid hb3; clear hown3 hb3)
        go_roundw
        case rel => exact ⟨j + 1, ps ++ [.any], by omega, by go_num, by rw [HELS.out, HDR.out, HE.out, Option.map_map]; congr 1; funext q; simp, by simp; omega, HO3.out, HBEL.out.trans HB3.out⟩
        case measure => simp [intOf]; omega
      · by_cases h95 : c = [95]
        · subst h95
          have HE := Lib.hid (els_one (ls.drop (j + 1)))
          clear h37
          go_wp2_with (at_builtin; go_loud (refine wpList_append_el (w := wr) rfl (.tmp 50) (.tmp 52) rfl w1.heap.size _ ps _ .one rfl HOWN.out rfl hp5 hsz ?_); intro v3 w3 hown3 hb3; have HO3 := Lib.hid hown3; have HB3 := Lib.hid hb3; clear hown3 hb3)
          go_roundw
          case rel => exact ⟨j + 1, ps ++ [.one], by omega, by go_num, by rw [HELS.out, HDR.out, HE.out, Option.map_map]; congr 1; funext q; simp, by simp; omega, HO3.out, HBEL.out.trans HB3.out⟩
          case measure => simp [intOf]; omega
        · by_cases h92 : c = [92]
          · subst h92
            clear h37 h95
            by_cases hlt2 : j + 1 < N
            · have hjl2 : j + 1 < ls.length := by have := HN.out; omega
              obtain ⟨x2, hx2, hc2'⟩ := HCA.out (j + 1) (sv ls[j + 1]) (by rw [List.getElem?_map, List.getElem?_eq_getElem hjl2]; rfl)
              cases hx2
              rw [add_at, Nat.zero_add] at hc2'
              have hcell2 : wr.cell? ⟨g, j + 1, none⟩ = some (sv ls[j + 1]) := by rw [HBEL.out.cell (lt_of_cell hc2')]; exact hc2'
              have HDR2 := Lib.hid (List.drop_eq_getElem_cons hjl2)
              generalize ls[j + 1] = d at hcell2 HDR2
              have HE := Lib.hid (els_back d (ls.drop (j + 1 + 1)))
              unfold sv at hcell2
              have hne : (((j : Int) + 1) == (N : Int)) = false := by rw [beq_eq_false_iff_ne]; omega
              clear hc2'
              go_wp2_with (at_builtin; go_loud (refine wpList_append_el (w := wr) rfl (.tmp 50) (.tmp 52) rfl w1.heap.size _ ps _ (.lit d) rfl HOWN.out rfl hp5 hsz ?_); intro v3 w3 hown3 hb3; have HO3 := Lib.hid hown3; have HB3 := Lib.hid hb3; clear hown3 hb3)
              go_roundw
              case rel => exact ⟨j + 1 + 1, ps ++ [.lit d], by omega, by go_num, by rw [HELS.out, HDR.out, HDR2.out, HE.out, Option.map_map]; congr 1; funext q; simp, by simp; omega, HO3.out, HBEL.out.trans HB3.out⟩
              case measure => simp [intOf]; omega
            · have hjN : N = j + 1 := by omega
              have HNO := Lib.hid (show els ls = none by
                rw [HELS.out, HDR.out, List.drop_eq_nil_of_le (by have := HN.out; omega)]
                rfl)
              subst hjN
              go_wp2_with fail
              go_ret2
              exact ⟨.inr ⟨by unfold elsOf; rw [← HLS.out]; exact HNO.out, rfl⟩, (HB1.out.trans (HBEL.out.mono HB1.out.size)).alloc (by have := HB1.out.size; omega) _⟩
          · have HE := Lib.hid (els_lit c (ls.drop (j + 1)) (by rw [← Bool.not_eq_true, special_iff]; rintro (h | h | h) <;> contradiction))
            have q37 : (c == [37]) = false := beq_eq_false_iff_ne.2 h37
            have q95 : (c == [95]) = false := beq_eq_false_iff_ne.2 h95
            have q92 : (c == [92]) = false := beq_eq_false_iff_ne.2 h92
            clear h37 h95 h92
            go_wp2_with (at_builtin; go_loud (refine wpList_append_el (w := wr) rfl (.tmp 50) (.tmp 52) rfl w1.heap.size _ ps _ (.lit c) rfl HOWN.out rfl hp5 hsz ?_); intro v3 w3 hown3 hb3; have HO3 := Lib.hid hown3; have HB3 := Lib.hid hb3; clear hown3 hb3)
            go_roundw
            case rel => exact ⟨j + 1, ps ++ [.lit c], by omega, by go_num, by rw [HELS.out, HDR.out, HE.out, Option.map_map]; congr 1; funext q; simp, by simp; omega, HO3.out, HBEL.out.trans HB3.out⟩
            case measure => simp [intOf]; omega
    · have hjN : j = N := by omega
      subst hjN
      have HSO := Lib.hid (show els ls = some ps by
        rw [HELS.out, List.drop_eq_nil_of_le (by have := HN.out; omega)]
        simp [els])
      go_wp2_with fail
      go_ret2
      exact ⟨.inl ⟨ps, _, by unfold elsOf; rw [← HLS.out]; exact HSO.out, rfl, owns_baseK HOWN.out HB1.out.size⟩, HB1.out.trans (HBEL.out.mono HB1.out.size)⟩

end Go.Proofs.YtfnmcdjfdhdlmaaGreatDoor

/-
  The contracts of the document's own Check, Quote, Fixed.
-/
namespace Go.Proofs.YtfnmcdjfdhdlmaaGreatDoor
open Go.RowKit

set_option maxRecDepth 100000 in
set_option maxHeartbeats 400000 in
theorem refCheck_any (l : List UInt8) (w : World) (hT : Tabs w) (hl : l.length ≤ 5000) :
    Calls Tryz.prog 40 #[sv l] w fun e w' => e = .returned (.int .i64 (errN l)) ∧ Ext w w' := by
  have HP := Lib.hid (refParts_any l w hT hl)
  generalize hE : errN l = E
  have HE := Lib.hid hE
  clear hT hl hE
  unfold sv at HP ⊢
  go_enter Tryz.func40, Tryz.ntmps40
  go_wp2_with fail
  refine HP.out.mono ?_
  rintro e w1 ⟨⟨ps, v, h, rfl, _⟩ | ⟨h, rfl⟩, hb⟩
  · have H := Lib.hid h
    have HB := Lib.hid hb
    clear h hb
    go_wp2_with fail
    go_ret
    exact ⟨by rw [← HE.out, errN_some H.out]; rfl, HB.out⟩
  · have H := Lib.hid h
    have HB := Lib.hid hb
    clear h hb
    go_wp2_with fail
    go_ret
    exact ⟨by rw [← HE.out, errN_none H.out]; rfl, HB.out⟩

end Go.Proofs.YtfnmcdjfdhdlmaaGreatDoor

/-
  The contract of the document's own Fixed.
-/
namespace Go.Proofs.YtfnmcdjfdhdlmaaGreatDoor
open Go.RowKit

theorem flat_at (ps : List El) (j f : Nat) (hj : j < ps.length) (hf : f < 3) : (ps.flatMap elC)[j * 3 + f]? = (elC ps[j])[f]? := by
  induction ps generalizing j with
  | nil => simp at hj
  | cons e t ih =>
    have he : (elC e).length = 3 := by cases e <;> rfl
    rw [List.flatMap_cons]
    cases j with
    | zero => rw [List.getElem?_append_left (by omega), Nat.zero_mul, Nat.zero_add]; rfl
    | succ j =>
      rw [List.getElem?_append_right (by omega), he, show (j + 1) * 3 + f - 3 = j * 3 + f by omega]
      exact ih j (by simpa using hj)

set_option maxRecDepth 100000 in
set_option maxHeartbeats 1000000 in
theorem refFixed_any (l : List UInt8) (w : World) (hT : Tabs w) (hl : l.length ≤ 5000) :
    Calls Tryz.prog 82 #[sv l] w fun e w' => e = .returned (.tuple #[sv (fixS l), .bool (fixB l), .int .i64 (errN l)]) ∧ Ext w w' := by
  have HP := Lib.hid (refParts_any l w hT hl)
  have HLL := Lib.hid (lets_length l)
  have HL := Lib.hid hl
  generalize hS : fixS l = S
  generalize hB : fixB l = B
  generalize hE : errN l = E
  have HS := Lib.hid hS
  have HB := Lib.hid hB
  have HE := Lib.hid hE
  clear hT hl hE hS hB
  unfold sv at HP ⊢
  go_enter Tryz.func82, Tryz.ntmps82
  go_wp2_with fail
  refine HP.out.mono ?_
  rintro e w1 ⟨⟨ps, v, h, rfl, hown⟩ | ⟨h, rfl⟩, hb⟩
  · have H := Lib.hid h
    have HBE := Lib.hid hb
    have hel := els_len _ _ _ (Nat.le_refl _) h
    have HPL := Lib.hid (show ps.length ≤ 5000 by have := HLL.out; have := HL.out; omega)
    have HC4 := Lib.hid (show ∀ c, El.lit c ∈ ps → c.length ≤ 4 from fun c hc => by have h := lets_letters l c (hel.2 c hc); rw [← h.2]; exact (wid_bounds c h.1).2.2)
    have HOWN := Lib.hid hown
    obtain ⟨ao, cp, rfl⟩ : ∃ ao cp, v = .slice ao ps.length cp := by
      rcases hown.2 with ⟨h1, h2⟩ | ⟨g, cap, cur, h1, _⟩
      · exact ⟨none, 0, by rw [h1, h2]⟩
      · exact ⟨_, _, h1⟩
    clear h hb hel hown
    go_wp2_with fail
    go_loop [7, 8] (fun s i => ∃ (j : Nat) (pre : List UInt8), j ≤ ps.length ∧ i = .int .i64 j ∧ s = sv pre ∧ pre.length ≤ 4 * j ∧ fixedE ps = (pre ++ (fixedE (ps.drop j)).1, (fixedE (ps.drop j)).2)) (fun _ i => ps.length - (intOf i).toNat)
    case atStart => exact ⟨0, [], Nat.zero_le _, rfl, rfl, Nat.le_refl _, rfl⟩
    case round =>
      obtain ⟨j, pre, hj, rfl, rfl, hpl, hfix⟩ := hrel
      have HFIX := Lib.hid hfix
      clear hfix
      have hpl2 : pre.length ≤ 20000 := by have := HPL.out; omega
      have hps : ps.length ≤ 5000 := HPL.out
      by_cases hlt : j < ps.length
      · obtain ⟨x, rfl⟩ : ∃ x, ao = some x := by
          rcases HOWN.out.2 with ⟨_, h2⟩ | ⟨g, cap, cur, h1, _⟩
          · omega
          · simp only [Value.slice.injEq] at h1
            exact ⟨_, h1.1⟩
        obtain ⟨g, rfl, _, hg⟩ := own_addr HOWN.out
        have hcell : ∀ f, f < 3 → w1.cell? ⟨g, j * 3 + f, none⟩ = (elC ps[j])[f]? := fun f hf => by
          rw [HOWN.out.cellAt _ (by omega), flat_at ps j f hlt hf]
        have HDR := Lib.hid (List.drop_eq_getElem_cons hlt)
        have HMEM := Lib.hid (List.getElem_mem hlt)
        generalize ps[j] = el at hcell HDR HMEM
        have hc0 := hcell 0 (by decide)
        have hc1 := hcell 1 (by decide)
        have hc2 := hcell 2 (by decide)
        rw [Nat.add_zero] at hc0
        clear hcell
        unfold sv
        cases el with
        | any =>
          simp only [elC, List.getElem?_cons_zero, List.getElem?_cons_succ] at hc0 hc1 hc2
          go_wp2_with fail
          refine bodyPost_ret (v := .tuple #[.string ⟨pre.toArray⟩, .bool false, .int .i64 0]) (by simp [results, Tryz.results82, go_sem]) rfl ⟨?_, HBE.out⟩
          have hf := HFIX.out
          rw [HDR.out] at hf
          rw [← HS.out, ← HB.out, ← HE.out, (fix_some H.out).1, (fix_some H.out).2, errN_some H.out, hf]
          simp [fixedE]
        | one =>
          simp only [elC, List.getElem?_cons_zero, List.getElem?_cons_succ] at hc0 hc1 hc2
          go_wp2_with fail
          refine bodyPost_ret (v := .tuple #[.string ⟨pre.toArray⟩, .bool false, .int .i64 0]) (by simp [results, Tryz.results82, go_sem]) rfl ⟨?_, HBE.out⟩
          have hf := HFIX.out
          rw [HDR.out] at hf
          rw [← HS.out, ← HB.out, ← HE.out, (fix_some H.out).1, (fix_some H.out).2, errN_some H.out, hf]
          simp [fixedE]
        | lit c =>
          simp only [elC, List.getElem?_cons_zero, List.getElem?_cons_succ] at hc0 hc1 hc2
          have hc4 := HC4.out c HMEM.out
          unfold sv at hc2
          go_wp2_with fail
          go_round
          case rel =>
            refine ⟨j + 1, pre ++ c, by omega, by go_num, by rw [sv_append], by rw [List.length_append]; omega, ?_⟩
            rw [HFIX.out, HDR.out]
            simp [fixedE]
          case measure => simp [intOf]; omega
      · have hjN : j = ps.length := by omega
        have HDN := Lib.hid (show ps.drop j = [] from List.drop_eq_nil_of_le (by omega))
        subst hjN
        unfold sv
        go_wp2_with fail
        refine bodyPost_ret (v := .tuple #[.string ⟨pre.toArray⟩, .bool true, .int .i64 0]) (by simp [results, Tryz.results82, go_sem]) rfl ⟨?_, HBE.out⟩
        have hf := HFIX.out
        rw [HDN.out] at hf
        rw [← HS.out, ← HB.out, ← HE.out, (fix_some H.out).1, (fix_some H.out).2, errN_some H.out, hf]
        simp [fixedE]
  · have H := Lib.hid h
    have HBE := Lib.hid hb
    clear h hb
    go_wp2_with fail
    refine bodyPost_ret (v := .tuple #[.string ⟨#[]⟩, .bool false, .int .i64 30]) (by simp [results, Tryz.results82, go_sem]) rfl ⟨?_, HBE.out⟩
    rw [← HS.out, ← HB.out, ← HE.out, (fix_none H.out).1, (fix_none H.out).2, errN_none H.out]

end Go.Proofs.YtfnmcdjfdhdlmaaGreatDoor

/-
  The contracts of the document's own May: a text's beginning and a pattern.
-/
namespace Go.Proofs.YtfnmcdjfdhdlmaaGreatDoor
open Go.ChangeAt Go.RowKit Go.BigFrame

set_option maxRecDepth 100000 in
set_option maxHeartbeats 2000000 in
theorem refBegins_any (t s : List UInt8) (w : World) : Calls Tryz.prog 83 #[.string ⟨t.toArray⟩, .string ⟨s.toArray⟩] w fun e w' => e = .returned (.bool (s.isPrefixOf t)) ∧ w = w' := by
  have HP := Lib.hid (pfx_cut (s := s) (t := t))
  by_cases h : s.length ≤ t.length
  · have d1 : decide (s.length ≤ t.length) = true := decide_eq_true h
    have d1' : decide ((s.length : Int) ≤ (t.length : Int)) = true := decide_eq_true (by omega)
    have hc := pfx_take t s.length
    have HPP := Lib.hid (show s.isPrefixOf t = (t.take s.length == s) by rw [HP.out, d1, Bool.true_and])
    generalize t.take s.length = x at hc HPP
    go_enter Tryz.func83, Tryz.ntmps83
    go_wp2_with fail
    go_ret
    exact ⟨by rw [HPP.out]; rfl, rfl⟩
  · have d1 : decide (s.length ≤ t.length) = false := decide_eq_false h
    have d1' : decide ((s.length : Int) ≤ (t.length : Int)) = false := decide_eq_false (by omega)
    have HPP := Lib.hid (show s.isPrefixOf t = false by rw [HP.out, d1, Bool.false_and])
    go_enter Tryz.func83, Tryz.ntmps83
    go_wp2_with fail
    go_ret
    exact ⟨by rw [HPP.out]; rfl, rfl⟩

set_option maxRecDepth 100000 in
set_option maxHeartbeats 8000000 in
theorem refLike_any (z : Zo) (p : List UInt8) (w : World) (hT : Tabs w) (hp : p.length ≤ 5000) :
    Calls Tryz.prog 57 #[z.val, .string ⟨p.toArray⟩] w fun e w' => e = .returned (tripV (likeZ z p)) ∧ Ext w w' := by
  have HF := Lib.hid (fun W (h : Ext w W) => refFixed_any p W (hT.mono h) hp)
  have HNO := Lib.hid (likeZ_no (z := z) (p := p))
  have HYE := Lib.hid (likeZ_yes (z := z) (p := p))
  have HPX := Lib.hid (fun W => refBegins_any z.a.s (fixS p) W)
  have h3m := text3 z.b.s (fixS p)
  have h3l := text3 z.a.s (fixS p)
  generalize likeZ z p = R at HNO HYE ⊢
  unfold sv at HF
  obtain ⟨⟨ak, an, as'⟩, ⟨bk, bn, bs⟩, pn, pm⟩ := z
  unfold Zo.val
  simp only at HNO HYE HPX h3m h3l ⊢
  have HBZ := Lib.hid (((Blk.new w [.int .u8 ak, .int .i64 an, .string ⟨as'.toArray⟩, .int .u8 bk, .int .i64 bn, .string ⟨bs.toArray⟩, .int .i64 pn, .int .i64 pm] 47).ext (ext_new _ (.cells #[.bool false, .bool false, .bool false] 32))).ext (ext_new _ (.cells #[.bool false, .bool false, .bool false] 32)))
  have HBR := Lib.hid (blk_1 w (.cells #[.int .u8 ak, .int .i64 an, .string ⟨as'.toArray⟩, .int .u8 bk, .int .i64 bn, .string ⟨bs.toArray⟩, .int .i64 pn, .int .i64 pm] 47) (.cells #[.bool false, .bool false, .bool false] 32) [.bool false, .bool false, .bool false] 32)
  have HBM := Lib.hid (show Blk (((w.alloc (.cells #[.int .u8 ak, .int .i64 an, .string ⟨as'.toArray⟩, .int .u8 bk, .int .i64 bn, .string ⟨bs.toArray⟩, .int .i64 pn, .int .i64 pm] 47)).alloc (.cells #[.bool false, .bool false, .bool false] 32)).alloc (.cells #[.bool false, .bool false, .bool false] 32)) (w.heap.size + 1 + 1) (tL (false, false, false)) 32 from by
    have h := Blk.new ((w.alloc (.cells #[.int .u8 ak, .int .i64 an, .string ⟨as'.toArray⟩, .int .u8 bk, .int .i64 bn, .string ⟨bs.toArray⟩, .int .i64 pn, .int .i64 pm] 47)).alloc (.cells #[.bool false, .bool false, .bool false] 32)) [.bool false, .bool false, .bool false] 32
    simp only [World.alloc, Array.size_push] at h
    exact h)
  have HXA := Lib.hid (ext_3 w (.cells #[.int .u8 ak, .int .i64 an, .string ⟨as'.toArray⟩, .int .u8 bk, .int .i64 bn, .string ⟨bs.toArray⟩, .int .i64 pn, .int .i64 pm] 47) (.cells #[.bool false, .bool false, .bool false] 32) (.cells #[.bool false, .bool false, .bool false] 32))
  obtain ⟨n0, hn0⟩ : ∃ b, decide (0 < pn) = b := ⟨_, rfl⟩
  have HN0 := Lib.hid hn0
  have H3M := Lib.hid h3m
  have H3L := Lib.hid h3l
  clear hT hp h3m h3l
  go_enter Tryz.func57, Tryz.ntmps57
  go_upto_region 2 with fail
  generalize ((w.alloc (.cells #[.int .u8 ak, .int .i64 an, .string ⟨as'.toArray⟩, .int .u8 bk, .int .i64 bn, .string ⟨bs.toArray⟩, .int .i64 pn, .int .i64 pm] 47)).alloc (.cells #[.bool false, .bool false, .bool false] 32)).alloc (.cells #[.bool false, .bool false, .bool false] 32) = WA at HBZ HBR HBM HXA ⊢
  have z6 : WA.cell? ⟨w.heap.size, 6, none⟩ = some (.int .i64 pn) := HBZ.out.cell 6 _ rfl
  have m1 : WA.cell? ⟨w.heap.size + 1 + 1, 1, none⟩ = some (.bool false) := HBM.out.cell 1 _ rfl
  have m1' : WA.frozen? ⟨w.heap.size + 1 + 1, 1, none⟩ = false := HBM.out.free 1
  go_upto_region 3 with fail
  generalize hW2 : WA.setCell ⟨w.heap.size + 1 + 1, 1, none⟩ (.bool n0) = W2
  have HBM2 := Lib.hid (show Blk W2 (w.heap.size + 1 + 1) (tL (false, n0, false)) 32 by rw [← hW2]; exact HBM.out.set 1 (.bool n0))
  have HBR2 := Lib.hid (show Blk W2 (w.heap.size + 1) (tL (false, false, false)) 32 by rw [← hW2]; exact HBR.out.beside (by omega) 1 _)
  have HBZ2 := Lib.hid (show Blk W2 w.heap.size [.int .u8 ak, .int .i64 an, .string ⟨as'.toArray⟩, .int .u8 bk, .int .i64 bn, .string ⟨bs.toArray⟩, .int .i64 pn, .int .i64 pm] 47 by rw [← hW2]; exact HBZ.out.beside (by omega) 1 _)
  have HX2 := Lib.hid (show Ext w W2 by rw [← hW2]; exact Below.setCell HXA.out (by show w.heap.size ≤ w.heap.size + 1 + 1; omega) _)
  clear hW2 m1 m1' z6 HBM HBR HBZ HXA hn0
  have z6 : W2.cell? ⟨w.heap.size, 6, none⟩ = some (.int .i64 pn) := HBZ2.out.cell 6 _ rfl
  have z7 : W2.cell? ⟨w.heap.size, 7, none⟩ = some (.int .i64 pm) := HBZ2.out.cell 7 _ rfl
  by_cases hnm : pn < pm
  · have d0 : decide (pn < pm) = true := decide_eq_true hnm
    have HR := Lib.hid (HYE.out hnm)
    clear hnm HNO HYE
    obtain ⟨b0, hb0⟩ : ∃ b, (p != [37]) = b := ⟨_, rfl⟩
    have hb0' : (p == [37]) = !b0 := by rw [← hb0]; simp [bne]
    have HB0 := Lib.hid (show (!decide (p = [37])) = b0 by rw [← hb0]; by_cases e : p = [37] <;> simp [e])
    rw [HB0.out, HN0.out] at HR
    generalize fixS p = f at HF HPX H3M H3L HR
    generalize errN p = E at HF
    generalize fixB p = B at HF
    go_wp2_with fail
    refine (HF.out _ HX2.out).mono ?_
    rintro e w1 ⟨rfl, hx⟩
    have HX1 := Lib.hid (Ext.trans HX2.out hx)
    have HBZ1 := Lib.hid (HBZ2.out.ext hx)
    have HBR1 := Lib.hid (HBR2.out.ext hx)
    have HBM1 := Lib.hid (HBM2.out.ext hx)
    clear hx z6 z7
    have m0 : w1.cell? ⟨w.heap.size + 1 + 1, 0, none⟩ = some (.bool false) := HBM1.out.cell 0 _ rfl
    have m0' : w1.frozen? ⟨w.heap.size + 1 + 1, 0, none⟩ = false := HBM1.out.free 0
    go_upto_region 6 with fail
    generalize hW3 : w1.setCell ⟨w.heap.size + 1 + 1, 0, none⟩ (.bool b0) = W3
    have HBM3 := Lib.hid (show Blk W3 (w.heap.size + 1 + 1) (tL (b0, n0, false)) 32 by rw [← hW3]; exact HBM1.out.set 0 (.bool b0))
    have HBR3 := Lib.hid (show Blk W3 (w.heap.size + 1) (tL (false, false, false)) 32 by rw [← hW3]; exact HBR1.out.beside (by omega) 0 _)
    have HBZ3 := Lib.hid (show Blk W3 w.heap.size [.int .u8 ak, .int .i64 an, .string ⟨as'.toArray⟩, .int .u8 bk, .int .i64 bn, .string ⟨bs.toArray⟩, .int .i64 pn, .int .i64 pm] 47 by rw [← hW3]; exact HBZ1.out.beside (by omega) 0 _)
    have HX3 := Lib.hid (show Ext w W3 by rw [← hW3]; exact Below.setCell HX1.out (by show w.heap.size ≤ w.heap.size + 1 + 1; omega) _)
    clear hW3 m0 m0'
    have z2 : W3.cell? ⟨w.heap.size, 2, none⟩ = some (.string ⟨as'.toArray⟩) := HBZ3.out.cell 2 _ rfl
    have z5 : W3.cell? ⟨w.heap.size, 5, none⟩ = some (.string ⟨bs.toArray⟩) := HBZ3.out.cell 5 _ rfl
    have m2 : W3.cell? ⟨w.heap.size + 1 + 1, 2, none⟩ = some (.bool false) := HBM3.out.cell 2 _ rfl
    have m2' : W3.frozen? ⟨w.heap.size + 1 + 1, 2, none⟩ = false := HBM3.out.free 2
    rcases H3M.out with ⟨g1, g2, g3'⟩ | ⟨g1, g2⟩ | ⟨g1, g2, g3'⟩
    · have HM1 := Lib.hid g1
      go_upto_region 7 with fail
      generalize hW4 : W3.setCell ⟨w.heap.size + 1 + 1, 2, none⟩ (.bool false) = W4
      have HBM4 := Lib.hid (show Blk W4 (w.heap.size + 1 + 1) (tL (b0, n0, false)) 32 by rw [← hW4]; exact HBM3.out.set 2 (.bool false))
      have HBR4 := Lib.hid (show Blk W4 (w.heap.size + 1) (tL (false, false, false)) 32 by rw [← hW4]; exact HBR3.out.beside (by omega) 2 _)
      have HX4 := Lib.hid (show Ext w W4 by rw [← hW4]; exact Below.setCell HX3.out (by show w.heap.size ≤ w.heap.size + 1 + 1; omega) _)
      clear hW4 m2 m2' z2 z5
      have k0 : W4.cell? ⟨w.heap.size + 1 + 1, 0, none⟩ = some (.bool b0) := HBM4.out.cell 0 _ rfl
      have r0 : W4.cell? ⟨w.heap.size + 1, 0, none⟩ = some (.bool false) := HBR4.out.cell 0 _ rfl
      have f0 : W4.frozen? ⟨w.heap.size + 1, 0, none⟩ = false := HBR4.out.free 0
      have k1 : W4.cell? ⟨w.heap.size + 1 + 1, 1, none⟩ = some (.bool n0) := HBM4.out.cell 1 _ rfl
      have r1 : W4.cell? ⟨w.heap.size + 1, 1, none⟩ = some (.bool false) := HBR4.out.cell 1 _ rfl
      have f1 : W4.frozen? ⟨w.heap.size + 1, 1, none⟩ = false := HBR4.out.free 1
      have k2 : W4.cell? ⟨w.heap.size + 1 + 1, 2, none⟩ = some (.bool false) := HBM4.out.cell 2 _ rfl
      have r2 : W4.cell? ⟨w.heap.size + 1, 2, none⟩ = some (.bool false) := HBR4.out.cell 2 _ rfl
      have f2 : W4.frozen? ⟨w.heap.size + 1, 2, none⟩ = false := HBR4.out.free 2
      go_wp2_with fail
      refine bodyPost_ret (results_cell_row (P := Tryz.prog) (fn := Tryz.f57) rfl _ _ (w.heap.size + 1) 32 _ (0, 0) _ rfl (blk_set3 HBR4.out _ _ _) Tryz.underlying32 rfl (by kernel_rfl)) rfl ?_
      exact ⟨by rw [HR.out]; rw [HM1.out]; rfl, ext_set3 HX4.out (by show w.heap.size ≤ w.heap.size + 1; omega) _ _ _⟩
    · subst g1
      have HM1 := Lib.hid g2
      have g4 : (bs == bs) = true := by simp
      rcases H3L.out with ⟨l1, l2, l3⟩ | ⟨l1, l2⟩ | ⟨l1, l2, l3⟩
      · have HL3 := Lib.hid l3
        go_upto_region 7 with fail
        generalize hW4 : W3.setCell ⟨w.heap.size + 1 + 1, 2, none⟩ (.bool true) = W4
        have HBM4 := Lib.hid (show Blk W4 (w.heap.size + 1 + 1) (tL (b0, n0, true)) 32 by rw [← hW4]; exact HBM3.out.set 2 (.bool true))
        have HBR4 := Lib.hid (show Blk W4 (w.heap.size + 1) (tL (false, false, false)) 32 by rw [← hW4]; exact HBR3.out.beside (by omega) 2 _)
        have HX4 := Lib.hid (show Ext w W4 by rw [← hW4]; exact Below.setCell HX3.out (by show w.heap.size ≤ w.heap.size + 1 + 1; omega) _)
        clear hW4 m2 m2' z2 z5
        have k0 : W4.cell? ⟨w.heap.size + 1 + 1, 0, none⟩ = some (.bool b0) := HBM4.out.cell 0 _ rfl
        have r0 : W4.cell? ⟨w.heap.size + 1, 0, none⟩ = some (.bool false) := HBR4.out.cell 0 _ rfl
        have f0 : W4.frozen? ⟨w.heap.size + 1, 0, none⟩ = false := HBR4.out.free 0
        have k1 : W4.cell? ⟨w.heap.size + 1 + 1, 1, none⟩ = some (.bool n0) := HBM4.out.cell 1 _ rfl
        have r1 : W4.cell? ⟨w.heap.size + 1, 1, none⟩ = some (.bool false) := HBR4.out.cell 1 _ rfl
        have f1 : W4.frozen? ⟨w.heap.size + 1, 1, none⟩ = false := HBR4.out.free 1
        have k2 : W4.cell? ⟨w.heap.size + 1 + 1, 2, none⟩ = some (.bool true) := HBM4.out.cell 2 _ rfl
        have r2 : W4.cell? ⟨w.heap.size + 1, 2, none⟩ = some (.bool false) := HBR4.out.cell 2 _ rfl
        have f2 : W4.frozen? ⟨w.heap.size + 1, 2, none⟩ = false := HBR4.out.free 2
        go_wp2_with fail
        refine bodyPost_ret (results_cell_row (P := Tryz.prog) (fn := Tryz.f57) rfl _ _ (w.heap.size + 1) 32 _ (0, 0) _ rfl (blk_set3 HBR4.out _ _ _) Tryz.underlying32 rfl (by kernel_rfl)) rfl ?_
        exact ⟨by rw [HR.out]; first | (rw [HM1.out, HL3.out]; rfl) | (rw [HM1.out]; rfl), ext_set3 HX4.out (by show w.heap.size ≤ w.heap.size + 1; omega) _ _ _⟩
      · subst l1
        have HL3 := Lib.hid l2
        have l4 : (as' == as') = true := by simp
        go_upto_region 7 with fail
        generalize hW4 : W3.setCell ⟨w.heap.size + 1 + 1, 2, none⟩ (.bool true) = W4
        have HBM4 := Lib.hid (show Blk W4 (w.heap.size + 1 + 1) (tL (b0, n0, true)) 32 by rw [← hW4]; exact HBM3.out.set 2 (.bool true))
        have HBR4 := Lib.hid (show Blk W4 (w.heap.size + 1) (tL (false, false, false)) 32 by rw [← hW4]; exact HBR3.out.beside (by omega) 2 _)
        have HX4 := Lib.hid (show Ext w W4 by rw [← hW4]; exact Below.setCell HX3.out (by show w.heap.size ≤ w.heap.size + 1 + 1; omega) _)
        clear hW4 m2 m2' z2 z5
        have k0 : W4.cell? ⟨w.heap.size + 1 + 1, 0, none⟩ = some (.bool b0) := HBM4.out.cell 0 _ rfl
        have r0 : W4.cell? ⟨w.heap.size + 1, 0, none⟩ = some (.bool false) := HBR4.out.cell 0 _ rfl
        have f0 : W4.frozen? ⟨w.heap.size + 1, 0, none⟩ = false := HBR4.out.free 0
        have k1 : W4.cell? ⟨w.heap.size + 1 + 1, 1, none⟩ = some (.bool n0) := HBM4.out.cell 1 _ rfl
        have r1 : W4.cell? ⟨w.heap.size + 1, 1, none⟩ = some (.bool false) := HBR4.out.cell 1 _ rfl
        have f1 : W4.frozen? ⟨w.heap.size + 1, 1, none⟩ = false := HBR4.out.free 1
        have k2 : W4.cell? ⟨w.heap.size + 1 + 1, 2, none⟩ = some (.bool true) := HBM4.out.cell 2 _ rfl
        have r2 : W4.cell? ⟨w.heap.size + 1, 2, none⟩ = some (.bool false) := HBR4.out.cell 2 _ rfl
        have f2 : W4.frozen? ⟨w.heap.size + 1, 2, none⟩ = false := HBR4.out.free 2
        go_wp2_with fail
        refine bodyPost_ret (results_cell_row (P := Tryz.prog) (fn := Tryz.f57) rfl _ _ (w.heap.size + 1) 32 _ (0, 0) _ rfl (blk_set3 HBR4.out _ _ _) Tryz.underlying32 rfl (by kernel_rfl)) rfl ?_
        exact ⟨by rw [HR.out]; first | (rw [HM1.out, HL3.out]; rfl) | (rw [HM1.out]; rfl), ext_set3 HX4.out (by show w.heap.size ≤ w.heap.size + 1; omega) _ _ _⟩
      · have HL3 := Lib.hid l3
        generalize hpx : bs.isPrefixOf as' = px at HPX HR
        have HPXE := Lib.hid hpx
        clear hpx
        go_wp2_with fail
        refine (HPX.out _).mono ?_
        rintro e W' ⟨rfl, rfl⟩
        go_upto_region 7 with fail
        generalize hW4 : W3.setCell ⟨w.heap.size + 1 + 1, 2, none⟩ (.bool px) = W4
        have HBM4 := Lib.hid (show Blk W4 (w.heap.size + 1 + 1) (tL (b0, n0, px)) 32 by rw [← hW4]; exact HBM3.out.set 2 (.bool px))
        have HBR4 := Lib.hid (show Blk W4 (w.heap.size + 1) (tL (false, false, false)) 32 by rw [← hW4]; exact HBR3.out.beside (by omega) 2 _)
        have HX4 := Lib.hid (show Ext w W4 by rw [← hW4]; exact Below.setCell HX3.out (by show w.heap.size ≤ w.heap.size + 1 + 1; omega) _)
        clear hW4 m2 m2' z2 z5
        have k0 : W4.cell? ⟨w.heap.size + 1 + 1, 0, none⟩ = some (.bool b0) := HBM4.out.cell 0 _ rfl
        have r0 : W4.cell? ⟨w.heap.size + 1, 0, none⟩ = some (.bool false) := HBR4.out.cell 0 _ rfl
        have f0 : W4.frozen? ⟨w.heap.size + 1, 0, none⟩ = false := HBR4.out.free 0
        have k1 : W4.cell? ⟨w.heap.size + 1 + 1, 1, none⟩ = some (.bool n0) := HBM4.out.cell 1 _ rfl
        have r1 : W4.cell? ⟨w.heap.size + 1, 1, none⟩ = some (.bool false) := HBR4.out.cell 1 _ rfl
        have f1 : W4.frozen? ⟨w.heap.size + 1, 1, none⟩ = false := HBR4.out.free 1
        have k2 : W4.cell? ⟨w.heap.size + 1 + 1, 2, none⟩ = some (.bool px) := HBM4.out.cell 2 _ rfl
        have r2 : W4.cell? ⟨w.heap.size + 1, 2, none⟩ = some (.bool false) := HBR4.out.cell 2 _ rfl
        have f2 : W4.frozen? ⟨w.heap.size + 1, 2, none⟩ = false := HBR4.out.free 2
        go_wp2_with fail
        refine bodyPost_ret (results_cell_row (P := Tryz.prog) (fn := Tryz.f57) rfl _ _ (w.heap.size + 1) 32 _ (0, 0) _ rfl (blk_set3 HBR4.out _ _ _) Tryz.underlying32 rfl (by kernel_rfl)) rfl ?_
        exact ⟨by rw [HR.out]; first | (rw [HM1.out, HL3.out]; rfl) | (rw [HM1.out]; rfl), ext_set3 HX4.out (by show w.heap.size ≤ w.heap.size + 1; omega) _ _ _⟩
    · have HM1 := Lib.hid g1
      rcases H3L.out with ⟨l1, l2, l3⟩ | ⟨l1, l2⟩ | ⟨l1, l2, l3⟩
      · have HL3 := Lib.hid l3
        go_upto_region 7 with fail
        generalize hW4 : W3.setCell ⟨w.heap.size + 1 + 1, 2, none⟩ (.bool true) = W4
        have HBM4 := Lib.hid (show Blk W4 (w.heap.size + 1 + 1) (tL (b0, n0, true)) 32 by rw [← hW4]; exact HBM3.out.set 2 (.bool true))
        have HBR4 := Lib.hid (show Blk W4 (w.heap.size + 1) (tL (false, false, false)) 32 by rw [← hW4]; exact HBR3.out.beside (by omega) 2 _)
        have HX4 := Lib.hid (show Ext w W4 by rw [← hW4]; exact Below.setCell HX3.out (by show w.heap.size ≤ w.heap.size + 1 + 1; omega) _)
        clear hW4 m2 m2' z2 z5
        have k0 : W4.cell? ⟨w.heap.size + 1 + 1, 0, none⟩ = some (.bool b0) := HBM4.out.cell 0 _ rfl
        have r0 : W4.cell? ⟨w.heap.size + 1, 0, none⟩ = some (.bool false) := HBR4.out.cell 0 _ rfl
        have f0 : W4.frozen? ⟨w.heap.size + 1, 0, none⟩ = false := HBR4.out.free 0
        have k1 : W4.cell? ⟨w.heap.size + 1 + 1, 1, none⟩ = some (.bool n0) := HBM4.out.cell 1 _ rfl
        have r1 : W4.cell? ⟨w.heap.size + 1, 1, none⟩ = some (.bool false) := HBR4.out.cell 1 _ rfl
        have f1 : W4.frozen? ⟨w.heap.size + 1, 1, none⟩ = false := HBR4.out.free 1
        have k2 : W4.cell? ⟨w.heap.size + 1 + 1, 2, none⟩ = some (.bool true) := HBM4.out.cell 2 _ rfl
        have r2 : W4.cell? ⟨w.heap.size + 1, 2, none⟩ = some (.bool false) := HBR4.out.cell 2 _ rfl
        have f2 : W4.frozen? ⟨w.heap.size + 1, 2, none⟩ = false := HBR4.out.free 2
        go_wp2_with fail
        refine bodyPost_ret (results_cell_row (P := Tryz.prog) (fn := Tryz.f57) rfl _ _ (w.heap.size + 1) 32 _ (0, 0) _ rfl (blk_set3 HBR4.out _ _ _) Tryz.underlying32 rfl (by kernel_rfl)) rfl ?_
        exact ⟨by rw [HR.out]; first | (rw [HM1.out, HL3.out]; rfl) | (rw [HM1.out]; rfl), ext_set3 HX4.out (by show w.heap.size ≤ w.heap.size + 1; omega) _ _ _⟩
      · subst l1
        have HL3 := Lib.hid l2
        have l4 : (as' == as') = true := by simp
        go_upto_region 7 with fail
        generalize hW4 : W3.setCell ⟨w.heap.size + 1 + 1, 2, none⟩ (.bool true) = W4
        have HBM4 := Lib.hid (show Blk W4 (w.heap.size + 1 + 1) (tL (b0, n0, true)) 32 by rw [← hW4]; exact HBM3.out.set 2 (.bool true))
        have HBR4 := Lib.hid (show Blk W4 (w.heap.size + 1) (tL (false, false, false)) 32 by rw [← hW4]; exact HBR3.out.beside (by omega) 2 _)
        have HX4 := Lib.hid (show Ext w W4 by rw [← hW4]; exact Below.setCell HX3.out (by show w.heap.size ≤ w.heap.size + 1 + 1; omega) _)
        clear hW4 m2 m2' z2 z5
        have k0 : W4.cell? ⟨w.heap.size + 1 + 1, 0, none⟩ = some (.bool b0) := HBM4.out.cell 0 _ rfl
        have r0 : W4.cell? ⟨w.heap.size + 1, 0, none⟩ = some (.bool false) := HBR4.out.cell 0 _ rfl
        have f0 : W4.frozen? ⟨w.heap.size + 1, 0, none⟩ = false := HBR4.out.free 0
        have k1 : W4.cell? ⟨w.heap.size + 1 + 1, 1, none⟩ = some (.bool n0) := HBM4.out.cell 1 _ rfl
        have r1 : W4.cell? ⟨w.heap.size + 1, 1, none⟩ = some (.bool false) := HBR4.out.cell 1 _ rfl
        have f1 : W4.frozen? ⟨w.heap.size + 1, 1, none⟩ = false := HBR4.out.free 1
        have k2 : W4.cell? ⟨w.heap.size + 1 + 1, 2, none⟩ = some (.bool true) := HBM4.out.cell 2 _ rfl
        have r2 : W4.cell? ⟨w.heap.size + 1, 2, none⟩ = some (.bool false) := HBR4.out.cell 2 _ rfl
        have f2 : W4.frozen? ⟨w.heap.size + 1, 2, none⟩ = false := HBR4.out.free 2
        go_wp2_with fail
        refine bodyPost_ret (results_cell_row (P := Tryz.prog) (fn := Tryz.f57) rfl _ _ (w.heap.size + 1) 32 _ (0, 0) _ rfl (blk_set3 HBR4.out _ _ _) Tryz.underlying32 rfl (by kernel_rfl)) rfl ?_
        exact ⟨by rw [HR.out]; first | (rw [HM1.out, HL3.out]; rfl) | (rw [HM1.out]; rfl), ext_set3 HX4.out (by show w.heap.size ≤ w.heap.size + 1; omega) _ _ _⟩
      · have HL3 := Lib.hid l3
        generalize hpx : f.isPrefixOf as' = px at HPX HR
        have HPXE := Lib.hid hpx
        clear hpx
        go_wp2_with fail
        refine (HPX.out _).mono ?_
        rintro e W' ⟨rfl, rfl⟩
        go_upto_region 7 with fail
        generalize hW4 : W3.setCell ⟨w.heap.size + 1 + 1, 2, none⟩ (.bool px) = W4
        have HBM4 := Lib.hid (show Blk W4 (w.heap.size + 1 + 1) (tL (b0, n0, px)) 32 by rw [← hW4]; exact HBM3.out.set 2 (.bool px))
        have HBR4 := Lib.hid (show Blk W4 (w.heap.size + 1) (tL (false, false, false)) 32 by rw [← hW4]; exact HBR3.out.beside (by omega) 2 _)
        have HX4 := Lib.hid (show Ext w W4 by rw [← hW4]; exact Below.setCell HX3.out (by show w.heap.size ≤ w.heap.size + 1 + 1; omega) _)
        clear hW4 m2 m2' z2 z5
        have k0 : W4.cell? ⟨w.heap.size + 1 + 1, 0, none⟩ = some (.bool b0) := HBM4.out.cell 0 _ rfl
        have r0 : W4.cell? ⟨w.heap.size + 1, 0, none⟩ = some (.bool false) := HBR4.out.cell 0 _ rfl
        have f0 : W4.frozen? ⟨w.heap.size + 1, 0, none⟩ = false := HBR4.out.free 0
        have k1 : W4.cell? ⟨w.heap.size + 1 + 1, 1, none⟩ = some (.bool n0) := HBM4.out.cell 1 _ rfl
        have r1 : W4.cell? ⟨w.heap.size + 1, 1, none⟩ = some (.bool false) := HBR4.out.cell 1 _ rfl
        have f1 : W4.frozen? ⟨w.heap.size + 1, 1, none⟩ = false := HBR4.out.free 1
        have k2 : W4.cell? ⟨w.heap.size + 1 + 1, 2, none⟩ = some (.bool px) := HBM4.out.cell 2 _ rfl
        have r2 : W4.cell? ⟨w.heap.size + 1, 2, none⟩ = some (.bool false) := HBR4.out.cell 2 _ rfl
        have f2 : W4.frozen? ⟨w.heap.size + 1, 2, none⟩ = false := HBR4.out.free 2
        go_wp2_with fail
        refine bodyPost_ret (results_cell_row (P := Tryz.prog) (fn := Tryz.f57) rfl _ _ (w.heap.size + 1) 32 _ (0, 0) _ rfl (blk_set3 HBR4.out _ _ _) Tryz.underlying32 rfl (by kernel_rfl)) rfl ?_
        exact ⟨by rw [HR.out]; first | (rw [HM1.out, HL3.out]; rfl) | (rw [HM1.out]; rfl), ext_set3 HX4.out (by show w.heap.size ≤ w.heap.size + 1; omega) _ _ _⟩
  · have d0 : decide (pn < pm) = false := decide_eq_false hnm
    have HR := Lib.hid (HNO.out hnm)
    clear hnm HNO HYE
    have k0 : W2.cell? ⟨w.heap.size + 1 + 1, 0, none⟩ = some (.bool false) := HBM2.out.cell 0 _ rfl
    have r0 : W2.cell? ⟨w.heap.size + 1, 0, none⟩ = some (.bool false) := HBR2.out.cell 0 _ rfl
    have f0 : W2.frozen? ⟨w.heap.size + 1, 0, none⟩ = false := HBR2.out.free 0
    have k1 : W2.cell? ⟨w.heap.size + 1 + 1, 1, none⟩ = some (.bool n0) := HBM2.out.cell 1 _ rfl
    have r1 : W2.cell? ⟨w.heap.size + 1, 1, none⟩ = some (.bool false) := HBR2.out.cell 1 _ rfl
    have f1 : W2.frozen? ⟨w.heap.size + 1, 1, none⟩ = false := HBR2.out.free 1
    have k2 : W2.cell? ⟨w.heap.size + 1 + 1, 2, none⟩ = some (.bool false) := HBM2.out.cell 2 _ rfl
    have r2 : W2.cell? ⟨w.heap.size + 1, 2, none⟩ = some (.bool false) := HBR2.out.cell 2 _ rfl
    have f2 : W2.frozen? ⟨w.heap.size + 1, 2, none⟩ = false := HBR2.out.free 2
    go_wp2_with fail
    refine bodyPost_ret (results_cell_row (P := Tryz.prog) (fn := Tryz.f57) rfl _ _ (w.heap.size + 1) 32 _ (0, 0) _ rfl (blk_set3 HBR2.out _ _ _) Tryz.underlying32 rfl (by kernel_rfl)) rfl ?_
    exact ⟨by rw [HR.out, HN0.out]; rfl, ext_set3 HX2.out (by show w.heap.size ≤ w.heap.size + 1; omega) _ _ _⟩

end Go.Proofs.YtfnmcdjfdhdlmaaGreatDoor

/-
  The contracts of the document's own May: what may come of a node that asks for a column, by its zone.
-/
namespace Go.Proofs.YtfnmcdjfdhdlmaaGreatDoor
open Go.ChangeAt Go.RowKit Go.BigFrame

/-- What may come of a node that asks for a column. -/
def knownZ (n : Nd) (z : Zo) : T3 := if n.op = 5 then equalZ z n.v else if n.op = 6 then lessZ z n.v else if n.op = 8 then nullZ z else likeZ z n.v.s
theorem known_leaf {zs : List Zo} {n : Nd} (h : 5 ≤ n.op ∧ n.op ≤ 8) : leafZ zs n = knownZ n (zoneC zs n) := by
  unfold leafZ knownZ
  by_cases h5 : n.op = 5
  · rw [if_pos h5, if_pos h5]
  · rw [if_neg h5, if_neg h5]
    by_cases h6 : n.op = 6
    · rw [if_pos h6, if_pos h6]
    · rw [if_neg h6, if_neg h6]
      by_cases h7 : n.op = 7
      · rw [if_pos h7, if_neg (by omega)]
      · rw [if_neg h7, if_pos (by omega), if_pos (by omega)]

set_option maxRecDepth 100000 in
set_option maxHeartbeats 4000000 in
theorem refKnown_any (n : Nd) (z : Zo) (w : World) (hT : Tabs w) (hn : n.v.fits ∧ n.v.s.length ≤ 5000) (hz : z.fits) :
    Calls Tryz.prog 28 #[n.val, z.val] w fun e w' => e = .returned (tripV (knownZ n z)) ∧ Ext w w' := by
  have HE := Lib.hid (fun W => refEqualZ_any z n.v W hz hn.1)
  have HL := Lib.hid (fun W => refLessZ_any z n.v W hz hn.1)
  have HU := Lib.hid (fun W => refNullZ_any z W)
  have HK := Lib.hid (fun W (h : Ext w W) => refLike_any z n.v.s W (hT.mono h) hn.2)
  have HQ := Lib.hid (show knownZ n z = if n.op = 5 then equalZ z n.v else if n.op = 6 then lessZ z n.v else if n.op = 8 then nullZ z else likeZ z n.v.s from rfl)
  rw [HQ.out]
  obtain ⟨o, c, kd, ⟨vk, vn, vs⟩⟩ := n
  simp only at HE HL HU HK ⊢
  generalize equalZ z ⟨vk, vn, vs⟩ = E at HE ⊢
  generalize lessZ z ⟨vk, vn, vs⟩ = L at HL ⊢
  generalize nullZ z = U at HU ⊢
  generalize likeZ z vs = K at HK ⊢
  obtain ⟨⟨ak, an, as'⟩, ⟨bk, bn, bs⟩, pn, pm⟩ := z
  unfold V.val at HE HL
  unfold Zo.val at HE HL HU HK ⊢
  unfold Nd.val
  obtain ⟨e0, e1, e2⟩ := E
  obtain ⟨l0, l1, l2⟩ := L
  obtain ⟨u0, u1, u2⟩ := U
  obtain ⟨k0, k1, k2⟩ := K
  unfold tripV at HE HL HU HK
  simp only at HE HL HU HK ⊢
  have HBN := Lib.hid (((Blk.new w [.int .u8 o, .int .i64 c, .int .i64 kd, .int .u8 vk, .int .i64 vn, .string ⟨vs.toArray⟩] 38).ext (ext_new _ (.cells #[.int .u8 ak, .int .i64 an, .string ⟨as'.toArray⟩, .int .u8 bk, .int .i64 bn, .string ⟨bs.toArray⟩, .int .i64 pn, .int .i64 pm] 47))).ext (ext_new _ (.cells #[.bool false, .bool false, .bool false] 32)))
  have HBZ := Lib.hid (blk_1 w (.cells #[.int .u8 o, .int .i64 c, .int .i64 kd, .int .u8 vk, .int .i64 vn, .string ⟨vs.toArray⟩] 38) (.cells #[.bool false, .bool false, .bool false] 32) [.int .u8 ak, .int .i64 an, .string ⟨as'.toArray⟩, .int .u8 bk, .int .i64 bn, .string ⟨bs.toArray⟩, .int .i64 pn, .int .i64 pm] 47)
  have HBR := Lib.hid (show Blk (((w.alloc (.cells #[.int .u8 o, .int .i64 c, .int .i64 kd, .int .u8 vk, .int .i64 vn, .string ⟨vs.toArray⟩] 38)).alloc (.cells #[.int .u8 ak, .int .i64 an, .string ⟨as'.toArray⟩, .int .u8 bk, .int .i64 bn, .string ⟨bs.toArray⟩, .int .i64 pn, .int .i64 pm] 47)).alloc (.cells #[.bool false, .bool false, .bool false] 32)) (w.heap.size + 1 + 1) [.bool false, .bool false, .bool false] 32 from by
    have h := Blk.new ((w.alloc (.cells #[.int .u8 o, .int .i64 c, .int .i64 kd, .int .u8 vk, .int .i64 vn, .string ⟨vs.toArray⟩] 38)).alloc (.cells #[.int .u8 ak, .int .i64 an, .string ⟨as'.toArray⟩, .int .u8 bk, .int .i64 bn, .string ⟨bs.toArray⟩, .int .i64 pn, .int .i64 pm] 47)) [.bool false, .bool false, .bool false] 32
    simp only [World.alloc, Array.size_push] at h
    exact h)
  have HXA := Lib.hid (ext_3 w (.cells #[.int .u8 o, .int .i64 c, .int .i64 kd, .int .u8 vk, .int .i64 vn, .string ⟨vs.toArray⟩] 38) (.cells #[.int .u8 ak, .int .i64 an, .string ⟨as'.toArray⟩, .int .u8 bk, .int .i64 bn, .string ⟨bs.toArray⟩, .int .i64 pn, .int .i64 pm] 47) (.cells #[.bool false, .bool false, .bool false] 32))
  clear hT hn hz HQ
  by_cases h5 : o = 5
  · subst h5
    rw [if_pos rfl]
    go_enter Tryz.func28, Tryz.ntmps28
    go_upto_region 1 with fail
    generalize ((w.alloc (.cells #[.int .u8 5, .int .i64 c, .int .i64 kd, .int .u8 vk, .int .i64 vn, .string ⟨vs.toArray⟩] 38)).alloc (.cells #[.int .u8 ak, .int .i64 an, .string ⟨as'.toArray⟩, .int .u8 bk, .int .i64 bn, .string ⟨bs.toArray⟩, .int .i64 pn, .int .i64 pm] 47)).alloc (.cells #[.bool false, .bool false, .bool false] 32) = WA at HBN HBZ HBR HXA ⊢
    have a0 : WA.cell? ⟨w.heap.size, 0, none⟩ = some (.int .u8 5) := HBN.out.cell 0 _ rfl
    have a1 : WA.cell? ⟨w.heap.size, 1, none⟩ = some (.int .i64 c) := HBN.out.cell 1 _ rfl
    have a2 : WA.cell? ⟨w.heap.size, 2, none⟩ = some (.int .i64 kd) := HBN.out.cell 2 _ rfl
    have a3 : WA.cell? ⟨w.heap.size, 3, none⟩ = some (.int .u8 vk) := HBN.out.cell 3 _ rfl
    have a4 : WA.cell? ⟨w.heap.size, 4, none⟩ = some (.int .i64 vn) := HBN.out.cell 4 _ rfl
    have a5 : WA.cell? ⟨w.heap.size, 5, none⟩ = some (.string ⟨vs.toArray⟩) := HBN.out.cell 5 _ rfl
    have z0 : WA.cell? ⟨w.heap.size + 1, 0, none⟩ = some (.int .u8 ak) := HBZ.out.cell 0 _ rfl
    have z1 : WA.cell? ⟨w.heap.size + 1, 1, none⟩ = some (.int .i64 an) := HBZ.out.cell 1 _ rfl
    have z2 : WA.cell? ⟨w.heap.size + 1, 2, none⟩ = some (.string ⟨as'.toArray⟩) := HBZ.out.cell 2 _ rfl
    have z3 : WA.cell? ⟨w.heap.size + 1, 3, none⟩ = some (.int .u8 bk) := HBZ.out.cell 3 _ rfl
    have z4 : WA.cell? ⟨w.heap.size + 1, 4, none⟩ = some (.int .i64 bn) := HBZ.out.cell 4 _ rfl
    have z5 : WA.cell? ⟨w.heap.size + 1, 5, none⟩ = some (.string ⟨bs.toArray⟩) := HBZ.out.cell 5 _ rfl
    have z6 : WA.cell? ⟨w.heap.size + 1, 6, none⟩ = some (.int .i64 pn) := HBZ.out.cell 6 _ rfl
    have z7 : WA.cell? ⟨w.heap.size + 1, 7, none⟩ = some (.int .i64 pm) := HBZ.out.cell 7 _ rfl
    go_wp2_with fail
    refine (HE.out _).mono ?_
    rintro e w1 ⟨rfl, hx⟩
    have HX1 := Lib.hid (Ext.trans HXA.out hx)
    have HR1 := Lib.hid (HBR.out.ext hx)
    clear hx a0 a1 a2 a3 a4 a5 z0 z1 z2 z3 z4 z5 z6 z7
    have r0 : w1.cell? ⟨w.heap.size + 1 + 1, 0, none⟩ = some (.bool false) := HR1.out.cell 0 _ rfl
    have f0 : w1.frozen? ⟨w.heap.size + 1 + 1, 0, none⟩ = false := HR1.out.free 0
    have r1 : w1.cell? ⟨w.heap.size + 1 + 1, 1, none⟩ = some (.bool false) := HR1.out.cell 1 _ rfl
    have f1 : w1.frozen? ⟨w.heap.size + 1 + 1, 1, none⟩ = false := HR1.out.free 1
    have r2 : w1.cell? ⟨w.heap.size + 1 + 1, 2, none⟩ = some (.bool false) := HR1.out.cell 2 _ rfl
    have f2 : w1.frozen? ⟨w.heap.size + 1 + 1, 2, none⟩ = false := HR1.out.free 2
    go_wp2_with fail
    refine bodyPost_ret (results_cell_row (P := Tryz.prog) (fn := Tryz.f28) rfl _ _ (w.heap.size + 1 + 1) 32 _ (0, 0) _ rfl (blk_set3 HR1.out _ _ _) Tryz.underlying32 rfl (by kernel_rfl)) rfl ?_
    exact ⟨rfl, ext_set3 HX1.out (by show w.heap.size ≤ w.heap.size + 1 + 1; omega) _ _ _⟩
  · rw [if_neg h5]
    have q5 : (o == (5 : Int)) = false := beq_eq_false_iff_ne.2 h5
    clear h5
    by_cases h6 : o = 6
    · subst h6
      rw [if_pos rfl]
      go_enter Tryz.func28, Tryz.ntmps28
      go_upto_region 1 with fail
      generalize ((w.alloc (.cells #[.int .u8 6, .int .i64 c, .int .i64 kd, .int .u8 vk, .int .i64 vn, .string ⟨vs.toArray⟩] 38)).alloc (.cells #[.int .u8 ak, .int .i64 an, .string ⟨as'.toArray⟩, .int .u8 bk, .int .i64 bn, .string ⟨bs.toArray⟩, .int .i64 pn, .int .i64 pm] 47)).alloc (.cells #[.bool false, .bool false, .bool false] 32) = WA at HBN HBZ HBR HXA ⊢
      have a0 : WA.cell? ⟨w.heap.size, 0, none⟩ = some (.int .u8 6) := HBN.out.cell 0 _ rfl
      have a1 : WA.cell? ⟨w.heap.size, 1, none⟩ = some (.int .i64 c) := HBN.out.cell 1 _ rfl
      have a2 : WA.cell? ⟨w.heap.size, 2, none⟩ = some (.int .i64 kd) := HBN.out.cell 2 _ rfl
      have a3 : WA.cell? ⟨w.heap.size, 3, none⟩ = some (.int .u8 vk) := HBN.out.cell 3 _ rfl
      have a4 : WA.cell? ⟨w.heap.size, 4, none⟩ = some (.int .i64 vn) := HBN.out.cell 4 _ rfl
      have a5 : WA.cell? ⟨w.heap.size, 5, none⟩ = some (.string ⟨vs.toArray⟩) := HBN.out.cell 5 _ rfl
      have z0 : WA.cell? ⟨w.heap.size + 1, 0, none⟩ = some (.int .u8 ak) := HBZ.out.cell 0 _ rfl
      have z1 : WA.cell? ⟨w.heap.size + 1, 1, none⟩ = some (.int .i64 an) := HBZ.out.cell 1 _ rfl
      have z2 : WA.cell? ⟨w.heap.size + 1, 2, none⟩ = some (.string ⟨as'.toArray⟩) := HBZ.out.cell 2 _ rfl
      have z3 : WA.cell? ⟨w.heap.size + 1, 3, none⟩ = some (.int .u8 bk) := HBZ.out.cell 3 _ rfl
      have z4 : WA.cell? ⟨w.heap.size + 1, 4, none⟩ = some (.int .i64 bn) := HBZ.out.cell 4 _ rfl
      have z5 : WA.cell? ⟨w.heap.size + 1, 5, none⟩ = some (.string ⟨bs.toArray⟩) := HBZ.out.cell 5 _ rfl
      have z6 : WA.cell? ⟨w.heap.size + 1, 6, none⟩ = some (.int .i64 pn) := HBZ.out.cell 6 _ rfl
      have z7 : WA.cell? ⟨w.heap.size + 1, 7, none⟩ = some (.int .i64 pm) := HBZ.out.cell 7 _ rfl
      go_wp2_with fail
      refine (HL.out _).mono ?_
      rintro e w1 ⟨rfl, hx⟩
      have HX1 := Lib.hid (Ext.trans HXA.out hx)
      have HR1 := Lib.hid (HBR.out.ext hx)
      clear hx a0 a1 a2 a3 a4 a5 z0 z1 z2 z3 z4 z5 z6 z7
      have r0 : w1.cell? ⟨w.heap.size + 1 + 1, 0, none⟩ = some (.bool false) := HR1.out.cell 0 _ rfl
      have f0 : w1.frozen? ⟨w.heap.size + 1 + 1, 0, none⟩ = false := HR1.out.free 0
      have r1 : w1.cell? ⟨w.heap.size + 1 + 1, 1, none⟩ = some (.bool false) := HR1.out.cell 1 _ rfl
      have f1 : w1.frozen? ⟨w.heap.size + 1 + 1, 1, none⟩ = false := HR1.out.free 1
      have r2 : w1.cell? ⟨w.heap.size + 1 + 1, 2, none⟩ = some (.bool false) := HR1.out.cell 2 _ rfl
      have f2 : w1.frozen? ⟨w.heap.size + 1 + 1, 2, none⟩ = false := HR1.out.free 2
      go_wp2_with fail
      refine bodyPost_ret (results_cell_row (P := Tryz.prog) (fn := Tryz.f28) rfl _ _ (w.heap.size + 1 + 1) 32 _ (0, 0) _ rfl (blk_set3 HR1.out _ _ _) Tryz.underlying32 rfl (by kernel_rfl)) rfl ?_
      exact ⟨rfl, ext_set3 HX1.out (by show w.heap.size ≤ w.heap.size + 1 + 1; omega) _ _ _⟩
    · rw [if_neg h6]
      have q6 : (o == (6 : Int)) = false := beq_eq_false_iff_ne.2 h6
      clear h6
      by_cases h8 : o = 8
      · subst h8
        rw [if_pos rfl]
        go_enter Tryz.func28, Tryz.ntmps28
        go_upto_region 1 with fail
        generalize ((w.alloc (.cells #[.int .u8 8, .int .i64 c, .int .i64 kd, .int .u8 vk, .int .i64 vn, .string ⟨vs.toArray⟩] 38)).alloc (.cells #[.int .u8 ak, .int .i64 an, .string ⟨as'.toArray⟩, .int .u8 bk, .int .i64 bn, .string ⟨bs.toArray⟩, .int .i64 pn, .int .i64 pm] 47)).alloc (.cells #[.bool false, .bool false, .bool false] 32) = WA at HBN HBZ HBR HXA ⊢
        have a0 : WA.cell? ⟨w.heap.size, 0, none⟩ = some (.int .u8 8) := HBN.out.cell 0 _ rfl
        have a1 : WA.cell? ⟨w.heap.size, 1, none⟩ = some (.int .i64 c) := HBN.out.cell 1 _ rfl
        have a2 : WA.cell? ⟨w.heap.size, 2, none⟩ = some (.int .i64 kd) := HBN.out.cell 2 _ rfl
        have a3 : WA.cell? ⟨w.heap.size, 3, none⟩ = some (.int .u8 vk) := HBN.out.cell 3 _ rfl
        have a4 : WA.cell? ⟨w.heap.size, 4, none⟩ = some (.int .i64 vn) := HBN.out.cell 4 _ rfl
        have a5 : WA.cell? ⟨w.heap.size, 5, none⟩ = some (.string ⟨vs.toArray⟩) := HBN.out.cell 5 _ rfl
        have z0 : WA.cell? ⟨w.heap.size + 1, 0, none⟩ = some (.int .u8 ak) := HBZ.out.cell 0 _ rfl
        have z1 : WA.cell? ⟨w.heap.size + 1, 1, none⟩ = some (.int .i64 an) := HBZ.out.cell 1 _ rfl
        have z2 : WA.cell? ⟨w.heap.size + 1, 2, none⟩ = some (.string ⟨as'.toArray⟩) := HBZ.out.cell 2 _ rfl
        have z3 : WA.cell? ⟨w.heap.size + 1, 3, none⟩ = some (.int .u8 bk) := HBZ.out.cell 3 _ rfl
        have z4 : WA.cell? ⟨w.heap.size + 1, 4, none⟩ = some (.int .i64 bn) := HBZ.out.cell 4 _ rfl
        have z5 : WA.cell? ⟨w.heap.size + 1, 5, none⟩ = some (.string ⟨bs.toArray⟩) := HBZ.out.cell 5 _ rfl
        have z6 : WA.cell? ⟨w.heap.size + 1, 6, none⟩ = some (.int .i64 pn) := HBZ.out.cell 6 _ rfl
        have z7 : WA.cell? ⟨w.heap.size + 1, 7, none⟩ = some (.int .i64 pm) := HBZ.out.cell 7 _ rfl
        go_wp2_with fail
        refine (HU.out _).mono ?_
        rintro e w1 ⟨rfl, hx⟩
        have HX1 := Lib.hid (Ext.trans HXA.out hx)
        have HR1 := Lib.hid (HBR.out.ext hx)
        clear hx a0 a1 a2 a3 a4 a5 z0 z1 z2 z3 z4 z5 z6 z7
        have r0 : w1.cell? ⟨w.heap.size + 1 + 1, 0, none⟩ = some (.bool false) := HR1.out.cell 0 _ rfl
        have f0 : w1.frozen? ⟨w.heap.size + 1 + 1, 0, none⟩ = false := HR1.out.free 0
        have r1 : w1.cell? ⟨w.heap.size + 1 + 1, 1, none⟩ = some (.bool false) := HR1.out.cell 1 _ rfl
        have f1 : w1.frozen? ⟨w.heap.size + 1 + 1, 1, none⟩ = false := HR1.out.free 1
        have r2 : w1.cell? ⟨w.heap.size + 1 + 1, 2, none⟩ = some (.bool false) := HR1.out.cell 2 _ rfl
        have f2 : w1.frozen? ⟨w.heap.size + 1 + 1, 2, none⟩ = false := HR1.out.free 2
        go_wp2_with fail
        refine bodyPost_ret (results_cell_row (P := Tryz.prog) (fn := Tryz.f28) rfl _ _ (w.heap.size + 1 + 1) 32 _ (0, 0) _ rfl (blk_set3 HR1.out _ _ _) Tryz.underlying32 rfl (by kernel_rfl)) rfl ?_
        exact ⟨rfl, ext_set3 HX1.out (by show w.heap.size ≤ w.heap.size + 1 + 1; omega) _ _ _⟩
      · rw [if_neg h8]
        have q8 : (o == (8 : Int)) = false := beq_eq_false_iff_ne.2 h8
        clear h8
        go_enter Tryz.func28, Tryz.ntmps28
        go_upto_region 1 with fail
        generalize ((w.alloc (.cells #[.int .u8 o, .int .i64 c, .int .i64 kd, .int .u8 vk, .int .i64 vn, .string ⟨vs.toArray⟩] 38)).alloc (.cells #[.int .u8 ak, .int .i64 an, .string ⟨as'.toArray⟩, .int .u8 bk, .int .i64 bn, .string ⟨bs.toArray⟩, .int .i64 pn, .int .i64 pm] 47)).alloc (.cells #[.bool false, .bool false, .bool false] 32) = WA at HBN HBZ HBR HXA ⊢
        have a0 : WA.cell? ⟨w.heap.size, 0, none⟩ = some (.int .u8 o) := HBN.out.cell 0 _ rfl
        have a1 : WA.cell? ⟨w.heap.size, 1, none⟩ = some (.int .i64 c) := HBN.out.cell 1 _ rfl
        have a2 : WA.cell? ⟨w.heap.size, 2, none⟩ = some (.int .i64 kd) := HBN.out.cell 2 _ rfl
        have a3 : WA.cell? ⟨w.heap.size, 3, none⟩ = some (.int .u8 vk) := HBN.out.cell 3 _ rfl
        have a4 : WA.cell? ⟨w.heap.size, 4, none⟩ = some (.int .i64 vn) := HBN.out.cell 4 _ rfl
        have a5 : WA.cell? ⟨w.heap.size, 5, none⟩ = some (.string ⟨vs.toArray⟩) := HBN.out.cell 5 _ rfl
        have z0 : WA.cell? ⟨w.heap.size + 1, 0, none⟩ = some (.int .u8 ak) := HBZ.out.cell 0 _ rfl
        have z1 : WA.cell? ⟨w.heap.size + 1, 1, none⟩ = some (.int .i64 an) := HBZ.out.cell 1 _ rfl
        have z2 : WA.cell? ⟨w.heap.size + 1, 2, none⟩ = some (.string ⟨as'.toArray⟩) := HBZ.out.cell 2 _ rfl
        have z3 : WA.cell? ⟨w.heap.size + 1, 3, none⟩ = some (.int .u8 bk) := HBZ.out.cell 3 _ rfl
        have z4 : WA.cell? ⟨w.heap.size + 1, 4, none⟩ = some (.int .i64 bn) := HBZ.out.cell 4 _ rfl
        have z5 : WA.cell? ⟨w.heap.size + 1, 5, none⟩ = some (.string ⟨bs.toArray⟩) := HBZ.out.cell 5 _ rfl
        have z6 : WA.cell? ⟨w.heap.size + 1, 6, none⟩ = some (.int .i64 pn) := HBZ.out.cell 6 _ rfl
        have z7 : WA.cell? ⟨w.heap.size + 1, 7, none⟩ = some (.int .i64 pm) := HBZ.out.cell 7 _ rfl
        go_wp2_with fail
        refine (HK.out _ HXA.out).mono ?_
        rintro e w1 ⟨rfl, hx⟩
        have HX1 := Lib.hid (Ext.trans HXA.out hx)
        have HR1 := Lib.hid (HBR.out.ext hx)
        clear hx a0 a1 a2 a3 a4 a5 z0 z1 z2 z3 z4 z5 z6 z7
        have r0 : w1.cell? ⟨w.heap.size + 1 + 1, 0, none⟩ = some (.bool false) := HR1.out.cell 0 _ rfl
        have f0 : w1.frozen? ⟨w.heap.size + 1 + 1, 0, none⟩ = false := HR1.out.free 0
        have r1 : w1.cell? ⟨w.heap.size + 1 + 1, 1, none⟩ = some (.bool false) := HR1.out.cell 1 _ rfl
        have f1 : w1.frozen? ⟨w.heap.size + 1 + 1, 1, none⟩ = false := HR1.out.free 1
        have r2 : w1.cell? ⟨w.heap.size + 1 + 1, 2, none⟩ = some (.bool false) := HR1.out.cell 2 _ rfl
        have f2 : w1.frozen? ⟨w.heap.size + 1 + 1, 2, none⟩ = false := HR1.out.free 2
        go_wp2_with fail
        refine bodyPost_ret (results_cell_row (P := Tryz.prog) (fn := Tryz.f28) rfl _ _ (w.heap.size + 1 + 1) 32 _ (0, 0) _ rfl (blk_set3 HR1.out _ _ _) Tryz.underlying32 rfl (by kernel_rfl)) rfl ?_
        exact ⟨rfl, ext_set3 HX1.out (by show w.heap.size ≤ w.heap.size + 1 + 1; omega) _ _ _⟩

end Go.Proofs.YtfnmcdjfdhdlmaaGreatDoor
