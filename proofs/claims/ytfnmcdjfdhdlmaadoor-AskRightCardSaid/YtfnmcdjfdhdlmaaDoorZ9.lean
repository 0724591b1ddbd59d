/-
  Texts of this proof, merged: LikeParts0, LikeRef2, AskRef1, AskRef2.
-/
import Derived.Test.YtfnmcdjfdhdlmaaDoorZ8
import Derived.Test.YtfnmcdjfdhdlmaaDoorZ3
import Derived.Test.YtfnmcdjfdhdlmaaDoorZ4
import Derived.Test.YtfnmcdjfdhdlmaaDoorZ7
/-
  The contract of the document's own Parts.
-/
namespace Go.Proofs.YtfnmcdjfdhdlmaaDoor
open Go.RowKit

/-- An element's cells. -/
def elC : El → List Value
  | .any => [.bool true, .bool false, .string ByteArray.empty]
  | .one => [.bool false, .bool true, .string ByteArray.empty]
  | .lit c => [.bool false, .bool false, sv c]
theorem elC_oneCell (e : El) : ∀ u ∈ elC e, u.oneCell' = true := by
  intro u hu
  cases e <;> simp only [elC, List.mem_cons, List.not_mem_nil, or_false] at hu <;> rcases hu with rfl | rfl | rfl <;> rfl

theorem Tryd.info_part : (Tryd.prog.info? 101).map (fun i => (i.zero, i.size, i.bytes)) = some (some (.agg #[.bool false, .bool false, .string ByteArray.empty]), 3, 24) := by kernel_rfl

/-- A call that tells a pattern's elements. -/
def RParts (w : World) (l : List UInt8) (e : Ending) (w' : World) : Prop :=
  ((∃ ps v, elsOf l = some ps ∧ e = .returned (.tuple #[v, .bool true]) ∧ w'.ownsRow w.heap.size 101 3 v ps.length (ps.flatMap elC)) ∨
   (elsOf l = none ∧ e = .returned (.tuple #[.slice none 0 0, .bool false]))) ∧ Ext w w'

theorem flat_len (ps : List El) : (ps.flatMap elC).length = ps.length * 3 := by
  induction ps with
  | nil => rfl
  | cons e t ih =>
    rw [List.flatMap_cons, List.length_append, ih, List.length_cons, show (elC e).length = 3 by cases e <;> rfl]
    omega

/-- append(out, x) of an element. -/
theorem wpList_append_el {ops : Array Oper} {rest : List Oper} {o : Oper} {a : Act} {Q : Exit → Act → World → Prop} {w : World} (hgd : o.guard = none) (s x : Operand)
    (ho : o.op = .call { callee := .builtin .append, args := #[s, x], argTypes := #[79, 79] })
    (base : Nat) (v : Value) (ps : List El) (A : Obj) (e : El) (hs : a.eval s = v) (hown : w.ownsRow base 101 3 v ps.length (ps.flatMap elC))
    (hx : a.eval x = .slice (some ⟨w.heap.size + 1, 0, none⟩) 1 1) (hp : ps.length ≤ 5000) (hbase : base ≤ w.heap.size)
    (h : ∀ v' w', w'.ownsRow base 101 3 v' (ps ++ [e]).length ((ps ++ [e]).flatMap elC) → Below base w w' → wpList Tryd.prog ops Q rest (a.put o.dst v') w') :
    wpList Tryd.prog ops Q (o :: rest) a ((w.alloc A).alloc (.cells (elC e).toArray 101)) := by
  obtain ⟨i0, hi, hz0, hz1, hz2⟩ := info_parts Tryd.info_part
  have hsz : (w.alloc A).heap.size = w.heap.size + 1 := by simp
  have hc := cells_new (w.alloc A) (elC e) 101
  rw [hsz] at hc
  refine wpList_append_own _ hgd s x 79 ho base 101 i0 _ 3 24 Tryd.underlying79 hi hz0 hz1 hz2 rfl (by decide) v ps.length _ hs ((hown.alloc _).alloc _) ⟨w.heap.size + 1, 0, none⟩ 1 1 (elC e) hx (by cases e <;> rfl) hc (elC_oneCell e) (by unfold maxLen; omega) (by omega) (by simp; omega) fun v' w' h1 h2 _ => h v' w' ?_ ?_
  · rw [List.length_append, List.flatMap_append]
    simpa using h1
  · exact ((((Below.refl base w).alloc hbase _).alloc (by simp; omega) _).grown h2 (by simp; omega) (fun b hb => (hown.lt b hb).1))

set_option maxRecDepth 100000 in
set_option maxHeartbeats 1000000 in
theorem refParts_any (l : List UInt8) (w : World) (hT : Tabs w) (hl : l.length ≤ 5000) :
    Calls Tryd.prog 62 #[sv l] w (RParts w l) := by
  obtain ⟨i0, hi, hz0, hz1, hz2⟩ := info_parts Tryd.info_part
  have HL := Lib.hid hl
  have HLT := Lib.hid (refLetters_any l w hT hl)
  have HLL := Lib.hid (lets_length l)
  obtain ⟨ls, hls⟩ : ∃ ls, ls = lets l := ⟨_, rfl⟩
  have HLS := Lib.hid hls
  rw [← hls] at HLT HLL
  clear hT hl hls
  unfold sv at HLT ⊢
  go_enter Tryd.func62, Tryd.ntmps62
  go_wp2_with fail
  refine HLT.out.mono ?_
  rintro e w1 ⟨lv, rfl, ho1, hb1⟩
  rw [List.length_map] at ho1
  have HO1 := Lib.hid ho1
  have HB1 := Lib.hid hb1
  obtain ⟨ao, cp, rfl, hc1, hc2, hca⟩ := RdV.cellsAt (RdV.of_owns ho1)
  rw [List.length_map] at hc1
  simp only [List.length_map] at *
  unfold maxLen at hc2
  have HCA := Lib.hid hca
  clear ho1 hb1 hca
  generalize hN : ls.length = N at *
  have HN := Lib.hid hN
  clear hN
  go_wp2_with fail
  go_loopw [5, 6] (fun v i wr => ∃ (j : Nat) (ps : List El), j ≤ N ∧ i = .int .i64 j ∧ els ls = (els (ls.drop j)).map (ps ++ ·) ∧ ps.length ≤ j ∧ wr.ownsRow w1.heap.size 101 3 v ps.length (ps.flatMap elC) ∧ Below w1.heap.size w1 wr) (fun _ i _ => N - (intOf i).toNat)
  case atStart => exact ⟨0, [], Nat.zero_le _, rfl, by simp, Nat.le_refl _, World.ownsRow_nil _ _ _ _, Below.refl _ _⟩
  case round =>
    obtain ⟨j, ps, hj, rfl, hels, hpl, hown, hbel⟩ := hrel
    have HELS := Lib.hid hels
    have HOWN := Lib.hid hown
    have HBEL := Lib.hid hbel
    clear hels hown hbel
    by_cases hlt : j < N
    · have hjl : j < ls.length := by have := HN.out; omega
      obtain ⟨x, rfl, hc⟩ := HCA.out j (sv ls[j]) (by rw [List.getElem?_map, List.getElem?_eq_getElem hjl]; rfl)
      obtain ⟨g, rfl, _, hg⟩ := own_addr HO1.out
      rw [add_at, Nat.zero_add] at hc
      have hgr : g < wr.heap.size := by have := HBEL.out.size; omega
      have hcell : wr.cell? ⟨g, j, none⟩ = some (sv ls[j]) := by rw [HBEL.out.cell (lt_of_cell hc)]; exact hc
      have HDR := Lib.hid (List.drop_eq_getElem_cons hjl)
      generalize ls[j] = c at hcell HDR
      unfold sv at hcell
      clear hc
      have hp5 : ps.length ≤ 5000 := by have := HLL.out; have := HL.out; omega
      have hsz := HBEL.out.size
      by_cases h37 : c = [37]
      · subst h37
        have HE := Lib.hid (els_any (ls.drop (j + 1)))
        go_wp2_with (at_builtin; go_loud (refine wpList_append_el (w := wr) rfl (.tmp 50) (.tmp 52) rfl w1.heap.size _ ps _ .any rfl HOWN.out rfl hp5 hsz ?_); intro v3 w3 hown3 hb3; have HO3 := Lib.hid hown3; have HB3 := Lib.hid hb3; clear hown3 hb3)
        go_roundw
        case rel => exact ⟨j + 1, ps ++ [.any], by omega, by go_num, by rw [HELS.out, HDR.out, HE.out, Option.map_map]; congr 1; funext q; simp, by simp; omega, HO3.out, HBEL.out.trans HB3.out⟩
        case measure => simp [intOf]; omega
      · by_cases h95 : c = [95]
        · subst h95
          have HE := Lib.hid (els_one (ls.drop (j + 1)))
          clear h37
          go_wp2_with (at_builtin; go_loud (refine wpList_append_el (w := wr) rfl (.tmp 50) (.tmp 52) rfl w1.heap.size _ ps _ .one rfl HOWN.out rfl hp5 hsz ?_); intro v3 w3 hown3 hb3; have HO3 := Lib.hid hown3; have HB3 := Lib.hid hb3; clear hown3 hb3)
          go_roundw
          case rel => exact ⟨j + 1, ps ++ [.one], by omega, by go_num, by rw [HELS.out, HDR.out, HE.out, Option.map_map]; congr 1; funext q; simp, by simp; omega, HO3.out, HBEL.out.trans HB3.out⟩
          case measure => simp [intOf]; omega
        · by_cases h92 : c = [92]
          · subst h92
            clear h37 h95
            by_cases hlt2 : j + 1 < N
            · have hjl2 : j + 1 < ls.length := by have := HN.out; omega
              obtain ⟨x2, hx2, hc2'⟩ := HCA.out (j + 1) (sv ls[j + 1]) (by rw [List.getElem?_map, List.getElem?_eq_getElem hjl2]; rfl)
              cases hx2
              rw [add_at, Nat.zero_add] at hc2'
              have hcell2 : wr.cell? ⟨g, j + 1, none⟩ = some (sv ls[j + 1]) := by rw [HBEL.out.cell (lt_of_cell hc2')]; exact hc2'
              have HDR2 := Lib.hid (List.drop_eq_getElem_cons hjl2)
              generalize ls[j + 1] = d at hcell2 HDR2
              have HE := Lib.hid (els_back d (ls.drop (j + 1 + 1)))
              unfold sv at hcell2
              have hne : (((j : Int) + 1) == (N : Int)) = false := by rw [beq_eq_false_iff_ne]; omega
              clear hc2'
              go_wp2_with (at_builtin; go_loud (refine wpList_append_el (w := wr) rfl (.tmp 50) (.tmp 52) rfl w1.heap.size _ ps _ (.lit d) rfl HOWN.out rfl hp5 hsz ?_); intro v3 w3 hown3 hb3; have HO3 := Lib.hid hown3; have HB3 := Lib.hid hb3; clear hown3 hb3)
              go_roundw
              case rel => exact ⟨j + 1 + 1, ps ++ [.lit d], by omega, by go_num, by rw [HELS.out, HDR.out, HDR2.out, HE.out, Option.map_map]; congr 1; funext q; simp, by simp; omega, HO3.out, HBEL.out.trans HB3.out⟩
              case measure => simp [intOf]; omega
            · have hjN : N = j + 1 := by omega
              have HNO := Lib.hid (show els ls = none by
                rw [HELS.out, HDR.out, List.drop_eq_nil_of_le (by have := HN.out; omega)]
                rfl)
              subst hjN
              go_wp2_with fail
              go_ret2
              exact ⟨.inr ⟨by unfold elsOf; rw [← HLS.out]; exact HNO.out, rfl⟩, (HB1.out.trans (HBEL.out.mono HB1.out.size)).alloc (by have := HB1.out.size; omega) _⟩
          · have HE := Lib.hid (els_lit c (ls.drop (j + 1)) (by rw [← Bool.not_eq_true, special_iff]; rintro (h | h | h) <;> contradiction))
            have q37 : (c == [37]) = false := beq_eq_false_iff_ne.2 h37
            have q95 : (c == [95]) = false := beq_eq_false_iff_ne.2 h95
            have q92 : (c == [92]) = false := beq_eq_false_iff_ne.2 h92
            clear h37 h95 h92
            go_wp2_with (at_builtin; go_loud (refine wpList_append_el (w := wr) rfl (.tmp 50) (.tmp 52) rfl w1.heap.size _ ps _ (.lit c) rfl HOWN.out rfl hp5 hsz ?_); intro v3 w3 hown3 hb3; have HO3 := Lib.hid hown3; have HB3 := Lib.hid hb3; clear hown3 hb3)
            go_roundw
            case rel => exact ⟨j + 1, ps ++ [.lit c], by omega, by go_num, by rw [HELS.out, HDR.out, HE.out, Option.map_map]; congr 1; funext q; simp, by simp; omega, HO3.out, HBEL.out.trans HB3.out⟩
            case measure => simp [intOf]; omega
    · have hjN : j = N := by omega
      subst hjN
      have HSO := Lib.hid (show els ls = some ps by
        rw [HELS.out, List.drop_eq_nil_of_le (by have := HN.out; omega)]
        simp [els])
      go_wp2_with fail
      go_ret2
      exact ⟨.inl ⟨ps, _, by unfold elsOf; rw [← HLS.out]; exact HSO.out, rfl, owns_baseK HOWN.out HB1.out.size⟩, HB1.out.trans (HBEL.out.mono HB1.out.size)⟩

end Go.Proofs.YtfnmcdjfdhdlmaaDoor

/-
  The contracts of the document's own Check, Quote, Fixed.
-/
namespace Go.Proofs.YtfnmcdjfdhdlmaaDoor
open Go.RowKit

set_option maxRecDepth 100000 in
set_option maxHeartbeats 400000 in
theorem refCheck_any (l : List UInt8) (w : World) (hT : Tabs w) (hl : l.length ≤ 5000) :
    Calls Tryd.prog 42 #[sv l] w fun e w' => e = .returned (.int .i64 (errN l)) ∧ Ext w w' := by
  have HP := Lib.hid (refParts_any l w hT hl)
  generalize hE : errN l = E
  have HE := Lib.hid hE
  clear hT hl hE
  unfold sv at HP ⊢
  go_enter Tryd.func42, Tryd.ntmps42
  go_wp2_with fail
  refine HP.out.mono ?_
  rintro e w1 ⟨⟨ps, v, h, rfl, _⟩ | ⟨h, rfl⟩, hb⟩
  · have H := Lib.hid h
    have HB := Lib.hid hb
    clear h hb
    go_wp2_with fail
    go_ret
    exact ⟨by rw [← HE.out, errN_some H.out]; rfl, HB.out⟩
  · have H := Lib.hid h
    have HB := Lib.hid hb
    clear h hb
    go_wp2_with fail
    go_ret
    exact ⟨by rw [← HE.out, errN_none H.out]; rfl, HB.out⟩

end Go.Proofs.YtfnmcdjfdhdlmaaDoor

/-
  The contracts of the document's own conditions: which may be.
-/
namespace Go.Proofs.YtfnmcdjfdhdlmaaDoor
open Go.RowKit Go.BigFrame

theorem one_23 {ok : List UInt8 → Bool} {K : List Int} {o c kd : Int} {v : V} (h : o = 2 ∨ o = 3) : oneN ok K ⟨o, c, kd, v⟩ ↔ (1 ≤ kd ∧ kd ≤ 40) ∧ c = 0 ∧ v = V.zero := by
  unfold oneN colN
  simp only
  rw [if_pos h, if_neg (by simp; omega), if_neg (by omega), if_neg (by omega)]
  exact ⟨fun h => h.2, fun h' => ⟨by omega, h'⟩⟩
theorem one_14 {ok : List UInt8 → Bool} {K : List Int} {o c kd : Int} {v : V} (h : o = 1 ∨ o = 4) : oneN ok K ⟨o, c, kd, v⟩ ↔ kd = 0 ∧ c = 0 ∧ v = V.zero := by
  unfold oneN colN
  simp only
  rw [if_neg (by omega), if_neg (by simp; omega), if_neg (by omega), if_neg (by omega)]
  exact ⟨fun h => h.2, fun h' => ⟨by omega, h'⟩⟩
theorem one_56 {ok : List UInt8 → Bool} {K : List Int} {o c kd : Int} {v : V} (h : o = 5 ∨ o = 6) : oneN ok K ⟨o, c, kd, v⟩ ↔ kd = 0 ∧ (0 ≤ c ∧ c < K.length) ∧ rightV v = true ∧ v.k = (K[c.toNat]?).getD 0 := by
  unfold oneN colN
  simp only
  rw [if_neg (by omega), if_pos (by simp; omega), if_pos h]
  exact ⟨fun h => h.2, fun h' => ⟨by omega, h'⟩⟩
theorem one_7 {ok : List UInt8 → Bool} {K : List Int} {c kd : Int} {v : V} : oneN ok K ⟨7, c, kd, v⟩ ↔ kd = 0 ∧ (0 ≤ c ∧ c < K.length) ∧ rightV v = true ∧ v.k = 3 ∧ (K[c.toNat]?).getD 0 = 3 ∧ ok v.s = true := by
  unfold oneN colN
  simp only
  rw [if_neg (by omega), if_pos (by simp), if_neg (by omega), if_pos trivial]
  exact ⟨fun h => h.2, fun h' => ⟨by omega, h'⟩⟩
theorem one_8 {ok : List UInt8 → Bool} {K : List Int} {c kd : Int} {v : V} : oneN ok K ⟨8, c, kd, v⟩ ↔ kd = 0 ∧ (0 ≤ c ∧ c < K.length) ∧ v = V.zero := by
  unfold oneN colN
  simp only
  rw [if_neg (by omega), if_pos (by simp), if_neg (by omega), if_neg (by omega)]
  exact ⟨fun h => h.2, fun h' => ⟨by omega, h'⟩⟩
theorem one_no {ok : List UInt8 → Bool} {K : List Int} {o c kd : Int} {v : V} (h : o < 1 ∨ 8 < o) : ¬ oneN ok K ⟨o, c, kd, v⟩ := fun h' => by
  have := h'.1
  simp only at this
  omega

set_option maxRecDepth 100000 in
theorem refColumn_any (o : Int) (w : World) : Calls Tryd.prog 25 #[.int .u8 o] w fun e w' => e = .returned (.bool (decide (5 ≤ o ∧ o ≤ 8))) ∧ w = w' := by
  by_cases h : 5 ≤ o ∧ o ≤ 8
  · rw [decide_eq_true h]
    have h' : o = 5 ∨ o = 6 ∨ o = 7 ∨ o = 8 := by omega
    clear h
    rcases h' with rfl | rfl | rfl | rfl <;> (
      go_enter Tryd.func25, Tryd.ntmps25
      go_wp2_with fail
      go_ret
      exact ⟨rfl, rfl⟩)
  · rw [decide_eq_false h]
    have q5 : (o == (5 : Int)) = false := beq_eq_false_iff_ne.2 (by omega)
    have q6 : (o == (6 : Int)) = false := beq_eq_false_iff_ne.2 (by omega)
    have q7 : (o == (7 : Int)) = false := beq_eq_false_iff_ne.2 (by omega)
    have q8 : (o == (8 : Int)) = false := beq_eq_false_iff_ne.2 (by omega)
    clear h
    go_enter Tryd.func25, Tryd.ntmps25
    go_wp2_with fail
    go_ret
    exact ⟨rfl, rfl⟩

set_option maxRecDepth 100000 in
set_option maxHeartbeats 8000000 in
theorem refOne_any (u : Value) (K : List Int) (n : Nd) (w : World) (hu : RdV w u (K.map (Value.int .u8))) (_hK : K.length ≤ 1000000) (hT : Tabs w) (hv : n.v.fits) (hl : n.v.s.length ≤ 5000) :
    Calls Tryd.prog 20 #[u, n.val] w fun e w' => e = .returned (.bool (decide (oneN okP K n))) ∧ Ext w w' := by
  have HR := Lib.hid (fun W => refRight_any n.v hv (by omega) W)
  have HCK := Lib.hid (fun W (h : Ext w W) => refCheck_any n.v.s W (hT.mono h) hl)
  obtain ⟨ao, ca, rfl, h1, h2, hca⟩ := RdV.cellsAt hu
  rw [List.length_map] at *
  have HC := Lib.hid hca
  obtain ⟨N, hN⟩ : ∃ N, K.length = N := ⟨_, rfl⟩
  have HN := Lib.hid hN
  rw [hN] at h1 ⊢
  unfold maxLen at h2
  obtain ⟨o, c, kd, ⟨vk, vn, vs⟩⟩ := n
  simp only at HR HCK
  rw [errN_ok] at HCK
  have HB := Lib.hid (Blk.ext (Blk.new w [.int .u8 o, .int .i64 c, .int .i64 kd, .int .u8 vk, .int .i64 vn, .string ⟨vs.toArray⟩] 41) (ext_new _ (.cells #[.int .u8 0, .int .i64 0, .string ⟨#[]⟩] 39)))
  have HX := Lib.hid (ext_new w (.cells #[.int .u8 o, .int .i64 c, .int .i64 kd, .int .u8 vk, .int .i64 vn, .string ⟨vs.toArray⟩] 41))
  have HX2 := Lib.hid (Ext.trans HX.out (ext_new _ (.cells #[.int .u8 0, .int .i64 0, .string ⟨#[]⟩] 39)))
  have HCT := Lib.hid (fun W => refColumn_any 5 W)
  unfold Nd.val V.val at *
  simp only at HR HCK ⊢
  have hq : ∀ W, (binOp .eql 39 (.agg #[.int .u8 vk, .int .i64 vn, .string ⟨vs.toArray⟩]) (.agg #[.int .u8 0, .int .i64 0, .string ⟨#[]⟩])).run Tryd.prog W = .ok (.bool (decide ((⟨vk, vn, vs⟩ : V) = V.zero))) W := fun W => eq_val ⟨vk, vn, vs⟩ V.zero W
  generalize hz : decide ((⟨vk, vn, vs⟩ : V) = V.zero) = zb at hq
  have HZ := Lib.hid hz
  clear hu hca hN hv hl hT hz
  by_cases hlo : o < 1
  · have HQ := Lib.hid (show decide (oneN okP K ⟨o, c, kd, ⟨vk, vn, vs⟩⟩) = false from decide_eq_false (one_no (.inl hlo)))
    have d : decide (o < (1 : Int)) = true := decide_eq_true hlo
    clear hlo
    go_enter Tryd.func20, Tryd.ntmps20
    go_wp2_with fail
    go_ret
    exact ⟨by rw [HQ.out]; rfl, HX.out⟩
  by_cases hhi : 8 < o
  · have HQ := Lib.hid (show decide (oneN okP K ⟨o, c, kd, ⟨vk, vn, vs⟩⟩) = false from decide_eq_false (one_no (.inr hhi)))
    have d : decide (o < (1 : Int)) = false := decide_eq_false hlo
    have d' : decide ((8 : Int) < o) = true := decide_eq_true hhi
    clear hlo hhi
    go_enter Tryd.func20, Tryd.ntmps20
    go_wp2_with fail
    go_ret
    exact ⟨by rw [HQ.out]; rfl, HX.out⟩
  have ho : (o = 2 ∨ o = 3) ∨ (o = 1 ∨ o = 4) ∨ (o = 5 ∨ o = 6) ∨ o = 7 ∨ o = 8 := by omega
  clear hlo hhi
  rcases ho with ho | ho | ho | rfl | rfl
  · have HQ0 := Lib.hid (one_23 (ok := okP) (K := K) (c := c) (kd := kd) (v := ⟨vk, vn, vs⟩) ho)
    by_cases k1 : kd < 1
    · have HQ := Lib.hid (show decide (oneN okP K ⟨o, c, kd, ⟨vk, vn, vs⟩⟩) = false from decide_eq_false (fun h => by have := (HQ0.out.1 h).1; omega))
      have d : decide (kd < (1 : Int)) = true := decide_eq_true k1
      clear k1 HQ0
      rcases ho with rfl | rfl <;> (
        go_enter Tryd.func20, Tryd.ntmps20
        go_wp2_with fail
        go_ret
        exact ⟨by rw [HQ.out]; rfl, HX.out⟩)
    · have d : decide (kd < (1 : Int)) = false := decide_eq_false k1
      by_cases k2 : 40 < kd
      · have HQ := Lib.hid (show decide (oneN okP K ⟨o, c, kd, ⟨vk, vn, vs⟩⟩) = false from decide_eq_false (fun h => by have := (HQ0.out.1 h).1; omega))
        have d2 : decide ((40 : Int) < kd) = true := decide_eq_true k2
        clear k1 k2 HQ0
        rcases ho with rfl | rfl <;> (
          go_enter Tryd.func20, Tryd.ntmps20
          go_wp2_with fail
          go_ret
          exact ⟨by rw [HQ.out]; rfl, HX.out⟩)
      · have d2 : decide ((40 : Int) < kd) = false := decide_eq_false k2
        by_cases hc : c = 0
        · subst hc
          have HQ := Lib.hid (show decide (oneN okP K ⟨o, 0, kd, ⟨vk, vn, vs⟩⟩) = zb by rw [← HZ.out]; exact decide_eq_decide.2 ⟨fun h => (HQ0.out.1 h).2.2, fun h => HQ0.out.2 ⟨by omega, rfl, h⟩⟩)
          clear k1 k2 HQ0
          rcases ho with rfl | rfl <;> (
            go_enter Tryd.func20, Tryd.ntmps20
            go_wp2_with fail
            refine (refColumn_any _ _).mono ?_
            rintro e W' ⟨rfl, rfl⟩
            go_wp2_with fail
            refine (refColumn_any _ _).mono ?_
            rintro e W' ⟨rfl, rfl⟩
            go_wp2_with fail
            go_ret
            exact ⟨by rw [HQ.out]; rfl, HX2.out⟩)
        · have HQ := Lib.hid (show decide (oneN okP K ⟨o, c, kd, ⟨vk, vn, vs⟩⟩) = false from decide_eq_false (fun h => hc (HQ0.out.1 h).2.1))
          have qc : (c != (0 : Int)) = true := bne_iff_ne.2 hc
          clear k1 k2 hc HQ0
          rcases ho with rfl | rfl <;> (
            go_enter Tryd.func20, Tryd.ntmps20
            go_wp2_with fail
            refine (refColumn_any _ _).mono ?_
            rintro e W' ⟨rfl, rfl⟩
            go_wp2_with fail
            refine (refColumn_any _ _).mono ?_
            rintro e W' ⟨rfl, rfl⟩
            go_wp2_with fail
            go_ret
            exact ⟨by rw [HQ.out]; rfl, HX.out⟩)
  · have HQ0 := Lib.hid (one_14 (ok := okP) (K := K) (c := c) (kd := kd) (v := ⟨vk, vn, vs⟩) ho)
    by_cases hk : kd = 0
    · subst hk
      by_cases hc : c = 0
      · subst hc
        have HQ := Lib.hid (show decide (oneN okP K ⟨o, 0, 0, ⟨vk, vn, vs⟩⟩) = zb by rw [← HZ.out]; exact decide_eq_decide.2 ⟨fun h => (HQ0.out.1 h).2.2, fun h => HQ0.out.2 ⟨rfl, rfl, h⟩⟩)
        clear HQ0
        rcases ho with rfl | rfl <;> (
          go_enter Tryd.func20, Tryd.ntmps20
          go_wp2_with fail
          refine (refColumn_any _ _).mono ?_
          rintro e W' ⟨rfl, rfl⟩
          go_wp2_with fail
          refine (refColumn_any _ _).mono ?_
          rintro e W' ⟨rfl, rfl⟩
          go_wp2_with fail
          go_ret
          exact ⟨by rw [HQ.out]; rfl, HX2.out⟩)
      · have HQ := Lib.hid (show decide (oneN okP K ⟨o, c, 0, ⟨vk, vn, vs⟩⟩) = false from decide_eq_false (fun h => hc (HQ0.out.1 h).2.1))
        have qc : (c != (0 : Int)) = true := bne_iff_ne.2 hc
        clear hc HQ0
        rcases ho with rfl | rfl <;> (
          go_enter Tryd.func20, Tryd.ntmps20
          go_wp2_with fail
          refine (refColumn_any _ _).mono ?_
          rintro e W' ⟨rfl, rfl⟩
          go_wp2_with fail
          refine (refColumn_any _ _).mono ?_
          rintro e W' ⟨rfl, rfl⟩
          go_wp2_with fail
          go_ret
          exact ⟨by rw [HQ.out]; rfl, HX.out⟩)
    · have HQ := Lib.hid (show decide (oneN okP K ⟨o, c, kd, ⟨vk, vn, vs⟩⟩) = false from decide_eq_false (fun h => hk (HQ0.out.1 h).1))
      have qk : (kd != (0 : Int)) = true := bne_iff_ne.2 hk
      clear hk HQ0
      rcases ho with rfl | rfl <;> (
        go_enter Tryd.func20, Tryd.ntmps20
        go_wp2_with fail
        go_ret
        exact ⟨by rw [HQ.out]; rfl, HX.out⟩)
  · have HQ0 := Lib.hid (one_56 (ok := okP) (K := K) (c := c) (kd := kd) (v := ⟨vk, vn, vs⟩) ho)
    by_cases hk : kd = 0
    · subst hk
      by_cases hc0 : c < 0
      · have HQ := Lib.hid (show decide (oneN okP K ⟨o, c, 0, ⟨vk, vn, vs⟩⟩) = false from decide_eq_false (fun h => by have := (HQ0.out.1 h).2.1; omega))
        have d0 : decide (c < (0 : Int)) = true := decide_eq_true hc0
        clear hc0 HQ0
        rcases ho with rfl | rfl <;> (
          go_enter Tryd.func20, Tryd.ntmps20
          go_wp2_with fail
          refine (refColumn_any _ _).mono ?_
          rintro e W' ⟨rfl, rfl⟩
          go_wp2_with fail
          go_ret
          exact ⟨by rw [HQ.out]; rfl, HX.out⟩)
      · obtain ⟨j, rfl⟩ := Int.eq_ofNat_of_zero_le (show 0 ≤ c by omega)
        have d0 : decide ((j : Int) < (0 : Int)) = false := decide_eq_false hc0
        by_cases hc1 : j < N
        · have d1 : decide (N ≤ j) = false := decide_eq_false (by omega)
          have d1' : decide ((N : Int) ≤ (j : Int)) = false := decide_eq_false (by omega)
          have hjK : j < K.length := by have := HN.out; omega
          obtain ⟨x, rfl, hcx⟩ := HC.out j (.int .u8 K[j]) (by rw [List.getElem?_map, List.getElem?_eq_getElem hjK]; rfl)
          have HCX := Lib.hid ((HX2.out.cell (lt_of_cell hcx)).trans hcx)
          have HQ1 := Lib.hid (show (K[(j : Int).toNat]?).getD 0 = K[j] by rw [Int.toNat_natCast, List.getElem?_eq_getElem hjK]; rfl)
          have HJR := Lib.hid (show (0 : Int) ≤ (j : Int) ∧ (j : Int) < (K.length : Int) by omega)
          generalize K[j] = y at HCX HQ1
          clear hcx hc0 hjK
          have HQ := Lib.hid (show decide (oneN okP K ⟨o, j, 0, ⟨vk, vn, vs⟩⟩) = (rightV ⟨vk, vn, vs⟩ && decide (vk = y)) by
            have e : oneN okP K ⟨o, j, 0, ⟨vk, vn, vs⟩⟩ ↔ (rightV ⟨vk, vn, vs⟩ = true ∧ vk = y) := ⟨fun h => by have h' := (HQ0.out.1 h).2.2; rw [HQ1.out] at h'; exact h', fun h => HQ0.out.2 ⟨rfl, HJR.out, by rw [HQ1.out]; exact h⟩⟩
            rw [decide_eq_decide.2 e, Bool.decide_and, Bool.decide_eq_true])
          generalize rightV ⟨vk, vn, vs⟩ = rv at HR HQ
          have hqk : ∀ b, decide (vk = y) = b → (vk == y) = b := fun b h => by rw [← h]; rfl
          obtain ⟨b, hb⟩ : ∃ b, decide (vk = y) = b := ⟨_, rfl⟩
          have qb := hqk b hb
          rw [hb] at HQ
          clear hb hqk HQ0 HQ1
          rcases ho with rfl | rfl
          · go_enter Tryd.func20, Tryd.ntmps20
            go_wp2_with fail
            refine (refColumn_any _ _).mono ?_
            rintro e W' ⟨rfl, rfl⟩
            go_wp2_with fail
            refine (refColumn_any _ _).mono ?_
            rintro e W' ⟨rfl, rfl⟩
            go_wp2_with fail
            generalize hW2 : ((w.alloc (.cells #[.int .u8 5, .int .i64 (j : Int), .int .i64 0, .int .u8 vk, .int .i64 vn, .string ⟨vs.toArray⟩] 41)).alloc (.cells #[.int .u8 0, .int .i64 0, .string ⟨#[]⟩] 39)) = W2 at HB HX2 HCX ⊢
            clear hW2
            refine wp_region_segs Ext Ext.keeps [([0, 1], some 2), ([3, 4, 5, 6, 7, 8, 9, 10, 11, 12, 13, 14], none)] (by kernel_rfl) (by kernel_rfl) (fun c a a' w e h => (by exact ⟨e ▸ h.1, h.2⟩)) ?_
            simp only [pickSegs, pickOps, List.map_cons, List.map_nil, Option.map_some, Option.map_none, Option.getD_some, List.getElem?_toArray, List.getElem?_cons_zero, List.getElem?_cons_succ]
            have a0 := later_cell (w := W2) (b := w.heap.size) (fun j u hj => HB.out.cell j u hj) 0 (.int .u8 5) rfl
            have a1 := later_cell (w := W2) (b := w.heap.size) (fun j u hj => HB.out.cell j u hj) 1 (.int .i64 (j : Int)) rfl
            have a2 := later_cell (w := W2) (b := w.heap.size) (fun j u hj => HB.out.cell j u hj) 2 (.int .i64 0) rfl
            have a3 := later_cell (w := W2) (b := w.heap.size) (fun j u hj => HB.out.cell j u hj) 3 (.int .u8 vk) rfl
            have a4 := later_cell (w := W2) (b := w.heap.size) (fun j u hj => HB.out.cell j u hj) 4 (.int .i64 vn) rfl
            have a5 := later_cell (w := W2) (b := w.heap.size) (fun j u hj => HB.out.cell j u hj) 5 (.string ⟨vs.toArray⟩) rfl
            refine wpSegs_some fun K hK => ?_
            repeat go_big_quiet_step (fail)
            refine wpQuiet_nil ?_
            clear a0 a1 a2 a3 a4 a5
            go_wp2_with fail
            refine (HR.out _).mono ?_
            rintro e W1 ⟨rfl, hx⟩
            have HH1 := Lib.hid hx
            clear hx
            go_wp2_with fail
            refine ⟨HH1.out, hK _ _ ?_⟩
            clear hK K
            have HBB := Lib.hid ((HB.out.ext (Ext.drew _)).ext HH1.out)
            have HY := Lib.hid (HH1.out.cell (lt_of_cell (((Ext.drew W2).cell (lt_of_cell HCX.out)).trans HCX.out)) |>.trans (((Ext.drew W2).cell (lt_of_cell HCX.out)).trans HCX.out))
            have a0 := now_cell (w := W1) (b := w.heap.size) (fun j u hj => HBB.out.cell j u hj) 0 (.int .u8 5) rfl
            have a1 := now_cell (w := W1) (b := w.heap.size) (fun j u hj => HBB.out.cell j u hj) 1 (.int .i64 (j : Int)) rfl
            have a2 := now_cell (w := W1) (b := w.heap.size) (fun j u hj => HBB.out.cell j u hj) 2 (.int .i64 0) rfl
            have a3 := now_cell (w := W1) (b := w.heap.size) (fun j u hj => HBB.out.cell j u hj) 3 (.int .u8 vk) rfl
            have a4 := now_cell (w := W1) (b := w.heap.size) (fun j u hj => HBB.out.cell j u hj) 4 (.int .i64 vn) rfl
            have a5 := now_cell (w := W1) (b := w.heap.size) (fun j u hj => HBB.out.cell j u hj) 5 (.string ⟨vs.toArray⟩) rfl
            have hy : ∀ z : Later Ext W1, z.val.cell? (x.add j) = some (.int .u8 y) := fun z => (z.ext.cell (lt_of_cell HY.out)).trans HY.out
            cases rv with
            | true =>
              refine wpSegs_none ?_
              repeat go_big_quiet_step (fail)
              refine wpQuiet_nil (wpSegs_nil ?_)
              clear hy a0 a1 a2 a3 a4 a5
              go_wp2_with fail
              go_ret
              exact ⟨by rw [HQ.out]; rfl, Ext.trans HX2.out (Ext.trans (Ext.drew _) HH1.out)⟩
            | false =>
              refine wpSegs_none ?_
              repeat go_big_quiet_step (fail)
              refine wpQuiet_nil (wpSegs_nil ?_)
              clear hy a0 a1 a2 a3 a4 a5
              go_wp2_with fail
              go_ret
              exact ⟨by rw [HQ.out]; rfl, Ext.trans HX2.out (Ext.trans (Ext.drew _) HH1.out)⟩
          · go_enter Tryd.func20, Tryd.ntmps20
            go_wp2_with fail
            refine (refColumn_any _ _).mono ?_
            rintro e W' ⟨rfl, rfl⟩
            go_wp2_with fail
            refine (refColumn_any _ _).mono ?_
            rintro e W' ⟨rfl, rfl⟩
            go_wp2_with fail
            generalize hW2 : ((w.alloc (.cells #[.int .u8 6, .int .i64 (j : Int), .int .i64 0, .int .u8 vk, .int .i64 vn, .string ⟨vs.toArray⟩] 41)).alloc (.cells #[.int .u8 0, .int .i64 0, .string ⟨#[]⟩] 39)) = W2 at HB HX2 HCX ⊢
            clear hW2
            refine wp_region_segs Ext Ext.keeps [([0, 1], some 2), ([3, 4, 5, 6, 7, 8, 9, 10, 11, 12, 13, 14], none)] (by kernel_rfl) (by kernel_rfl) (fun c a a' w e h => (by exact ⟨e ▸ h.1, h.2⟩)) ?_
            simp only [pickSegs, pickOps, List.map_cons, List.map_nil, Option.map_some, Option.map_none, Option.getD_some, List.getElem?_toArray, List.getElem?_cons_zero, List.getElem?_cons_succ]
            have a0 := later_cell (w := W2) (b := w.heap.size) (fun j u hj => HB.out.cell j u hj) 0 (.int .u8 6) rfl
            have a1 := later_cell (w := W2) (b := w.heap.size) (fun j u hj => HB.out.cell j u hj) 1 (.int .i64 (j : Int)) rfl
            have a2 := later_cell (w := W2) (b := w.heap.size) (fun j u hj => HB.out.cell j u hj) 2 (.int .i64 0) rfl
            have a3 := later_cell (w := W2) (b := w.heap.size) (fun j u hj => HB.out.cell j u hj) 3 (.int .u8 vk) rfl
            have a4 := later_cell (w := W2) (b := w.heap.size) (fun j u hj => HB.out.cell j u hj) 4 (.int .i64 vn) rfl
            have a5 := later_cell (w := W2) (b := w.heap.size) (fun j u hj => HB.out.cell j u hj) 5 (.string ⟨vs.toArray⟩) rfl
            refine wpSegs_some fun K hK => ?_
            repeat go_big_quiet_step (fail)
            refine wpQuiet_nil ?_
            clear a0 a1 a2 a3 a4 a5
            go_wp2_with fail
            refine (HR.out _).mono ?_
            rintro e W1 ⟨rfl, hx⟩
            have HH1 := Lib.hid hx
            clear hx
            go_wp2_with fail
            refine ⟨HH1.out, hK _ _ ?_⟩
            clear hK K
            have HBB := Lib.hid ((HB.out.ext (Ext.drew _)).ext HH1.out)
            have HY := Lib.hid (HH1.out.cell (lt_of_cell (((Ext.drew W2).cell (lt_of_cell HCX.out)).trans HCX.out)) |>.trans (((Ext.drew W2).cell (lt_of_cell HCX.out)).trans HCX.out))
            have a0 := now_cell (w := W1) (b := w.heap.size) (fun j u hj => HBB.out.cell j u hj) 0 (.int .u8 6) rfl
            have a1 := now_cell (w := W1) (b := w.heap.size) (fun j u hj => HBB.out.cell j u hj) 1 (.int .i64 (j : Int)) rfl
            have a2 := now_cell (w := W1) (b := w.heap.size) (fun j u hj => HBB.out.cell j u hj) 2 (.int .i64 0) rfl
            have a3 := now_cell (w := W1) (b := w.heap.size) (fun j u hj => HBB.out.cell j u hj) 3 (.int .u8 vk) rfl
            have a4 := now_cell (w := W1) (b := w.heap.size) (fun j u hj => HBB.out.cell j u hj) 4 (.int .i64 vn) rfl
            have a5 := now_cell (w := W1) (b := w.heap.size) (fun j u hj => HBB.out.cell j u hj) 5 (.string ⟨vs.toArray⟩) rfl
            have hy : ∀ z : Later Ext W1, z.val.cell? (x.add j) = some (.int .u8 y) := fun z => (z.ext.cell (lt_of_cell HY.out)).trans HY.out
            cases rv with
            | true =>
              refine wpSegs_none ?_
              repeat go_big_quiet_step (fail)
              refine wpQuiet_nil (wpSegs_nil ?_)
              clear hy a0 a1 a2 a3 a4 a5
              go_wp2_with fail
              go_ret
              exact ⟨by rw [HQ.out]; rfl, Ext.trans HX2.out (Ext.trans (Ext.drew _) HH1.out)⟩
            | false =>
              refine wpSegs_none ?_
              repeat go_big_quiet_step (fail)
              refine wpQuiet_nil (wpSegs_nil ?_)
              clear hy a0 a1 a2 a3 a4 a5
              go_wp2_with fail
              go_ret
              exact ⟨by rw [HQ.out]; rfl, Ext.trans HX2.out (Ext.trans (Ext.drew _) HH1.out)⟩
        · have HQ := Lib.hid (show decide (oneN okP K ⟨o, j, 0, ⟨vk, vn, vs⟩⟩) = false from decide_eq_false (fun h => by have := (HQ0.out.1 h).2.1; have := HN.out; omega))
          have d1 : decide (N ≤ j) = true := decide_eq_true (by omega)
          have d1' : decide ((N : Int) ≤ (j : Int)) = true := decide_eq_true (by omega)
          clear hc0 hc1 HQ0
          rcases ho with rfl | rfl <;> (
            go_enter Tryd.func20, Tryd.ntmps20
            go_wp2_with fail
            refine (refColumn_any _ _).mono ?_
            rintro e W' ⟨rfl, rfl⟩
            go_wp2_with fail
            go_ret
            exact ⟨by rw [HQ.out]; rfl, HX.out⟩)
    · have HQ := Lib.hid (show decide (oneN okP K ⟨o, c, kd, ⟨vk, vn, vs⟩⟩) = false from decide_eq_false (fun h => hk (HQ0.out.1 h).1))
      have qk : (kd != (0 : Int)) = true := bne_iff_ne.2 hk
      clear hk HQ0
      rcases ho with rfl | rfl <;> (
        go_enter Tryd.func20, Tryd.ntmps20
        go_wp2_with fail
        go_ret
        exact ⟨by rw [HQ.out]; rfl, HX.out⟩)
  · have HQ0 := Lib.hid (one_7 (ok := okP) (K := K) (c := c) (kd := kd) (v := ⟨vk, vn, vs⟩))
    by_cases hk : kd = 0
    · subst hk
      by_cases hc0 : c < 0
      · have HQ := Lib.hid (show decide (oneN okP K ⟨7, c, 0, ⟨vk, vn, vs⟩⟩) = false from decide_eq_false (fun h => by have := (HQ0.out.1 h).2.1; omega))
        have d0 : decide (c < (0 : Int)) = true := decide_eq_true hc0
        clear hc0 HQ0
        go_enter Tryd.func20, Tryd.ntmps20
        go_wp2_with fail
        refine (refColumn_any _ _).mono ?_
        rintro e W' ⟨rfl, rfl⟩
        go_wp2_with fail
        go_ret
        exact ⟨by rw [HQ.out]; rfl, HX.out⟩
      · obtain ⟨j, rfl⟩ := Int.eq_ofNat_of_zero_le (show 0 ≤ c by omega)
        have d0 : decide ((j : Int) < (0 : Int)) = false := decide_eq_false hc0
        by_cases hc1 : j < N
        · have d1 : decide (N ≤ j) = false := decide_eq_false (by omega)
          have d1' : decide ((N : Int) ≤ (j : Int)) = false := decide_eq_false (by omega)
          have hjK : j < K.length := by have := HN.out; omega
          obtain ⟨x, rfl, hcx⟩ := HC.out j (.int .u8 K[j]) (by rw [List.getElem?_map, List.getElem?_eq_getElem hjK]; rfl)
          have HCX := Lib.hid ((HX2.out.cell (lt_of_cell hcx)).trans hcx)
          have HQ1 := Lib.hid (show (K[(j : Int).toNat]?).getD 0 = K[j] by rw [Int.toNat_natCast, List.getElem?_eq_getElem hjK]; rfl)
          have HJR := Lib.hid (show (0 : Int) ≤ (j : Int) ∧ (j : Int) < (K.length : Int) by omega)
          generalize K[j] = y at HCX HQ1
          clear hcx hc0 hjK
          have HQ := Lib.hid (show decide (oneN okP K ⟨7, j, 0, ⟨vk, vn, vs⟩⟩) = (rightV ⟨vk, vn, vs⟩ && (decide (vk = 3) && (decide (y = 3) && okP vs))) by
            have e : oneN okP K ⟨7, j, 0, ⟨vk, vn, vs⟩⟩ ↔ (rightV ⟨vk, vn, vs⟩ = true ∧ vk = 3 ∧ y = 3 ∧ okP vs = true) := ⟨fun h => by have h' := (HQ0.out.1 h).2.2; rw [HQ1.out] at h'; exact h', fun h => HQ0.out.2 ⟨rfl, HJR.out, by rw [HQ1.out]; exact h⟩⟩
            rw [show decide (oneN okP K ⟨7, j, 0, ⟨vk, vn, vs⟩⟩) = decide (rightV ⟨vk, vn, vs⟩ = true ∧ vk = 3 ∧ y = 3 ∧ okP vs = true) from decide_eq_decide.2 e]
            simp only [Bool.decide_and, Bool.decide_eq_true])
          generalize rightV ⟨vk, vn, vs⟩ = rv at HR HQ
          generalize okP vs = ob at HCK HQ
          clear HQ0 HQ1
          cases rv with
          | false =>
            go_enter Tryd.func20, Tryd.ntmps20
            go_wp2_with fail
            refine (refColumn_any _ _).mono ?_
            rintro e W' ⟨rfl, rfl⟩
            go_wp2_with fail
            refine (refColumn_any _ _).mono ?_
            rintro e W' ⟨rfl, rfl⟩
            go_wp2_with fail
            refine (HR.out _).mono ?_
            rintro e W1 ⟨rfl, hx⟩
            have HBB := Lib.hid (HB.out.ext hx)
            have HXX := Lib.hid (Ext.trans HX2.out hx)
            have xy := (hx.cell (lt_of_cell HCX.out)).trans HCX.out
            clear hx
            have a0 : W1.cell? ⟨w.heap.size, 0, none⟩ = some (.int .u8 7) := HBB.out.cell 0 _ rfl
            have a1 : W1.cell? ⟨w.heap.size, 1, none⟩ = some (.int .i64 (j : Int)) := HBB.out.cell 1 _ rfl
            have a2 : W1.cell? ⟨w.heap.size, 2, none⟩ = some (.int .i64 0) := HBB.out.cell 2 _ rfl
            have a3 : W1.cell? ⟨w.heap.size, 3, none⟩ = some (.int .u8 vk) := HBB.out.cell 3 _ rfl
            have a4 : W1.cell? ⟨w.heap.size, 4, none⟩ = some (.int .i64 vn) := HBB.out.cell 4 _ rfl
            have a5 : W1.cell? ⟨w.heap.size, 5, none⟩ = some (.string ⟨vs.toArray⟩) := HBB.out.cell 5 _ rfl
            go_wp2_with fail
            go_ret
            exact ⟨by rw [HQ.out]; rfl, HXX.out⟩
          | true =>
            by_cases g1 : vk = 3
            · subst g1
              by_cases g2 : y = 3
              · subst g2
                go_enter Tryd.func20, Tryd.ntmps20
                go_wp2_with fail
                refine (refColumn_any _ _).mono ?_
                rintro e W' ⟨rfl, rfl⟩
                go_wp2_with fail
                refine (refColumn_any _ _).mono ?_
                rintro e W' ⟨rfl, rfl⟩
                go_wp2_with fail
                refine (HR.out _).mono ?_
                rintro e W1 ⟨rfl, hx⟩
                have HBB := Lib.hid (HB.out.ext hx)
                have HXX := Lib.hid (Ext.trans HX2.out hx)
                have xy := (hx.cell (lt_of_cell HCX.out)).trans HCX.out
                clear hx
                have a0 : W1.cell? ⟨w.heap.size, 0, none⟩ = some (.int .u8 7) := HBB.out.cell 0 _ rfl
                have a1 : W1.cell? ⟨w.heap.size, 1, none⟩ = some (.int .i64 (j : Int)) := HBB.out.cell 1 _ rfl
                have a2 : W1.cell? ⟨w.heap.size, 2, none⟩ = some (.int .i64 0) := HBB.out.cell 2 _ rfl
                have a3 : W1.cell? ⟨w.heap.size, 3, none⟩ = some (.int .u8 3) := HBB.out.cell 3 _ rfl
                have a4 : W1.cell? ⟨w.heap.size, 4, none⟩ = some (.int .i64 vn) := HBB.out.cell 4 _ rfl
                have a5 : W1.cell? ⟨w.heap.size, 5, none⟩ = some (.string ⟨vs.toArray⟩) := HBB.out.cell 5 _ rfl
                go_wp2_with fail
                refine (HCK.out _ HXX.out).mono ?_
                rintro e W3 ⟨rfl, hx⟩
                have HX3 := Lib.hid (Ext.trans HXX.out hx)
                clear hx
                cases ob with
                | true =>
                  simp only [cond_true]
                  go_wp2_with fail
                  go_ret
                  exact ⟨by rw [HQ.out]; rfl, HX3.out⟩
                | false =>
                  simp only [cond_false]
                  go_wp2_with fail
                  go_ret
                  exact ⟨by rw [HQ.out]; rfl, HX3.out⟩
              · have q3 : (y == (3 : Int)) = false := beq_eq_false_iff_ne.2 g2
                have HG2 := Lib.hid (show decide (y = 3) = false from decide_eq_false g2)
                rw [HG2.out] at HQ
                clear g2
                go_enter Tryd.func20, Tryd.ntmps20
                go_wp2_with fail
                refine (refColumn_any _ _).mono ?_
                rintro e W' ⟨rfl, rfl⟩
                go_wp2_with fail
                refine (refColumn_any _ _).mono ?_
                rintro e W' ⟨rfl, rfl⟩
                go_wp2_with fail
                refine (HR.out _).mono ?_
                rintro e W1 ⟨rfl, hx⟩
                have HBB := Lib.hid (HB.out.ext hx)
                have HXX := Lib.hid (Ext.trans HX2.out hx)
                have xy := (hx.cell (lt_of_cell HCX.out)).trans HCX.out
                clear hx
                have a0 : W1.cell? ⟨w.heap.size, 0, none⟩ = some (.int .u8 7) := HBB.out.cell 0 _ rfl
                have a1 : W1.cell? ⟨w.heap.size, 1, none⟩ = some (.int .i64 (j : Int)) := HBB.out.cell 1 _ rfl
                have a2 : W1.cell? ⟨w.heap.size, 2, none⟩ = some (.int .i64 0) := HBB.out.cell 2 _ rfl
                have a3 : W1.cell? ⟨w.heap.size, 3, none⟩ = some (.int .u8 3) := HBB.out.cell 3 _ rfl
                have a4 : W1.cell? ⟨w.heap.size, 4, none⟩ = some (.int .i64 vn) := HBB.out.cell 4 _ rfl
                have a5 : W1.cell? ⟨w.heap.size, 5, none⟩ = some (.string ⟨vs.toArray⟩) := HBB.out.cell 5 _ rfl
                go_wp2_with fail
                go_ret
                exact ⟨by rw [HQ.out]; rfl, HXX.out⟩
            · have q3 : (vk == (3 : Int)) = false := beq_eq_false_iff_ne.2 g1
              have HG1 := Lib.hid (show decide (vk = 3) = false from decide_eq_false g1)
              rw [HG1.out] at HQ
              clear g1
              go_enter Tryd.func20, Tryd.ntmps20
              go_wp2_with fail
              refine (refColumn_any _ _).mono ?_
              rintro e W' ⟨rfl, rfl⟩
              go_wp2_with fail
              refine (refColumn_any _ _).mono ?_
              rintro e W' ⟨rfl, rfl⟩
              go_wp2_with fail
              refine (HR.out _).mono ?_
              rintro e W1 ⟨rfl, hx⟩
              have HBB := Lib.hid (HB.out.ext hx)
              have HXX := Lib.hid (Ext.trans HX2.out hx)
              have xy := (hx.cell (lt_of_cell HCX.out)).trans HCX.out
              clear hx
              have a0 : W1.cell? ⟨w.heap.size, 0, none⟩ = some (.int .u8 7) := HBB.out.cell 0 _ rfl
              have a1 : W1.cell? ⟨w.heap.size, 1, none⟩ = some (.int .i64 (j : Int)) := HBB.out.cell 1 _ rfl
              have a2 : W1.cell? ⟨w.heap.size, 2, none⟩ = some (.int .i64 0) := HBB.out.cell 2 _ rfl
              have a3 : W1.cell? ⟨w.heap.size, 3, none⟩ = some (.int .u8 vk) := HBB.out.cell 3 _ rfl
              have a4 : W1.cell? ⟨w.heap.size, 4, none⟩ = some (.int .i64 vn) := HBB.out.cell 4 _ rfl
              have a5 : W1.cell? ⟨w.heap.size, 5, none⟩ = some (.string ⟨vs.toArray⟩) := HBB.out.cell 5 _ rfl
              go_wp2_with fail
              go_ret
              exact ⟨by rw [HQ.out]; rfl, HXX.out⟩
        · have HQ := Lib.hid (show decide (oneN okP K ⟨7, j, 0, ⟨vk, vn, vs⟩⟩) = false from decide_eq_false (fun h => by have := (HQ0.out.1 h).2.1; have := HN.out; omega))
          have d1 : decide (N ≤ j) = true := decide_eq_true (by omega)
          have d1' : decide ((N : Int) ≤ (j : Int)) = true := decide_eq_true (by omega)
          clear hc0 hc1 HQ0
          go_enter Tryd.func20, Tryd.ntmps20
          go_wp2_with fail
          refine (refColumn_any _ _).mono ?_
          rintro e W' ⟨rfl, rfl⟩
          go_wp2_with fail
          go_ret
          exact ⟨by rw [HQ.out]; rfl, HX.out⟩
    · have HQ := Lib.hid (show decide (oneN okP K ⟨7, c, kd, ⟨vk, vn, vs⟩⟩) = false from decide_eq_false (fun h => hk (HQ0.out.1 h).1))
      have qk : (kd != (0 : Int)) = true := bne_iff_ne.2 hk
      clear hk HQ0
      go_enter Tryd.func20, Tryd.ntmps20
      go_wp2_with fail
      go_ret
      exact ⟨by rw [HQ.out]; rfl, HX.out⟩
  · have HQ0 := Lib.hid (one_8 (ok := okP) (K := K) (c := c) (kd := kd) (v := ⟨vk, vn, vs⟩))
    by_cases hk : kd = 0
    · subst hk
      by_cases hc0 : c < 0
      · have HQ := Lib.hid (show decide (oneN okP K ⟨8, c, 0, ⟨vk, vn, vs⟩⟩) = false from decide_eq_false (fun h => by have := (HQ0.out.1 h).2.1; omega))
        have d0 : decide (c < (0 : Int)) = true := decide_eq_true hc0
        clear hc0 HQ0
        go_enter Tryd.func20, Tryd.ntmps20
        go_wp2_with fail
        refine (refColumn_any _ _).mono ?_
        rintro e W' ⟨rfl, rfl⟩
        go_wp2_with fail
        go_ret
        exact ⟨by rw [HQ.out]; rfl, HX.out⟩
      · obtain ⟨j, rfl⟩ := Int.eq_ofNat_of_zero_le (show 0 ≤ c by omega)
        have d0 : decide ((j : Int) < (0 : Int)) = false := decide_eq_false hc0
        by_cases hc1 : j < N
        · have d1 : decide (N ≤ j) = false := decide_eq_false (by omega)
          have d1' : decide ((N : Int) ≤ (j : Int)) = false := decide_eq_false (by omega)
          have hjK : j < K.length := by have := HN.out; omega
          obtain ⟨x, rfl, hcx⟩ := HC.out j (.int .u8 K[j]) (by rw [List.getElem?_map, List.getElem?_eq_getElem hjK]; rfl)
          have HCX := Lib.hid ((HX2.out.cell (lt_of_cell hcx)).trans hcx)
          have HQ1 := Lib.hid (show (K[(j : Int).toNat]?).getD 0 = K[j] by rw [Int.toNat_natCast, List.getElem?_eq_getElem hjK]; rfl)
          have HJR := Lib.hid (show (0 : Int) ≤ (j : Int) ∧ (j : Int) < (K.length : Int) by omega)
          generalize K[j] = y at HCX HQ1
          clear hcx hc0 hjK
          have HQ := Lib.hid (show decide (oneN okP K ⟨8, j, 0, ⟨vk, vn, vs⟩⟩) = zb by rw [← HZ.out]; exact decide_eq_decide.2 ⟨fun h => (HQ0.out.1 h).2.2, fun h => HQ0.out.2 ⟨rfl, HJR.out, h⟩⟩)
          clear HQ0 HQ1
          go_enter Tryd.func20, Tryd.ntmps20
          go_wp2_with fail
          refine (refColumn_any _ _).mono ?_
          rintro e W' ⟨rfl, rfl⟩
          go_wp2_with fail
          refine (refColumn_any _ _).mono ?_
          rintro e W' ⟨rfl, rfl⟩
          go_wp2_with fail
          go_ret
          exact ⟨by rw [HQ.out]; rfl, HX2.out⟩
        · have HQ := Lib.hid (show decide (oneN okP K ⟨8, j, 0, ⟨vk, vn, vs⟩⟩) = false from decide_eq_false (fun h => by have := (HQ0.out.1 h).2.1; have := HN.out; omega))
          have d1 : decide (N ≤ j) = true := decide_eq_true (by omega)
          have d1' : decide ((N : Int) ≤ (j : Int)) = true := decide_eq_true (by omega)
          clear hc0 hc1 HQ0
          go_enter Tryd.func20, Tryd.ntmps20
          go_wp2_with fail
          refine (refColumn_any _ _).mono ?_
          rintro e W' ⟨rfl, rfl⟩
          go_wp2_with fail
          go_ret
          exact ⟨by rw [HQ.out]; rfl, HX.out⟩
    · have HQ := Lib.hid (show decide (oneN okP K ⟨8, c, kd, ⟨vk, vn, vs⟩⟩) = false from decide_eq_false (fun h => hk (HQ0.out.1 h).1))
      have qk : (kd != (0 : Int)) = true := bne_iff_ne.2 hk
      clear hk HQ0
      go_enter Tryd.func20, Tryd.ntmps20
      go_wp2_with fail
      go_ret
      exact ⟨by rw [HQ.out]; rfl, HX.out⟩

end Go.Proofs.YtfnmcdjfdhdlmaaDoor

/-
  The contracts of the document's own conditions: Right as a whole.
-/
namespace Go.Proofs.YtfnmcdjfdhdlmaaDoor
open Go.RowKit Go.BigFrame

/-- How many parts the document counts. -/
def kidsD (n : Nd) : Int := if n.op = 4 then 1 else n.kids
theorem refKids_any (n : Nd) (w : World) : Calls Tryd.prog 33 #[n.val] w fun e w' => e = .returned (.int .i64 (kidsD n)) ∧ Ext w w' := by
  obtain ⟨o, c, kd, ⟨vk, vn, vs⟩⟩ := n
  have HX := Lib.hid (ext_new w (.cells #[.int .u8 o, .int .i64 c, .int .i64 kd, .int .u8 vk, .int .i64 vn, .string ⟨vs.toArray⟩] 41))
  have HQ := Lib.hid (show kidsD ⟨o, c, kd, ⟨vk, vn, vs⟩⟩ = if o = 4 then 1 else kd from rfl)
  rw [HQ.out]
  unfold Nd.val
  simp only
  by_cases h : o = 4
  · subst h
    rw [if_pos rfl]
    go_enter Tryd.func33, Tryd.ntmps33
    go_wp2_with fail
    go_ret
    exact ⟨rfl, HX.out⟩
  · rw [if_neg h]
    have q : (o == (4 : Int)) = false := beq_eq_false_iff_ne.2 h
    clear h
    go_enter Tryd.func33, Tryd.ntmps33
    go_wp2_with fail
    go_ret
    exact ⟨rfl, HX.out⟩
theorem kidsD_is {ok : List UInt8 → Bool} {K : List Int} {n : Nd} (h : oneN ok K n) : kidsD n = (kidsN n : Int) := by
  obtain ⟨-, h2, -⟩ := h
  unfold kidsD kidsN
  split
  · rfl
  · split at h2 <;> omega

/-- Behind a node with its parts (-1: they do not end). -/
def endD (l : List Nd) : Int := match endK 1 l with | some r => ((l.length - r.length : Nat) : Int) | none => -1
set_option maxRecDepth 100000 in
set_option maxHeartbeats 2000000 in
theorem refEnd_any (u : Value) (l : List Nd) (w : World) (hu : RdNds w u l) (hl : l.length ≤ 40) (hk : ∀ n ∈ l, kidsD n = (kidsN n : Int) ∧ kidsN n ≤ 40) :
    Calls Tryd.prog 21 #[u, .int .i64 0] w fun e w' => e = .returned (.int .i64 (endD l)) ∧ Ext w w' := by
  obtain ⟨ao, cap, rfl, -, -⟩ := hu.shape
  obtain ⟨-, h1, h2, hc⟩ := hu.plain
  have HC := Lib.hid hc
  have HK := Lib.hid hk
  unfold maxLen at h2
  obtain ⟨N, hN⟩ : ∃ N, l.length = N := ⟨_, rfl⟩
  have HN := Lib.hid hN
  rw [hN] at h1 hl ⊢
  clear hu hc hN hk
  go_enter Tryd.func21, Tryd.ntmps21
  go_wp2_with fail
  go_loopw [1, 5] (fun at_ need wr => ∃ (j m : Nat), j ≤ N ∧ at_ = .int .i64 j ∧ need = .int .i64 m ∧ m ≤ 1 + 40 * j ∧ endK 1 l = endK m (l.drop j) ∧ Ext w wr) (fun at_ _ _ => N - (intOf at_).toNat)
  case atStart => exact ⟨0, 1, Nat.zero_le _, rfl, rfl, by decide, rfl, Ext.keeps.refl _⟩
  case round =>
    obtain ⟨j, m, hj, rfl, rfl, hm, he, hx⟩ := hrel
    have HE := Lib.hid he
    have HX := Lib.hid hx
    clear he hx
    by_cases hm0 : 0 < m
    · have d0 : decide (0 < m) = true := decide_eq_true hm0
      have d0' : decide ((0 : Int) < (m : Int)) = true := decide_eq_true (by omega)
      by_cases hlt : j < N
      · have d1 : decide (N ≤ j) = false := decide_eq_false (by omega)
        have d1' : decide ((N : Int) ≤ (j : Int)) = false := decide_eq_false (by omega)
        have hjl : j < l.length := by have := HN.out; omega
        obtain ⟨g, off, rfl, c0, c1, c2, c3, c4, c5⟩ := HC.out j hjl
        have x0 := (HX.out.cell (lt_of_cell c0)).trans c0
        have x1 := (HX.out.cell (lt_of_cell c1)).trans c1
        have x2 := (HX.out.cell (lt_of_cell c2)).trans c2
        have x3 := (HX.out.cell (lt_of_cell c3)).trans c3
        have x4 := (HX.out.cell (lt_of_cell c4)).trans c4
        have x5 := (HX.out.cell (lt_of_cell c5)).trans c5
        have HKN := Lib.hid (fun W => refKids_any l[j] W)
        have HKM := Lib.hid (HK.out _ (List.getElem_mem hjl))
        have HST := Lib.hid (show endK 1 l = endK (m - 1 + kidsN l[j]) (l.drop (j + 1)) by rw [HE.out, List.drop_eq_getElem_cons hjl, show m = (m - 1) + 1 by omega, endK_cons]; rfl)
        rw [HKM.out.1] at HKN
        generalize l[j] = nd at x0 x1 x2 x3 x4 x5 HKN HKM HST
        have hkm := HKM.out.2
        generalize kidsN nd = kn at HKN HST hkm
        obtain ⟨o, c, kd, ⟨vk, vn, vs⟩⟩ := nd
        unfold Nd.val at HKN
        simp only at x0 x1 x2 x3 x4 x5 HKN
        clear c0 c1 c2 c3 c4 c5 hjl
        go_wp2_with fail
        refine (HKN.out _).mono ?_
        rintro e w1 ⟨rfl, hx⟩
        have HX1 := Lib.hid (Ext.trans HX.out hx)
        clear hx
        go_wp2_with fail
        go_roundw
        case rel => exact ⟨j + 1, m - 1 + kn, by omega, by go_num, by congr 1; omega, by omega, HST.out, HX1.out⟩
        case measure => simp [intOf]; omega
      · have d1 : decide (N ≤ j) = true := decide_eq_true (by omega)
        have d1' : decide ((N : Int) ≤ (j : Int)) = true := decide_eq_true (by omega)
        have HQ := Lib.hid (show endD l = -1 by unfold endD; rw [HE.out, List.drop_eq_nil_of_le (by have := HN.out; omega), show m = (m - 1) + 1 by omega, endK_nil])
        go_wp2_with fail
        go_ret
        exact ⟨by rw [HQ.out]; rfl, HX.out⟩
    · have hm1 : m = 0 := by omega
      subst hm1
      have HQ := Lib.hid (show endD l = (j : Int) by unfold endD; rw [HE.out, endK_zero]; simp only; rw [List.length_drop]; have := HN.out; omega)
      clear hm0
      go_wp2_with fail
      go_ret
      exact ⟨by rw [HQ.out]; rfl, HX.out⟩

theorem end_right {l : List Nd} : endD l = (l.length : Int) ↔ endK 1 l = some [] := by
  unfold endD
  cases h : endK 1 l with
  | none => simp
  | some r =>
    have := endK_len l 1 r h
    simp only [Option.some.injEq]
    constructor
    · intro h'; exact List.length_eq_zero_iff.1 (by omega)
    · intro h'; subst h'; simp

set_option maxRecDepth 100000 in
set_option maxHeartbeats 2000000 in
theorem refRight14_any (u v : Value) (K : List Int) (l : List Nd) (w : World) (hu : RdV w u (K.map (Value.int .u8))) (hK : K.length ≤ 1000000) (hv : RdNds w v l) (hf : FitN 5000 l) (hT : Tabs w) :
    Calls Tryd.prog 8 #[u, v] w fun e w' => e = .returned (.int .i64 (errA okP K l)) ∧ Ext w w' := by
  have HO := Lib.hid (fun (n : Nd) (hn : n ∈ l) W (h : Ext w W) => refOne_any u K n W (hu.mono h) hK (hT.mono h) (hf n hn).1.v (hf n hn).2)
  have HEN := Lib.hid (fun (hl : l.length ≤ 40) (ha : ∀ n ∈ l, oneN okP K n) W (h : Ext w W) => refEnd_any v l W (hv.mono h) hl fun n hn => ⟨kidsD_is (ha n hn), (oneN_kids (ha n hn)).1⟩)
  obtain ⟨uo, uc, rfl, k1, k2, -⟩ := RdV.cellsAt hu
  rw [List.length_map] at *
  obtain ⟨ao, cap, rfl, -, -⟩ := hv.shape
  obtain ⟨-, h1, h2, hc⟩ := hv.plain
  have HC := Lib.hid hc
  unfold maxLen at h2
  obtain ⟨N, hN⟩ : ∃ N, l.length = N := ⟨_, rfl⟩
  have HN := Lib.hid hN
  rw [hN] at h1 HEN ⊢
  generalize K.length = KN at *
  have HQN := Lib.hid (show ¬ rightA okP K l → errA okP K l = 140 from fun h => if_neg h)
  have HQY := Lib.hid (show rightA okP K l → errA okP K l = 0 from fun h => if_pos h)
  have HRA := Lib.hid (show rightA okP K l ↔ (1 ≤ l.length ∧ l.length ≤ 40) ∧ (∀ n ∈ l, oneN okP K n) ∧ endK 1 l = some [] from Iff.rfl)
  clear hu hv hc hN hf hT
  by_cases hl1 : N < 1
  · have hN0 : N = 0 := by omega
    have HQ := Lib.hid (HQN.out (fun h => by have := (HRA.out.1 h).1; have := HN.out; omega))
    clear hl1
    subst hN0
    go_enter Tryd.func8, Tryd.ntmps8
    go_wp2_with fail
    go_ret
    exact ⟨by rw [HQ.out]; rfl, Ext.keeps.refl _⟩
  · have d1 : decide (N < 1) = false := decide_eq_false hl1
    have d1' : decide ((N : Int) < (1 : Int)) = false := decide_eq_false (by omega)
    by_cases hl2 : 40 < N
    · have d2 : decide (40 < N) = true := decide_eq_true hl2
      have d2' : decide ((40 : Int) < (N : Int)) = true := decide_eq_true (by omega)
      have HQ := Lib.hid (HQN.out (fun h => by have := (HRA.out.1 h).1; have := HN.out; omega))
      clear hl1 hl2
      go_enter Tryd.func8, Tryd.ntmps8
      go_wp2_with fail
      go_ret
      exact ⟨by rw [HQ.out]; rfl, Ext.keeps.refl _⟩
    · have d2 : decide (40 < N) = false := decide_eq_false hl2
      have d2' : decide ((40 : Int) < (N : Int)) = false := decide_eq_false (by omega)
      have hl : N ≤ 40 := by omega
      have hl0 : 1 ≤ N := by omega
      clear hl1 hl2
      go_enter Tryd.func8, Tryd.ntmps8
      go_wp2_with fail
      go_loopw [5] (fun i wr => ∃ j : Nat, j ≤ N ∧ i = .int .i64 j ∧ (∀ n ∈ l.take j, oneN okP K n) ∧ Ext w wr) (fun i _ => N - (intOf i).toNat)
      case atStart => exact ⟨0, Nat.zero_le _, rfl, fun n hn => by simp at hn, Ext.keeps.refl _⟩
      case round =>
        obtain ⟨j, hj, rfl, ha, hx⟩ := hrel
        have HA := Lib.hid ha
        have HX := Lib.hid hx
        clear ha hx
        by_cases hlt : j < N
        · have hjl : j < l.length := by have := HN.out; omega
          obtain ⟨g, off, rfl, c0, c1, c2, c3, c4, c5⟩ := HC.out j hjl
          have x0 := (HX.out.cell (lt_of_cell c0)).trans c0
          have x1 := (HX.out.cell (lt_of_cell c1)).trans c1
          have x2 := (HX.out.cell (lt_of_cell c2)).trans c2
          have x3 := (HX.out.cell (lt_of_cell c3)).trans c3
          have x4 := (HX.out.cell (lt_of_cell c4)).trans c4
          have x5 := (HX.out.cell (lt_of_cell c5)).trans c5
          have HS := Lib.hid (List.take_succ_eq_append_getElem hjl)
          have HM := Lib.hid (List.getElem_mem hjl)
          have HO1 := Lib.hid (HO.out _ HM.out wr HX.out)
          generalize l[j] = nd at x0 x1 x2 x3 x4 x5 HS HM HO1
          have HD := Lib.hid (show ∀ b, decide (oneN okP K nd) = b → (b = true ↔ oneN okP K nd) from fun b h => by rw [← h]; exact decide_eq_true_iff)
          obtain ⟨b, hb⟩ : ∃ b, decide (oneN okP K nd) = b := ⟨_, rfl⟩
          have HB := Lib.hid (HD.out b hb)
          rw [hb] at HO1
          clear hb HD
          obtain ⟨o, c, kd, ⟨vk, vn, vs⟩⟩ := nd
          unfold Nd.val at HO1
          simp only at x0 x1 x2 x3 x4 x5 HO1
          clear c0 c1 c2 c3 c4 c5 hjl
          go_wp2_with fail
          refine HO1.out.mono ?_
          rintro e w1 ⟨rfl, hx⟩
          have HX1 := Lib.hid (Ext.trans HX.out hx)
          clear hx
          cases b with
          | true =>
            go_wp2_with fail
            go_roundw
            case rel => exact ⟨j + 1, by omega, by go_num, fun n hn => by
              rw [HS.out] at hn
              rcases List.mem_append.1 hn with hn | hn
              · exact HA.out n hn
              · rw [List.mem_singleton.1 hn]; exact HB.out.1 (by first | rfl | trivial), HX1.out⟩
            case measure => simp [intOf]; omega
          | false =>
            have HQ := Lib.hid (HQN.out (fun h => by have := HB.out.2 ((HRA.out.1 h).2.1 _ HM.out); cases this))
            go_wp2_with fail
            go_ret
            exact ⟨by rw [HQ.out]; rfl, HX1.out⟩
        · have e : j = N := by omega
          subst e
          have HALL := Lib.hid (show ∀ n ∈ l, oneN okP K n from fun n hn => HA.out n (by rwa [List.take_of_length_le (by have := HN.out; omega)]))
          have HE2 := Lib.hid (HEN.out (by omega) HALL.out wr HX.out)
          have HER := Lib.hid (end_right (l := l))
          generalize endD l = ed at HE2 HER
          by_cases hed : ed = (j : Int)
          · have q : (ed != (j : Int)) = false := by simp [hed]
            have HQ := Lib.hid (HQY.out (HRA.out.2 ⟨by have := HN.out; omega, HALL.out, HER.out.1 (by rw [hed, HN.out])⟩))
            clear hed
            go_wp2_with fail
            refine HE2.out.mono ?_
            rintro e w1 ⟨rfl, hx⟩
            have HX1 := Lib.hid (Ext.trans HX.out hx)
            clear hx
            go_wp2_with fail
            go_ret
            exact ⟨by rw [HQ.out]; rfl, HX1.out⟩
          · have q : (ed != (j : Int)) = true := bne_iff_ne.2 hed
            have HQ := Lib.hid (HQN.out (fun h => hed (by rw [HER.out.2 (HRA.out.1 h).2.2, HN.out])))
            clear hed
            go_wp2_with fail
            refine HE2.out.mono ?_
            rintro e w1 ⟨rfl, hx⟩
            have HX1 := Lib.hid (Ext.trans HX.out hx)
            clear hx
            go_wp2_with fail
            go_ret
            exact ⟨by rw [HQ.out]; rfl, HX1.out⟩

end Go.Proofs.YtfnmcdjfdhdlmaaDoor
