/-
  Texts of this proof, merged: SpiNext, SpiRef3, SpiSays.
-/
import Derived.Deep.CutBlock
import Derived.Test.YtoagpaphghgkmaaZ17
import Derived.Test.YtoagpaphghgkmaaZ9
import Derived.Test.YtoagpaphghgkmaaZ11
import Derived.Test.YtoagpaphghgkmaaZ16
/-
  The program's cursors of layer 17: Open, Next.
-/
namespace Go.Proofs.Ytoagpaphghgkmaa
open Go.RowKit Go.BigFrame

theorem notZero17_any (c : UInt8) (w : World) : Calls Try.prog 70 #[.int .u8 c.toNat] w fun e w' => e = .returned (.bool (!(c == 0))) ∧ w = w' := by
  by_cases h : c = 0
  · subst h
    go_enter Try.func70, Try.ntmps70
    go_wp2_with fail
    go_ret
    exact ⟨rfl, rfl⟩
  · have hb : (c == 0) = false := beq_eq_false_iff_ne.2 h
    rw [hb]
    obtain ⟨C, hC⟩ : ∃ C : Nat, C = c.toNat := ⟨_, rfl⟩
    have hz : ((C : Int) != 0) = true := by
      rw [bne_iff_ne]
      intro hh
      exact h (UInt8.toNat_inj.1 (by rw [← hC, show C = 0 by omega]; rfl))
    rw [← hC]
    clear h hb hC
    go_enter Try.func70, Try.ntmps70
    go_wp2_with fail
    go_ret
    exact ⟨rfl, rfl⟩

set_option maxRecDepth 100000 in
theorem indexEnd17_any (v : Value) (l : List UInt8) (w : World) (hr : Rd w v l) (hl : l.length ≤ 140737488355328) :
    Calls Try.prog 80 #[v, .func (.func 70) #[] #[]] w fun e w' => ∃ i : Int, e = .returned (.int .i64 i) ∧ -1 ≤ i ∧ i ≤ l.length ∧ decide (0 ≤ i) = !(l.all (· == 0)) ∧ w = w' := by
  obtain ⟨a, cap, rfl, h1, h2, ca⟩ := RdV.cellsAt hr
  rw [List.length_map] at h1 ⊢
  unfold maxLen at h2
  have CA := Lib.hid ca
  obtain ⟨L, hL⟩ : ∃ L, L = l.length := ⟨_, rfl⟩
  rw [← hL] at h1 hl ⊢
  have HL := Lib.hid hL
  clear ca hr hL
  go_enter Try.func80, Try.ntmps80
  go_wp2_with fail
  go_loopw [8] (fun i wr => ∃ j : Nat, j ≤ L ∧ i = .int .i64 j ∧ (l.take j).all (· == 0) = true ∧ w = wr) (fun i _ => L - (intOf i).toNat)
  case atStart => exact ⟨0, Nat.zero_le _, rfl, rfl, rfl⟩
  case round =>
    obtain ⟨j, hj, rfl, hall, rfl⟩ := hrel
    have HA := Lib.hid hall
    clear hall
    by_cases hlt : j < L
    · have hjl : j < l.length := by have := HL.out; omega
      obtain ⟨x, rfl, hc⟩ := CA.out j (bv l[j]) (by rw [List.getElem?_map, List.getElem?_eq_getElem hjl]; rfl)
      have HS := Lib.hid (show (l.take (j + 1)).all (· == 0) = ((l.take j).all (· == 0) && (l[j] == 0)) from by
        rw [List.take_succ_eq_append_getElem hjl, List.all_append]; simp)
      have HM := Lib.hid (List.getElem_mem hjl)
      unfold bv at hc
      have HN := Lib.hid (notZero17_any l[j] w)
      generalize l[j] = c at hc HS HN HM
      by_cases h0 : c = 0
      · subst h0
        simp only [beq_self_eq_true, Bool.not_true] at HN
        go_wp2_with fail
        refine HN.out.mono ?_
        rintro e w2 ⟨rfl, rfl⟩
        go_wp2_with fail
        go_roundw
        case rel => exact ⟨j + 1, by omega, by go_num, by rw [HS.out, HA.out]; rfl, trivial⟩
        case measure => simp [intOf]; omega
      · have hb : (c == 0) = false := beq_eq_false_iff_ne.2 h0
        rw [hb] at HN
        have HF := Lib.hid (show l.all (· == 0) = false from by
          rw [Bool.eq_false_iff]
          intro h
          exact h0 (by simpa using List.all_eq_true.1 h c HM.out))
        obtain ⟨C, hC⟩ : ∃ C : Nat, C = c.toNat := ⟨_, rfl⟩
        rw [← hC] at hc HN
        clear hb h0 hC
        go_wp2_with fail
        refine HN.out.mono ?_
        rintro e w2 ⟨rfl, rfl⟩
        go_wp2_with fail
        go_ret
        exact ⟨j, rfl, by omega, by omega, by rw [HF.out]; simp, rfl⟩
    · have HF := Lib.hid (show l.all (· == 0) = true from by
        have h := HA.out
        rw [List.take_of_length_le (by have := HL.out; omega)] at h
        exact h)
      go_wp2_with fail
      go_ret
      exact ⟨-1, rfl, by omega, by omega, by rw [HF.out]; rfl, rfl⟩

theorem containsEnd17_any (v : Value) (l : List UInt8) (w : World) (hr : Rd w v l) (hl : l.length ≤ 140737488355328) :
    Calls Try.prog 62 #[v, .func (.func 70) #[] #[]] w fun e w' => e = .returned (.bool (!(l.all (· == 0)))) ∧ w = w' := by
  have H := Lib.hid (indexEnd17_any v l w hr hl)
  obtain ⟨B, hB⟩ : ∃ B, B = !(l.all (· == 0)) := ⟨_, rfl⟩
  rw [← hB] at H ⊢
  clear hB hr
  go_enter Try.func62, Try.ntmps62
  go_wp2_with fail
  refine H.out.mono ?_
  rintro e w2 ⟨i, rfl, h1, h2, h3, rfl⟩
  go_wp2_with fail
  go_ret
  exact ⟨rfl, rfl⟩

set_option maxRecDepth 100000 in
theorem pEnd17_any (c : Nat) (o : Option Addr) (vi vr : Value) (R : List UInt8) (a : Option Addr) (cap : Nat) (l e : Int) (w : World) (h : Blk w c [.pointer o, vi, vr, .int .i64 l, .int .i64 e] 102) (hvi : vi = .slice a 0 cap) (hvr : Rd w vr R) (hl : R.length ≤ 140737488355328) (hz : R.all (· == 0) = true) :
    Calls Try.prog 52 #[.pointer (some ⟨c, 0, none⟩)] w fun e w' => e = .returned (.int .i64 0) ∧ w = w' := by
  subst hvi
  have HC := Lib.hid (containsEnd17_any vr R w hvr hl)
  rw [hz] at HC
  obtain ⟨ra, rc, rfl, -, -⟩ := hvr.shape
  have c1 := h.cell 1 _ rfl
  have c2 := h.cell 2 _ rfl
  clear h hvr hz hl
  go_enter Try.func52, Try.ntmps52
  go_wp2_with fail
  refine HC.out.mono ?_
  rintro e w' ⟨rfl, rfl⟩
  go_wp2_with fail
  go_ret
  exact ⟨rfl, rfl⟩

/-- A cursor of the file at f, of these rows, of which k have been given: it has read the pages that these need, and no more. Its own blocks are C. -/
def Cur (C : Nat → Prop) (w : World) (c _f p : Nat) (ids : List Nat) (x : List (List V)) (k : Nat) : Prop :=
  k ≤ x.length ∧ ∃ vi vr, C = ownC c vi vr ∧ (CuM w c p (ids.drop (((rowsB (x.take k)).length + 55) / 56)) (((padB (rowsB x) ids.length).take (56 * (((rowsB (x.take k)).length + 55) / 56))).drop (rowsB (x.take k)).length) (x.length - k) vi vr ∨
    (x = [] ∧ vr = .slice none 0 0 ∧ (∃ a cap, vi = .slice a 0 cap ∧ ∀ b, vi.ownBlock = some b → b < w.heap.size) ∧ Blk w c [.pointer none, vi, vr, .int .i64 0, .int .i64 0] 102))
theorem Cur.lt {C : Nat → Prop} {w : World} {c f p : Nat} {ids : List Nat} {x : List (List V)} {k : Nat} (h : Cur C w c f p ids x k) {b : Nat} (hb : C b) : b < w.heap.size := by
  obtain ⟨-, vi, vr, rfl, h | ⟨-, rfl, ⟨a, cap, -, h1⟩, h⟩⟩ := h
  · exact h.lt hb
  · rcases hb with rfl | hb | hb
    · exact h.lt
    · exact h1 b hb
    · cases hb
theorem Cur.keep {C X : Nat → Prop} {w w' : World} {c f p : Nat} {ids : List Nat} {x : List (List V)} {k : Nat} (h : Cur C w c f p ids x k) (hw : OnlyS X w w') (h1 : ∀ b, X b → ¬ C b) : Cur C w' c f p ids x k := by
  obtain ⟨hk, vi, vr, rfl, h | ⟨hx, hvr, ⟨a, cap, h2, h3⟩, h⟩⟩ := h
  · exact ⟨hk, vi, vr, rfl, .inl (h.keep hw h1)⟩
  · exact ⟨hk, vi, vr, rfl, .inr ⟨hx, hvr, ⟨a, cap, h2, fun b hb => Nat.lt_of_lt_of_le (h3 b hb) hw.size⟩, h.onlyS hw (fun hX => h1 c hX (.inl rfl))⟩⟩
/-- A cursor that has told an error. -/
def CurBad (_C : Nat → Prop) (w : World) (c : Nat) (E : Int) : Prop := E ≠ 0 ∧ ∃ o vi vr l, Blk w c [.pointer o, vi, vr, .int .i64 l, .int .i64 E] 102
/-- The pages that are read hold what was laid. -/
def ReadTo (s : St) (ids : List Nat) (b : List UInt8) (J : Nat) : Prop := J ≤ ids.length ∧ ∀ j, (h : j < ids.length) → j < J → readS s (ids[j] : Int) = (fill ((b.drop (56 * j)).take 56), 0)

set_option maxRecDepth 100000 in
set_option maxHeartbeats 1000000 in
theorem pOpen17_any (F : Nat → Prop) (f p : Nat) (ids : List Nat) (x : List (List V)) (w : World) (h : Fil F w f p ids x.length) :
    Calls Try.prog 27 #[.pointer (some ⟨f, 0, none⟩)] w fun e w' => (∃ c C, e = .returned (.pointer (some ⟨c, 0, none⟩)) ∧ Cur C w' c f p ids x 0 ∧ ∀ b, C b → w.heap.size ≤ b) ∧ Ext w w' := by
  obtain ⟨vi, hT, rfl⟩ := h
  obtain ⟨o, hb, ho⟩ := hT.blk
  have HB := Lib.hid hb
  have HO := Lib.hid ho
  have HFEW := Lib.hid hT.few
  have HPG := Lib.hid (pPagesO17_any f p ids x.length vi w.drew ⟨⟨o, hb.ext (Ext.drew w), ho⟩, owns_extS hT.row (Ext.drew w), hT.few, hT.ne⟩)
  have HBZ := Lib.hid (fun z : Later Ext w.drew => (HB.out.ext (Ext.drew w)).ext z.ext)
  have a0 : ∀ z : Later Ext w.drew, z.val.cell? ⟨f, 0, none⟩ = some (.pointer o) := fun z => (HBZ.out z).cell 0 _ rfl
  have a2 : ∀ z : Later Ext w.drew, z.val.cell? ⟨f, 2, none⟩ = some (.int .i64 (x.length : Int)) := fun z => (HBZ.out z).cell 2 _ rfl
  have HXD := Lib.hid (Ext.drew w)
  clear hT hb ho
  go_enter Try.func27, Try.ntmps27
  go_wp2_with fail
  refine wp_region_segs Ext Ext.keeps [([0, 1, 2, 3, 4, 6, 7, 8, 9], some 5), ([10], some 11), ([12], none)] (by kernel_rfl) (by kernel_rfl) (fun c a a' w e h => (by exact ⟨e ▸ h.1, h.2⟩)) ?_
  simp only [pickSegs, pickOps, List.map_cons, List.map_nil, Option.map_some, Option.map_none, Option.getD_some, List.getElem?_toArray, List.getElem?_cons_zero, List.getElem?_cons_succ]
  refine wpSegs_some fun K hK => ?_
  repeat go_big_quiet_step (fail)
  refine wpQuiet_nil ?_
  clear a0 a2 HBZ
  go_wp2_with fail
  refine HPG.out.mono ?_
  rintro e w2 ⟨v, rfl, hv, hx⟩
  have HV := Lib.hid hv
  have HX := Lib.hid (show Ext w.drew w2 from hx)
  obtain ⟨va, vc, rfl, -, -⟩ := own_shapeP hv
  clear hv hx
  go_wp2_with fail
  refine ⟨HX.out, hK _ _ ?_⟩
  clear hK K
  refine wpSegs_some fun K hK => ?_
  repeat go_big_quiet_step (fail)
  refine wpQuiet_nil ?_
  go_wp2_with fail
  refine ⟨ext_new _ _, hK _ _ ?_⟩
  clear hK K
  refine wpSegs_none ?_
  repeat go_big_quiet_step (fail)
  refine wpQuiet_nil (wpSegs_nil ?_)
  go_wp2_with fail
  go_ret
  have hw : Ext w w2 := Ext.trans HXD.out HX.out
  have hx3 : Ext w2 (w2.alloc (.cells #[.pointer o, .slice va (ivs ids).length vc, .slice none 0 0, .int .i64 (x.length : Int), .int .i64 0] 102)) := ext_new _ _
  have hlt : ∀ b, (Value.slice va (ivs ids).length vc).ownBlock = some b → w.heap.size ≤ b ∧ b < w2.heap.size := fun b hb => HV.out.lt b hb
  have hsz := hx3.size
  have hsz0 := hw.size
  refine ⟨⟨w2.heap.size, ownC w2.heap.size (.slice va (ivs ids).length vc) (.slice none 0 0), rfl, ⟨Nat.zero_le _, _, _, rfl, ?_⟩, fun b hb => ?_⟩, Ext.trans hw hx3⟩
  · rcases HO.out with rfl | ⟨rfl, rfl, hx0, -⟩
    · left
      have hP : (rowsB (x.take 0)).length = 0 := rfl
      rw [hP, Nat.sub_zero]
      refine ⟨Blk.new w2 _ _, ?_, fun k hk => ⟨fun e => by have := (hlt k hk).2; omega, Nat.lt_of_lt_of_le (hlt k hk).2 hsz, fun e => by cases e⟩, ?_, fun k hk => (by cases hk), fun i hi => HFEW.out.2.1 i (List.mem_of_mem_drop hi)⟩
      · exact OwnT.of_owns (owns_base (owns_extS HV.out hx3) (Nat.zero_le _))
      · have e : ((padB (rowsB x) ids.length).take (56 * ((0 + 55) / 56))).drop 0 = [] := by simp
        rw [e]
        exact OwnT.nil _ _ _
    · right
      have hx1 : x = [] := List.length_eq_zero_iff.1 hx0
      refine ⟨hx1, rfl, ⟨_, _, rfl, fun b hb => Nat.lt_of_lt_of_le (hlt b hb).2 hsz⟩, ?_⟩
      have h1 := Blk.new w2 [.pointer none, .slice va (ivs ([] : List Nat)).length vc, .slice none 0 0, .int .i64 (x.length : Int), .int .i64 0] 102
      rw [hx0] at h1 ⊢
      exact h1
  · rcases hb with rfl | hb | hb
    · exact hsz0
    · exact (hlt b hb).1
    · cases hb

/-! ### Next -/

theorem rowsB_at (x : List (List V)) (n k : Nat) (hk : k < x.length) : (padB (rowsB x) n).drop (rowsB (x.take k)).length = rowB x[k] ++ (rowsB (x.drop (k + 1)) ++ zeros (56 * n - (rowsB x).length)) := by
  have e : rowsB x = rowsB (x.take k) ++ (rowB x[k] ++ rowsB (x.drop (k + 1))) := by
    conv => lhs; rw [← List.take_append_drop k x, List.drop_eq_getElem_cons hk, rowsB_append]
    congr 1
  unfold padB
  conv => lhs; rw [e]
  rw [List.append_assoc, List.drop_left, List.append_assoc, ← e]
theorem rowsB_next (x : List (List V)) (k : Nat) (hk : k < x.length) : (rowsB (x.take (k + 1))).length = (rowsB (x.take k)).length + (rowB x[k]).length := by
  rw [List.take_succ_eq_append_getElem hk, rowsB_snoc, List.length_append]
theorem rowsB_most (x : List (List V)) (k : Nat) : (rowsB (x.take k)).length ≤ (rowsB x).length := by
  have h : rowsB x = rowsB (x.take k) ++ rowsB (x.drop k) := by rw [← rowsB_append, List.take_append_drop]
  rw [h, List.length_append]
  omega
theorem need_bytes {ids : List Nat} {b : List UInt8} (hn : (ids.length : Int) = needS (b.length : Int)) : b.length ≤ 56 * ids.length ∧ ids.length = (b.length + 55) / 56 := by
  have h1 := needS_nat b.length
  rw [← hn, Int.toNat_natCast] at h1
  omega
theorem may_right {r : List V} (h : mayR r = 0) : ∀ v ∈ r, rightV v = true := by
  unfold mayR at h
  split at h
  · cases h
  · split at h
    · rename_i h2
      exact List.all_eq_true.1 h2
    · cases h
theorem FitB.bytes {x : List (List V)} (h : FitB x) : (rowsB x).length ≤ 900000000 := by
  have h1 := rowsB_le (rows := x) (fun r hr => (h.2 r hr).1)
  have := Nat.mul_le_mul_left 900000 h.1
  omega

set_option maxRecDepth 100000 in
set_option maxHeartbeats 4000000 in
/-- Next, a row or the error of a page. -/
theorem pNextG17_any (O : Nat → Prop) (s : St) (c p J k : Nat) (E : Int) (ids : List Nat) (x : List (List V)) (vi vr : Value) (w : World) (h : PSto O w p s) (hok : okS s) (hk : k < x.length)
    (hC : CuM w c p (ids.drop (((rowsB (x.take k)).length + 55) / 56)) (((padB (rowsB x) ids.length).take (56 * (((rowsB (x.take k)).length + 55) / 56))).drop (rowsB (x.take k)).length) (x.length - k) vi vr) (hoc : ∀ b, O b → ¬ ownC c vi vr b)
    (hfew : ∀ i ∈ ids, i ≤ 4096) (hxl : x.length ≤ 1000) (hfit : ∀ v ∈ x[k], v.fits ∧ rightV v = true) (hrl : x[k].length ≤ 1000) (hpos : (rowsB (x.take k)).length ≤ 56 * J)
    (hp : PgT s ids (rowsB x) J (rowsB (x.take (k + 1))).length E) (hen : (rowsB (x.take (k + 1))).length ≤ 56 * ids.length) :
    Calls Try.prog 28 #[.pointer (some ⟨c, 0, none⟩)] w fun e w' => ∃ O' vi' vr', PSto O' w' p s ∧ Duo O (ownC c vi vr) w O' (ownC c vi' vr') w' ∧
      (((rowsB (x.take (k + 1))).length ≤ 56 * J ∧ ∃ v, e = .returned (.tuple #[v, .bool true, .int .i64 0]) ∧ w'.ownsRow w.heap.size 59 3 v x[k].length (x[k].flatMap V.cells) ∧ (∀ b, v.ownBlock = some b → ¬ O' b ∧ ¬ ownC c vi' vr' b) ∧
        CuM w' c p (ids.drop (((rowsB (x.take (k + 1))).length + 55) / 56)) (((padB (rowsB x) ids.length).take (56 * (((rowsB (x.take (k + 1))).length + 55) / 56))).drop (rowsB (x.take (k + 1))).length) (x.length - (k + 1)) vi' vr') ∨
       (56 * J < (rowsB (x.take (k + 1))).length ∧ e = .returned (.tuple #[.slice none 0 0, .bool false, .int .i64 E]) ∧ ∃ l, Blk w' c [.pointer (some ⟨p, 0, none⟩), vi', vr', .int .i64 l, .int .i64 E] 102)) := by
  have hnx := rowsB_next x k hk
  have HROW := Lib.hid (pRow17_any O c p (rowsB (x.take k)).length J (x.length - k) (rowsB (x.take (k + 1))).length x[k] E s ids (rowsB x) _ vi vr w h hok hp hC hoc hfew hpos (rowsB_at x ids.length k hk) hfit hrl (by omega) (by omega))
  rw [← hnx] at HROW
  have HP := Lib.hid hp
  obtain ⟨L, hL⟩ : ∃ L, x.length - k = L := ⟨_, rfl⟩
  have hL1 : x.length - (k + 1) = L - 1 := by omega
  have hL0 : 0 < L := by omega
  have hL2 : L ≤ 1000 := by omega
  rw [hL] at HROW hC
  rw [hL1]
  have c3 := hC.blk.cell 3 _ rfl
  have c4 := hC.blk.cell 4 _ rfl
  have q0 : ((L : Int) == 0) = false := beq_eq_false_iff_ne.2 (by omega)
  generalize (rowsB (x.take (k + 1))).length = EN at HROW hp HP hen hnx ⊢
  have HJE := Lib.hid (show 56 * J < EN → E ≠ 0 from fun h => (HP.out.bad h (by omega)).2)
  clear h hok hC hoc hfew hfit hpos hp hnx hL hL1 HP
  go_enter Try.func28, Try.ntmps28
  go_wp2_with fail
  refine HROW.out.mono ?_
  rintro e w1 ⟨O1, vi1, vr1, hp1, hd1, ⟨hle, u, rfl, hC1, hu, hua⟩ | ⟨hlt, rfl, is, rest, hC1⟩⟩
  · have HP1 := Lib.hid hp1
    have HD1 := Lib.hid hd1
    have HC1 := Lib.hid hC1
    have HU := Lib.hid hu
    have HUA := Lib.hid hua
    obtain ⟨ua, uc, rfl, -, -⟩ := own_shapeG hu
    have y3 := hC1.blk.cell 3 _ rfl
    have y4 := hC1.blk.cell 4 _ rfl
    have fz := hC1.blk.free
    clear hp1 hd1 hC1 hu hua c3 c4
    go_wp2_with fail
    refine bodyPost_ret (v := .tuple #[.slice ua x[k].length uc, .bool true, .int .i64 0]) (by simp [results, Try.results28, go_sem]) rfl ?_
    have hs := OnlyS.set0 c 3 w1 (.int .i64 ((L : Int) - 1))
    have hC := HC1.out
    have hcb : ∀ b, b = c → ownC c vi1 vr1 b := fun b e => .inl e
    have hb3 : Blk (w1.setCell ⟨c, 3, none⟩ (.int .i64 ((L : Int) - 1))) c [.pointer (some ⟨p, 0, none⟩), vi1, vr1, .int .i64 ((L - 1 : Nat) : Int), .int .i64 0] 102 := by
      have h1 := hC.blk.set 3 (.int .i64 ((L : Int) - 1))
      rw [show ((L - 1 : Nat) : Int) = (L : Int) - 1 by omega]
      exact h1
    refine ⟨O1, vi1, vr1, HP1.out.onlyS hs (fun b hb e => HD1.out.apart b hb (hcb b e)), HD1.out.trans ⟨hs.mono fun b _ hb => .inr (hcb b hb), fun _ hb => .inl hb, fun _ hb => .inl hb, HD1.out.apart⟩, .inl ⟨hle, _, rfl, owns_onlyG HU.out hs (fun b hb e => (HUA.out b hb).2 (hcb b e)), HUA.out, hb3, hC.ids.beside hs (fun b e => .inr fun e2 => (hC.ine b e2).1 e), fun b hb => ⟨(hC.ine b hb).1, Nat.lt_of_lt_of_le (hC.ine b hb).2.1 hs.size, (hC.ine b hb).2.2⟩, hC.rest.beside hs (fun b e => .inl (by omega)), fun b hb => ⟨(hC.rin b hb).1, Nat.lt_of_lt_of_le (hC.rin b hb).2 hs.size⟩, hC.few⟩⟩
  · have HP1 := Lib.hid hp1
    have HD1 := Lib.hid hd1
    have HC1 := Lib.hid hC1
    have hE := HJE.out hlt
    have q1 : (E != 0) = true := by rw [bne_iff_ne]; exact hE
    have q2 : (E == 0) = false := beq_eq_false_iff_ne.2 hE
    have y4 := hC1.blk.cell 4 _ rfl
    have fz := hC1.blk.free
    clear hp1 hd1 hC1 hE c3 c4
    go_wp2_with fail
    refine bodyPost_ret (v := .tuple #[.slice none 0 0, .bool false, .int .i64 E]) (by simp [results, Try.results28, go_sem]) rfl ?_
    have hs := OnlyS.set0 c 4 w1 (.int .i64 E)
    exact ⟨O1, vi1, vr1, HP1.out.onlyS hs (fun b hb e => HD1.out.apart b hb (.inl e)), HD1.out.trans ⟨hs.mono fun b _ hb => .inr (.inl hb), fun _ hb => .inl hb, fun _ hb => .inl hb, HD1.out.apart⟩, .inr ⟨hlt, rfl, _, HC1.out.blk.set 4 _⟩⟩

set_option maxRecDepth 100000 in
set_option maxHeartbeats 1000000 in
/-- Next, where no row is left. -/
theorem pNextZ17_any (c : Nat) (o : Option Addr) (vi vr : Value) (R : List UInt8) (a : Option Addr) (cap : Nat) (w : World) (h : Blk w c [.pointer o, vi, vr, .int .i64 0, .int .i64 0] 102) (hvi : vi = .slice a 0 cap) (hvr : Rd w vr R) (hl : R.length ≤ 140737488355328) (hz : R.all (· == 0) = true) :
    Calls Try.prog 28 #[.pointer (some ⟨c, 0, none⟩)] w fun e w' => e = .returned (.tuple #[.slice none 0 0, .bool false, .int .i64 0]) ∧ OnlyS (fun b => b = c) w w' ∧ Blk w' c [.pointer o, vi, vr, .int .i64 0, .int .i64 0] 102 := by
  have HEND := Lib.hid (pEnd17_any c o vi vr R a cap 0 0 w h hvi hvr hl hz)
  have HB := Lib.hid h
  have HB2 := Lib.hid (show Blk (w.setCell ⟨c, 4, none⟩ (.int .i64 0)) c [.pointer o, vi, vr, .int .i64 0, .int .i64 0] 102 from h.set 4 (.int .i64 0))
  have c3 := h.cell 3 _ rfl
  have c4 := h.cell 4 _ rfl
  have fz := h.free
  have d3 := HB2.out.cell 3 _ rfl
  have d4 := HB2.out.cell 4 _ rfl
  clear h hvi hvr hl hz
  go_enter Try.func28, Try.ntmps28
  go_wp2_with fail
  refine HEND.out.mono ?_
  rintro e w' ⟨rfl, rfl⟩
  go_wp2_with fail
  have HBZ := Lib.hid (fun z : Later Ext (w.setCell ⟨c, 4, none⟩ (.int .i64 0)).drew => (HB2.out.ext (Ext.drew _)).ext z.ext)
  have a4 : ∀ z : Later Ext (w.setCell ⟨c, 4, none⟩ (.int .i64 0)).drew, z.val.cell? ⟨c, 4, none⟩ = some (.int .i64 0) := fun z => (HBZ.out z).cell 4 _ rfl
  refine wp_region_segs Ext Ext.keeps [([0, 1, 2, 3, 4, 5, 6], none)] (by kernel_rfl) (by kernel_rfl) (fun c a a' w e h => (by exact ⟨e ▸ h.1, h.2⟩)) ?_
  simp only [pickSegs, pickOps, List.map_cons, List.map_nil, Option.map_none, Option.getD_some, List.getElem?_toArray, List.getElem?_cons_zero, List.getElem?_cons_succ]
  refine wpSegs_none ?_
  repeat go_big_quiet_step (fail)
  refine wpQuiet_nil (wpSegs_nil ?_)
  clear a4
  go_wp2_with fail
  refine bodyPost_ret (v := .tuple #[.slice none 0 0, .bool false, .int .i64 0]) (by simp [results, Try.results28, go_sem]) rfl ?_
  exact ⟨rfl, (OnlyS.set0 c 4 w (.int .i64 0)).step (OnlyS.of_ext (Ext.drew _)), HB2.out.ext (Ext.drew _)⟩

set_option maxRecDepth 100000 in
set_option maxHeartbeats 1000000 in
theorem pNextAgain17_any (C : Nat → Prop) (c : Nat) (E : Int) (w : World) (hC : CurBad C w c E) :
    Calls Try.prog 28 #[.pointer (some ⟨c, 0, none⟩)] w fun e w' => (∃ v, e = .returned (.tuple #[v, .bool false, .int .i64 E]) ∧ RdVals w' v []) ∧ OnlyS C w w' := by
  obtain ⟨hE, o, vi, vr, l, h⟩ := hC
  have HB := Lib.hid h
  have c3 := h.cell 3 _ rfl
  have c4 := h.cell 4 _ rfl
  have q1 : (E != 0) = true := by rw [bne_iff_ne]; exact hE
  have q2 : (E == 0) = false := beq_eq_false_iff_ne.2 hE
  have HBZ := Lib.hid (fun z : Later Ext w.drew => (HB.out.ext (Ext.drew w)).ext z.ext)
  have a4 : ∀ z : Later Ext w.drew, z.val.cell? ⟨c, 4, none⟩ = some (.int .i64 E) := fun z => (HBZ.out z).cell 4 _ rfl
  clear h hE HBZ
  by_cases hl : l = 0
  · subst hl
    go_enter Try.func28, Try.ntmps28
    go_wp2_with fail
    refine wp_region_segs Ext Ext.keeps [([0, 1, 2, 3, 4, 5, 6], none)] (by kernel_rfl) (by kernel_rfl) (fun c a a' w e h => (by exact ⟨e ▸ h.1, h.2⟩)) ?_
    simp only [pickSegs, pickOps, List.map_cons, List.map_nil, Option.map_none, Option.getD_some, List.getElem?_toArray, List.getElem?_cons_zero, List.getElem?_cons_succ]
    refine wpSegs_none ?_
    repeat go_big_quiet_step (fail)
    refine wpQuiet_nil (wpSegs_nil ?_)
    clear a4
    go_wp2_with fail
    refine bodyPost_ret (v := .tuple #[.slice none 0 0, .bool false, .int .i64 E]) (by simp [results, Try.results28, go_sem]) rfl ?_
    exact ⟨⟨_, rfl, RdVals.nil _⟩, OnlyS.of_ext (Ext.drew w)⟩
  · have q3 : (l == 0) = false := beq_eq_false_iff_ne.2 hl
    clear hl
    go_enter Try.func28, Try.ntmps28
    go_wp2_with fail
    refine wp_region_segs Ext Ext.keeps [([0, 1, 2, 3, 4, 5, 6], none)] (by kernel_rfl) (by kernel_rfl) (fun c a a' w e h => (by exact ⟨e ▸ h.1, h.2⟩)) ?_
    simp only [pickSegs, pickOps, List.map_cons, List.map_nil, Option.map_none, Option.getD_some, List.getElem?_toArray, List.getElem?_cons_zero, List.getElem?_cons_succ]
    refine wpSegs_none ?_
    repeat go_big_quiet_step (fail)
    refine wpQuiet_nil (wpSegs_nil ?_)
    clear a4
    go_wp2_with fail
    refine bodyPost_ret (v := .tuple #[.slice none 0 0, .bool false, .int .i64 E]) (by simp [results, Try.results28, go_sem]) rfl ?_
    exact ⟨⟨_, rfl, RdVals.nil _⟩, OnlyS.of_ext (Ext.drew w)⟩

/-! ### The contracts -/

/-- Next, a row: it ends within the pages that are read. -/
theorem pNextRow17_any (O F C : Nat → Prop) (s : St) (c f p J k : Nat) (ids : List Nat) (x : List (List V)) (w : World) (h : PSto O w p s) (hok : okS s) (hF : Fil F w f p ids x.length) (hC : Cur C w c f p ids x k) (hoc : ∀ b, O b → ¬ C b)
    (hfit : FitB x) (hm : ∀ r ∈ x, mayR r = 0) (hn : (ids.length : Int) = needS ((rowsB x).length : Int)) (hJ : ReadTo s ids (rowsB x) J) (hk : k < x.length) (he : (rowsB (x.take (k + 1))).length ≤ 56 * J) :
    Calls Try.prog 28 #[.pointer (some ⟨c, 0, none⟩)] w fun e w' => ∃ v O' C', e = .returned (.tuple #[v, .bool true, .int .i64 0]) ∧ w'.ownsRow w.heap.size 59 3 v x[k].length (x[k].flatMap V.cells) ∧
      PSto O' w' p s ∧ Cur C' w' c f p ids x (k + 1) ∧ OnlyS (fun b => O b ∨ C b) w w' ∧ (∀ b, O' b → O b ∨ w.heap.size ≤ b) ∧ (∀ b, C' b → C b ∨ w.heap.size ≤ b) ∧ (∀ b, w.heap.size ≤ b → O' b → ¬ C' b) ∧ ∀ b, v.ownBlock = some b → ¬ O' b ∧ ¬ C' b := by
  obtain ⟨vf, hFT, -⟩ := hF
  obtain ⟨-, vi, vr, rfl, hC | ⟨rfl, -⟩⟩ := hC
  · obtain ⟨hb1, hb2⟩ := need_bytes hn
    have hbm := hfit.bytes
    have hfr := hfit.2 x[k] (List.getElem_mem hk)
    have hnx := rowsB_next x k hk
    have hmost := rowsB_most x (k + 1)
    refine (pNextG17_any O s c p J k 0 ids x vi vr w h hok hk hC hoc hFT.few.2.1 hfit.1 (fun v hv => ⟨(hfr.2 v hv).1, may_right (hm _ (List.getElem_mem hk)) v hv⟩) (by have := hfr.1; omega) (by omega) ⟨hb1, hJ.1, by omega, fun j h1 h2 => hJ.2 j h1 h2, fun h1 => absurd h1 (by omega)⟩ (by omega)).mono ?_
    rintro e w' ⟨O', vi', vr', h1, h2, ⟨-, v, rfl, h3, h4, h5⟩ | ⟨h3, -⟩⟩
    · exact ⟨v, O', _, rfl, h3, h1, ⟨hk, vi', vr', rfl, .inl h5⟩, h2.only, h2.os, h2.xs, fun b _ => h2.apart b, h4⟩
    · omega
  · simp at hk
/-- Next at a page that is wrong. -/
theorem pNextBad17_any (O F C : Nat → Prop) (s : St) (c f p J k : Nat) (E : Int) (ids : List Nat) (x : List (List V)) (w : World) (h : PSto O w p s) (hok : okS s) (hF : Fil F w f p ids x.length) (hC : Cur C w c f p ids x k) (hoc : ∀ b, O b → ¬ C b)
    (hfit : FitB x) (hm : ∀ r ∈ x, mayR r = 0) (hn : (ids.length : Int) = needS ((rowsB x).length : Int)) (hJ : ReadTo s ids (rowsB x) J) (hJl : J < ids.length) (hE : readS s (ids[J] : Int) = ([], E)) (hE0 : E ≠ 0) (hk : k < x.length) (hpos : (rowsB (x.take k)).length ≤ 56 * J) (he : 56 * J < (rowsB (x.take (k + 1))).length) :
    Calls Try.prog 28 #[.pointer (some ⟨c, 0, none⟩)] w fun e w' => ∃ v O' C', e = .returned (.tuple #[v, .bool false, .int .i64 E]) ∧ RdVals w' v [] ∧
      PSto O' w' p s ∧ CurBad C' w' c E ∧ OnlyS (fun b => O b ∨ C b) w w' ∧ (∀ b, O' b → O b ∨ w.heap.size ≤ b) ∧ ∀ b, C' b → C b ∨ w.heap.size ≤ b := by
  obtain ⟨vf, hFT, -⟩ := hF
  obtain ⟨-, vi, vr, rfl, hC | ⟨rfl, -⟩⟩ := hC
  · obtain ⟨hb1, hb2⟩ := need_bytes hn
    have hbm := hfit.bytes
    have hfr := hfit.2 x[k] (List.getElem_mem hk)
    have hmost := rowsB_most x (k + 1)
    refine (pNextG17_any O s c p J k E ids x vi vr w h hok hk hC hoc hFT.few.2.1 hfit.1 (fun v hv => ⟨(hfr.2 v hv).1, may_right (hm _ (List.getElem_mem hk)) v hv⟩) (by have := hfr.1; omega) hpos ⟨hb1, hJ.1, by omega, fun j h1 h2 => hJ.2 j h1 h2, fun _ _ => ⟨hE, hE0⟩⟩ (by omega)).mono ?_
    rintro e w' ⟨O', vi', vr', h1, h2, ⟨h3, -⟩ | ⟨-, rfl, l, h3⟩⟩
    · omega
    · exact ⟨_, O', _, rfl, RdVals.nil _, h1, ⟨hE0, _, _, _, _, h3⟩, h2.only, h2.os, h2.xs⟩
  · simp at hk
/-- Next behind the last row. -/
theorem pNextEnd17_any (O F C : Nat → Prop) (s : St) (c f p : Nat) (ids : List Nat) (x : List (List V)) (w : World) (h : PSto O w p s) (_hok : okS s) (_hF : Fil F w f p ids x.length) (hC : Cur C w c f p ids x x.length) (hoc : ∀ b, O b → ¬ C b)
    (_hfit : FitB x) (_hm : ∀ r ∈ x, mayR r = 0) (hn : (ids.length : Int) = needS ((rowsB x).length : Int)) (_hJ : ReadTo s ids (rowsB x) ids.length) :
    Calls Try.prog 28 #[.pointer (some ⟨c, 0, none⟩)] w fun e w' => ∃ v O' C', e = .returned (.tuple #[v, .bool false, .int .i64 0]) ∧ RdVals w' v [] ∧
      PSto O' w' p s ∧ Cur C' w' c f p ids x x.length ∧ OnlyS (fun b => O b ∨ C b) w w' ∧ (∀ b, O' b → O b ∨ w.heap.size ≤ b) ∧ (∀ b, C' b → C b ∨ w.heap.size ≤ b) ∧ (∀ b, w.heap.size ≤ b → O' b → ¬ C' b) := by
  obtain ⟨hk, vi, vr, rfl, hC | ⟨rfl, rfl, ⟨a, cap, rfl, hv⟩, hb⟩⟩ := hC
  · obtain ⟨hb1, hb2⟩ := need_bytes hn
    have hC0 := hC
    rw [List.take_length, ← hb2, List.drop_length, Nat.sub_self] at hC
    obtain ⟨ia, ic, hie, -, -⟩ := hC.ids.shape
    have hrl := padB_rest_len (n := ids.length) (m := ids.length) (rowsB x).length hb1 (Nat.le_refl _)
    have hz : (((padB (rowsB x) ids.length).take (56 * ids.length)).drop (rowsB x).length).all (· == 0) = true := by
      rw [List.take_of_length_le (Nat.le_of_eq (padB_length hb1))]
      unfold padB
      rw [List.drop_left]
      unfold zeros
      rw [List.all_eq_true]
      intro b hb
      rw [List.eq_of_mem_replicate hb]
      rfl
    refine (pNextZ17_any c (some ⟨p, 0, none⟩) vi vr _ ia ic w hC.blk hie hC.rest.rd (by rw [hrl]; omega) hz).mono ?_
    rintro e w' ⟨rfl, ho, hb⟩
    have hcc : ∀ b, b = c → ownC c vi vr b := fun b e => .inl e
    refine ⟨_, O, _, rfl, RdVals.nil _, h.onlyS ho (fun b hO e => hoc b hO (hcc b e)), ⟨hk, vi, vr, rfl, .inl ⟨?_, hC0.ids.beside ho (fun b e => .inr fun e2 => (hC0.ine b e2).1 e), fun b hb => ⟨(hC0.ine b hb).1, Nat.lt_of_lt_of_le (hC0.ine b hb).2.1 ho.size, (hC0.ine b hb).2.2⟩, hC0.rest.beside ho (fun b e => .inl (by omega)), fun b hb => ⟨(hC0.rin b hb).1, Nat.lt_of_lt_of_le (hC0.rin b hb).2 ho.size⟩, hC0.few⟩⟩, ho.mono fun b _ e => .inr (hcc b e), fun _ hb => .inl hb, fun _ hb => .inl hb, fun b _ => hoc b⟩
    rw [Nat.sub_self]
    exact hb
  · refine (pNextZ17_any c none _ _ [] a cap w hb rfl (Rd.nil w) (by simp) rfl).mono ?_
    rintro e w' ⟨rfl, ho, hb'⟩
    have hcc : ∀ b, b = c → ownC c (.slice a 0 cap) (.slice none 0 0) b := fun b e => .inl e
    exact ⟨_, O, _, rfl, RdVals.nil _, h.onlyS ho (fun b hO e => hoc b hO (hcc b e)), ⟨hk, _, _, rfl, .inr ⟨rfl, rfl, ⟨a, cap, rfl, fun b hb => Nat.lt_of_lt_of_le (hv b hb) ho.size⟩, hb'⟩⟩, ho.mono fun b _ e => .inr (hcc b e), fun _ hb => .inl hb, fun _ hb => .inl hb, fun b _ => hoc b⟩

end Go.Proofs.Ytoagpaphghgkmaa

/-
  The document's own Put of layer 17.
-/
namespace Go.Proofs.Ytoagpaphghgkmaa
open Go.RowKit Go.BigFrame

/-- Put's answer. -/
def Putted17 (w : World) (q g : Nat) (s : St) (rows : List (List V)) (e : Ending) (w' : World) : Prop :=
  ∃ v, e = .returned (.tuple #[v, .int .i64 (putR s rows).1.2]) ∧ w'.ownsRow w.heap.size 3 1 v (putR s rows).1.1.length (ivs (putR s rows).1.1) ∧ RSto w' q g (putR s rows).2 ∧ OnlyS (fun j => j = g) w w'

set_option maxRecDepth 100000 in
set_option maxHeartbeats 8000000 in
theorem refPut17_any (q g : Nat) (s : St) (u : Value) (rows : List (List V)) (w0 w : World) (h : RSto w q g s) (hw : Below w0.heap.size w0 w) (hu : RdRows w0 u rows) (hg : w0.heap.size ≤ g) (hf : FitB rows) :
    Calls Try.prog 16 #[.pointer (some ⟨q, 0, none⟩), u] w (Putted17 w q g s rows) := by
  obtain ⟨i0, hi, hz0, hz1, hz2⟩ := info_parts Try.info5
  obtain ⟨ao, ca, rfl, -, -⟩ := hu.shape
  obtain ⟨fh, hfh, -, h1, h2, hat⟩ := hu.heads
  have HAT := Lib.hid hat
  have HFH := Lib.hid hfh
  have HF := Lib.hid hf
  have HW0 := Lib.hid hw
  have HG0 := Lib.hid hg
  have hfew := h.few
  have hgw : g < w.heap.size := h.lt
  have hqw : q < w.heap.size := lt_of_cell h.top
  have hus : usedS s ≤ s.length := List.countP_le_length
  have HRS0 := Lib.hid h
  unfold maxLen at h2
  obtain ⟨N, hN⟩ : ∃ N, rows.length = N := ⟨_, rfl⟩
  have HN := Lib.hid hN
  have HBL := Lib.hid (show ∀ j, (rowsB (rows.take j)).length ≤ 900000000 from fun j => by
    have h3 := rowsB_le (rows := rows.take j) (fun r hr => (hf.2 r (List.mem_of_mem_take hr)).1)
    have h4 : (rows.take j).length ≤ 1000 := by rw [List.length_take]; have := hf.1; omega
    have := Nat.mul_le_mul_left 900000 h4
    omega)
  have HLATER := Lib.hid (show ∀ W, OnlyS (fun j => j = g) w W → Below w0.heap.size w0 W from fun W hW => hw.trans (hW.below hw.size (fun b hb => hb ▸ hg)))
  rw [hN] at h1 ⊢
  clear h hw hu hat hfh hf hg hN
  go_enter Try.func16, Try.ntmps16
  go_upto_block 0 with fail
  go_cut [6, 7, 8, 9] from 11 to 51 (fun bv' iv' ev _ W =>
    (ev = .int .i64 0 ∧ (∀ r ∈ rows, mayR r = 0) ∧ (rowsB rows).length / 56 + usedS s ≤ s.length ∧ W.ownsRow w.heap.size 3 1 iv' ((rowsB rows).length / 56) (ivs (idsK s ((rowsB rows).length / 56))) ∧ RSto W q g (storeK s (rowsB rows) ((rowsB rows).length / 56)) ∧ OwnT w.heap.size 5 W bv' (((rowsB rows).drop (56 * ((rowsB rows).length / 56))).map bv) ∧ OnlyS (fun j => j = g) w W) ∨
    (∃ (E : Int) (K : Nat) (B : List UInt8), ev = .int .i64 E ∧ E ≠ 0 ∧ putR s rows = (([], E), s) ∧ K + usedS s ≤ s.length ∧ W.ownsRow w.heap.size 3 1 iv' K (ivs (idsK s K)) ∧ RSto W q g (storeK s B K) ∧ OnlyS (fun j => j = g) w W ∧ ∃ l : List UInt8, OwnT w.heap.size 5 W bv' (l.map bv)))
  case first =>
    go_wp2_with fail
    go_loopw [6, 7, 8, 9] (fun bv' iv' ev i wr => ∃ j : Nat, j ≤ N ∧ i = .int .i64 j ∧
      ((ev = .int .i64 0 ∧ (∀ r ∈ rows.take j, mayR r = 0) ∧ (rowsB (rows.take j)).length / 56 + usedS s ≤ s.length ∧ wr.ownsRow w.heap.size 3 1 iv' ((rowsB (rows.take j)).length / 56) (ivs (idsK s ((rowsB (rows.take j)).length / 56))) ∧ RSto wr q g (storeK s (rowsB (rows.take j)) ((rowsB (rows.take j)).length / 56)) ∧ OwnT w.heap.size 5 wr bv' (((rowsB (rows.take j)).drop (56 * ((rowsB (rows.take j)).length / 56))).map bv) ∧ OnlyS (fun j => j = g) w wr) ∨
      (∃ (E : Int) (K : Nat) (B : List UInt8), ev = .int .i64 E ∧ E ≠ 0 ∧ putR s rows = (([], E), s) ∧ K + usedS s ≤ s.length ∧ wr.ownsRow w.heap.size 3 1 iv' K (ivs (idsK s K)) ∧ RSto wr q g (storeK s B K) ∧ OnlyS (fun j => j = g) w wr ∧ ∃ l : List UInt8, OwnT w.heap.size 5 wr bv' (l.map bv)))) (fun _ _ _ i _ => N - (intOf i).toNat)
    case atStart =>
      refine ⟨0, Nat.zero_le _, rfl, .inl ⟨rfl, fun r hr => by simp at hr, ?_⟩⟩
      have e : rowsB (rows.take 0) = [] := rfl
      rw [e]
      obtain ⟨e1, e2⟩ := storeK_zero s []
      simp only [List.length_nil, Nat.zero_div]
      rw [e1, e2]
      exact ⟨by omega, owns_nil _ _ _ _, HRS0.out, OwnT.nil _ _ _, OnlyS.refl _ _⟩
    case round =>
      obtain ⟨j, hj, rfl, hst⟩ := hrel
      rcases hst with ⟨rfl, hgood, hroom, hid, hrs, htl, hos⟩ | ⟨E, K, B, rfl, hE, hpr, hroom, hid, hrs, hos, l, htl⟩
      · obtain ⟨k, hk⟩ : ∃ k, (rowsB (rows.take j)).length / 56 = k := ⟨_, rfl⟩
        have HKK := Lib.hid hk
        rw [hk] at hroom hid hrs htl
        have HGOOD := Lib.hid hgood
        have HID := Lib.hid hid
        have HRS := Lib.hid hrs
        have HTL := Lib.hid htl
        have HOS := Lib.hid hos
        have HROOM := Lib.hid hroom
        clear hgood hid hrs htl hos hroom hk
        by_cases hlt : j < N
        · have hjl : j < rows.length := by have := HN.out; omega
          obtain ⟨a1, a2, a3, ha, hra⟩ := HFH.out.get j hjl
          obtain ⟨g2, off, rfl, c0⟩ := HAT.out j _ ha
          have HB0 := Lib.hid (HLATER.out wr HOS.out)
          have x0 := (HB0.out.cell (lt_of_cell c0)).trans c0
          have HCELL := Lib.hid (fun W (h : OnlyS (fun j => j = g) w W) => ((HLATER.out W h).cell (lt_of_cell c0)).trans c0)
          have hfj := HF.out.2 rows[j] (List.getElem_mem hjl)
          have HMAY := Lib.hid (refMay17_any _ rows[j] wr (hra.mono HB0.out) (fun v hv => ⟨(hfj.2 v hv).1, Nat.le_trans (hfj.2 v hv).2 (by decide)⟩))
          have HROW := Lib.hid (fun W (h : OnlyS (fun j => j = g) w W) => refRow17_any _ rows[j] W (hra.mono (HLATER.out W h)) hfj.2 hfj.1)
          have HTS := Lib.hid (List.take_succ_eq_append_getElem hjl)
          have HBAD := Lib.hid (fun (hbad : mayR rows[j] ≠ 0) => putR_bad hjl HGOOD.out hbad (by rw [HKK.out]; exact HROOM.out))
          have HGD2 := Lib.hid (show mayR rows[j] = 0 → ∀ r ∈ rows.take (j + 1), mayR r = 0 from fun h0 r hr => by
            rw [HTS.out] at hr
            rcases List.mem_append.1 hr with hr | hr
            · exact HGOOD.out r hr
            · rw [List.mem_singleton] at hr
              rw [hr]
              exact h0)
          have HBS := Lib.hid (show rowsB (rows.take (j + 1)) = rowsB (rows.take j) ++ rowB rows[j] from by rw [HTS.out, rowsB_snoc])
          have HRBL := Lib.hid (rowB_le rows[j])
          have hr400 := hfj.1
          generalize mayR rows[j] = m at HMAY HBAD HGD2
          generalize rows[j] = r at HROW HBS HRBL hr400
          clear ha hra c0 hfj HTS
          obtain ⟨pa, pc, rfl, -, -⟩ := own_shape HID.out
          obtain ⟨ba, bc, rfl, hbc1, hbc2⟩ := HTL.out.shape
          unfold maxLen at hbc2
          obtain ⟨n0, hn0⟩ : ∃ n0, (((rowsB (rows.take j)).drop (56 * k)).map bv).length = n0 := ⟨_, rfl⟩
          have HN0 := Lib.hid hn0
          rw [hn0] at HTL hbc1 ⊢
          clear hn0
          go_wp2_with fail
          refine HMAY.out.mono ?_
          rintro e w1 ⟨rfl, x1⟩
          have HOS1 := Lib.hid (HOS.out.trans (OnlyS.of_ext (X := fun j => j = g) x1) (fun _ _ h => h))
          have HID1 := Lib.hid (owns_extS HID.out x1)
          have HRS1 := Lib.hid (HRS.out.mono x1)
          have HTL1 := Lib.hid (HTL.out.ext x1)
          have y0 := HCELL.out w1 HOS1.out
          clear x1 HID HRS HTL HOS HMAY
          by_cases hm : m = 0
          · subst hm
            have HG3 := Lib.hid (HGD2.out rfl)
            go_wp2_with fail
            refine (HROW.out w1 HOS1.out).mono ?_
            rintro e w2 ⟨v2, rfl, ho2, hb2⟩
            have HR2 := Lib.hid (RdV.of_owns ho2)
            have HOS2 := Lib.hid (HOS1.out.trans (OnlyS.of_ext (X := fun j => j = g) hb2) (fun _ _ h => h))
            have HID2 := Lib.hid (owns_extS HID1.out hb2)
            have HRS2 := Lib.hid (HRS1.out.mono hb2)
            have HTL2 := Lib.hid (HTL1.out.ext hb2)
            have HONE := Lib.hid (bv_oneCellS (rowB r))
            have HBL2 := Lib.hid (show (((rowsB (rows.take j)).drop (56 * k)).map bv).length + ((rowB r).map bv).length ≤ 1000000000 from by
              rw [List.length_map, List.length_drop, List.length_map]
              have h3 := HBL.out j
              have h4 := HRBL.out
              omega)
            have HSZ2 := Lib.hid HOS2.out.size
            clear ho2 hb2 HOS1 HID1 HRS1 HTL1 y0
            go_upto_block 2 with (at_builtin; go_must (refine wpList_append_tail rfl (.tmp 28) (.tmp 33) 43 rfl w.heap.size 5 i0 (.int .u8 0) 1 Try.underlying43 hi hz0 hz1 hz2 rfl _ _ rfl HTL2.out _ _ rfl HR2.out HONE.out (by have := HBL2.out; unfold maxLen; omega) (by have := HBL2.out; omega) HSZ2.out ?_); intro v3 w3 h3a h3b h3c h3d; have HTL3 := Lib.hid h3a; have HB3 := Lib.hid h3b; have HKEEP := Lib.hid h3d; clear h3a h3b h3c h3d)
            obtain ⟨B, hB⟩ : ∃ B, rowsB (rows.take (j + 1)) = B := ⟨_, rfl⟩
            have HBE := Lib.hid hB
            have hpre : 56 * k ≤ (rowsB (rows.take j)).length := by have := HKK.out; omega
            have hid3 := HKEEP.out _ _ _ _ _ (by decide) HID2.out
            have htl3 : OwnT w.heap.size 5 w3 v3 ((B.drop (56 * k)).map bv) := by
              rw [← hB, HBS.out, List.drop_append_of_le_length hpre, List.map_append]
              exact HTL3.out
            have hrs3 : RSto w3 q g (storeK s B k) := by
              rw [← hB, HBS.out, storeK_prefix _ HROOM.out hpre]
              exact HRS2.out.below HB3.out hqw hgw
            have hos3 : OnlyS (fun j => j = g) w w3 := ⟨HB3.out.os.trans HOS2.out.os, HB3.out.tape.trans HOS2.out.tape, HB3.out.output.trans HOS2.out.output, Nat.le_trans HOS2.out.size HB3.out.size, fun b hb hx => (HB3.out.block b hb).trans (HOS2.out.block b hb hx)⟩
            have hpre2 : 56 * k ≤ B.length := by rw [← hB, HBS.out, List.length_append]; omega
            have hBl : B.length ≤ 900000000 := hB ▸ HBL.out (j + 1)
            have HFULL := Lib.hid (fun (K : Nat) (h1 : K + usedS s = s.length) (h2 : 56 * (K + 1) ≤ B.length) => putR_full HG3.out h1 (by rw [HBE.out]; exact h2))
            have HID3 := Lib.hid hid3
            have HTLB := Lib.hid htl3
            have HRS3 := Lib.hid hrs3
            have HOS3 := Lib.hid hos3
            have HP2 := Lib.hid hpre2
            clear hid3 htl3 hrs3 hos3 hpre2 hpre hB HTL3 HTL2 HRS2 HID2 HR2 HONE HBL2
            go_wp2_with fail
            go_loopw [6, 7, 8] (fun bv' iv' ev wr => (∃ k' : Nat, ev = .int .i64 0 ∧ k' + usedS s ≤ s.length ∧ 56 * k' ≤ B.length ∧ wr.ownsRow w.heap.size 3 1 iv' k' (ivs (idsK s k')) ∧ RSto wr q g (storeK s B k') ∧ OwnT w.heap.size 5 wr bv' ((B.drop (56 * k')).map bv) ∧ OnlyS (fun j => j = g) w wr) ∨
              (∃ (K : Nat) (l : List UInt8), ev = .int .i64 4 ∧ putR s rows = (([], 4), s) ∧ K + usedS s ≤ s.length ∧ wr.ownsRow w.heap.size 3 1 iv' K (ivs (idsK s K)) ∧ RSto wr q g (storeK s B K) ∧ OwnT w.heap.size 5 wr bv' (l.map bv) ∧ OnlyS (fun j => j = g) w wr)) (fun bv' _ _ _ => match bv' with | .slice _ n _ => n | _ => 0)
            case atStart => exact .inl ⟨k, rfl, HROOM.out, HP2.out, HID3.out, HRS3.out, HTLB.out, HOS3.out⟩
            case round =>
              rcases hrel with ⟨k', rfl, hroom', hpre', hid', hrs', htl', hos'⟩ | ⟨K, l, rfl, hpr', hroom', hid', hrs', htl', hos'⟩
              · have HROOM4 := Lib.hid hroom'
                have HPRE4 := Lib.hid hpre'
                have HID4 := Lib.hid hid'
                have HRS4 := Lib.hid hrs'
                have HTL4 := Lib.hid htl'
                have HOS4 := Lib.hid hos'
                clear hid' hrs' htl' hos'
                obtain ⟨ba4, bc4, rfl, hb41, hb42⟩ := HTL4.out.shape
                obtain ⟨n4, hn4⟩ : ∃ n4, ((B.drop (56 * k')).map bv).length = n4 := ⟨_, rfl⟩
                have HN4 := Lib.hid hn4
                rw [hn4] at HTL4 hb41 ⊢
                have hn4l : n4 = B.length - 56 * k' := by rw [← hn4, List.length_map, List.length_drop]
                unfold maxLen at hb42
                clear hn4
                by_cases h56 : 56 ≤ n4
                · have d1 : decide ((n4 : Int) ≥ 56) = true := decide_eq_true (by omega)
                  have d1' : decide (56 ≤ n4) = true := decide_eq_true h56
                  have HPG := Lib.hid (refPage17_any q g w.heap.size s B k' _ (.slice ba4 56 bc4) wr HRS4.out HROOM4.out hfew HID4.out hgw hqw HOS4.out.size (by
                    have h3 := rdV_first HTL4.out.rd 56 h56
                    rw [← List.map_take] at h3
                    exact h3) (fun _ jb hjb e => by
                    have h3 := (HTL4.out.lt (fun e0 => by
                      have h4 := HN4.out
                      rw [e0] at h4
                      simp at h4
                      omega) (k := jb) ((ownBlock_len ba4 n4 56 bc4).trans hjb)).1
                    omega))
                  have hfree : 56 * (k' + 1) ≤ B.length := by omega
                  clear hn4l
                  go_wp2_with fail
                  refine HPG.out.mono ?_
                  rintro e w5 ⟨hres, ho5⟩
                  have HOS5 := Lib.hid (show OnlyS (fun j => j = g) w w5 from HOS4.out.trans ho5 (fun i hi hx => by
                    rcases hx with hx | hx
                    · exact hx
                    · have := (HID4.out.lt i hx).1
                      omega))
                  obtain ⟨a6, c6, ht6, -, hrun⟩ := OwnT.drop Try.underlying43 hi hz1 (HTL4.out.beside_row (by decide) HID4.out hgw ho5) 56 h56
                  have hrun6 : ∀ W, (Instr.slice 43 (.slice ba4 n4 bc4) (some (.int .i64 56)) none none).run Try.prog W = .ok (.slice a6 (n4 - 56) c6) W := hrun
                  have HT6 := Lib.hid (show OwnT w.heap.size 5 w5 (.slice a6 (n4 - 56) c6) ((B.drop (56 * (k' + 1))).map bv) from by
                    have h3 := ht6
                    rw [← List.map_drop, List.drop_drop, show 56 * k' + 56 = 56 * (k' + 1) by omega] at h3
                    exact h3)
                  clear ho5 ht6 hrun
                  rcases hres with ⟨hlt5, v5, rfl, hid5, hrs5, -⟩ | ⟨hful, rfl, hid5, hrs5⟩
                  · have HID5 := Lib.hid hid5
                    have HRS5 := Lib.hid hrs5
                    clear hid5 hrs5
                    go_wp2_with fail
                    go_roundw
                    case rel => exact .inl ⟨k' + 1, rfl, by omega, hfree, HID5.out, HRS5.out, HT6.out, HOS5.out⟩
                    case measure => simp; omega
                  · have HID5 := Lib.hid hid5
                    have HRS5 := Lib.hid hrs5
                    have HPR5 := Lib.hid (HFULL.out k' hful hfree)
                    clear hid5 hrs5
                    go_wp2_with fail
                    go_roundw
                    case rel => exact .inr ⟨k', _, rfl, HPR5.out, HROOM4.out, HID5.out, HRS5.out, HT6.out, HOS5.out⟩
                    case measure => simp; omega
                · have d1 : decide ((n4 : Int) ≥ 56) = false := decide_eq_false (by omega)
                  have d1' : decide (56 ≤ n4) = false := decide_eq_false h56
                  have hk4 : B.length / 56 = k' := by omega
                  have HK4 := Lib.hid hk4
                  clear hk4 hn4l
                  go_wp2_with fail
                  go_roundw
                  case rel => exact ⟨j + 1, by omega, by go_num, .inl ⟨rfl, HG3.out, by rw [HBE.out, HK4.out]; exact ⟨HROOM4.out, HID4.out, HRS4.out, HTL4.out, HOS4.out⟩⟩⟩
                  case measure => simp [intOf]; omega
              · have HST := Lib.hid (show _ ∧ _ ∧ _ ∧ _ ∧ _ ∧ _ from ⟨hpr', hroom', hid', hrs', htl', hos'⟩)
                obtain ⟨ba4, bc4, rfl, hb41, hb42⟩ := htl'.shape
                obtain ⟨n4, hn4⟩ : ∃ n4, (l.map bv).length = n4 := ⟨_, rfl⟩
                rw [hn4] at HST hb41 ⊢
                unfold maxLen at hb42
                clear hpr' hroom' hid' hrs' htl' hos' hn4
                by_cases h56 : 56 ≤ n4
                · have d1 : decide ((n4 : Int) ≥ 56) = true := decide_eq_true (by omega)
                  have d1' : decide (56 ≤ n4) = true := decide_eq_true h56
                  go_wp2_with fail
                  go_roundw
                  case rel => exact ⟨j + 1, by omega, by go_num, .inr ⟨4, K, B, rfl, by decide, HST.out.1, HST.out.2.1, HST.out.2.2.1, HST.out.2.2.2.1, HST.out.2.2.2.2.2, l, HST.out.2.2.2.2.1⟩⟩
                  case measure => simp [intOf]; omega
                · have d1 : decide ((n4 : Int) ≥ 56) = false := decide_eq_false (by omega)
                  have d1' : decide (56 ≤ n4) = false := decide_eq_false h56
                  go_wp2_with fail
                  go_roundw
                  case rel => exact ⟨j + 1, by omega, by go_num, .inr ⟨4, K, B, rfl, by decide, HST.out.1, HST.out.2.1, HST.out.2.2.1, HST.out.2.2.2.1, HST.out.2.2.2.2.2, l, HST.out.2.2.2.2.1⟩⟩
                  case measure => simp [intOf]; omega
          · have q1 : (m != (0 : Int)) = true := bne_iff_ne.2 hm
            have HB2 := Lib.hid (HBAD.out hm)
            have HM := Lib.hid hm
            clear hm
            go_wp2_with fail
            go_meet
            exact .inr ⟨m, _, _, rfl, HM.out, HB2.out, HROOM.out, HID1.out, HRS1.out, HOS1.out, _, HTL1.out⟩
        · have HALL := Lib.hid (show rows.take j = rows from List.take_of_length_le (by have := HN.out; omega))
          go_wp2_with fail
          go_meet
          rw [HALL.out] at HGOOD HRS HTL HKK
          rw [HKK.out]
          exact .inl ⟨rfl, HGOOD.out, HROOM.out, HID.out, HRS.out, HTL.out, HOS.out⟩
      · have q1 : (E == (0 : Int)) = false := beq_eq_false_iff_ne.2 hE
        have HST := Lib.hid (show (∃ (E' : Int) (K : Nat) (B : List UInt8), Value.int .i64 E = .int .i64 E' ∧ E' ≠ 0 ∧ putR s rows = (([], E'), s) ∧ K + usedS s ≤ s.length ∧ wr.ownsRow w.heap.size 3 1 _ K (ivs (idsK s K)) ∧ RSto wr q g (storeK s B K) ∧ OnlyS (fun j => j = g) w wr ∧ ∃ l : List UInt8, OwnT w.heap.size 5 wr _ (l.map bv)) from ⟨E, K, B, rfl, hE, hpr, hroom, hid, hrs, hos, l, htl⟩)
        clear hE hpr hroom hid hrs hos htl
        by_cases hlt : j < N
        · go_wp2_with fail
          go_meet
          exact .inr HST.out
        · go_wp2_with fail
          go_meet
          exact .inr HST.out
  case rest =>
  rcases hcut with ⟨rfl, hgood, hroom, hid, hrs, htl, hos⟩ | ⟨E, K, B, rfl, hE, hpr, hroom, hid, hrs, hos, l, htl⟩
  · obtain ⟨B, hB⟩ : ∃ B, rowsB rows = B := ⟨_, rfl⟩
    obtain ⟨K, hK⟩ : ∃ K, B.length / 56 = K := ⟨_, rfl⟩
    rw [hB, hK] at hroom hid hrs htl
    have hbl := HBL.out N
    rw [List.take_of_length_le (by have := HN.out; omega), hB] at hbl
    have hns := needS_nat B.length
    have hng := needS_ge B.length
    have hpa := putR_all (s := s) hgood
    rw [hB] at hpa
    have HID := Lib.hid hid
    have HRS := Lib.hid hrs
    have HTL := Lib.hid htl
    have HOS := Lib.hid hos
    obtain ⟨ba, bc, rfl, hbc1, hbc2⟩ := HTL.out.shape
    unfold maxLen at hbc2
    obtain ⟨n0, hn0⟩ : ∃ n0, ((B.drop (56 * K)).map bv).length = n0 := ⟨_, rfl⟩
    have hn0l : n0 = B.length - 56 * K := by rw [← hn0, List.length_map, List.length_drop]
    have HN0 := Lib.hid hn0
    rw [hn0] at HTL hbc1 ⊢
    clear hid hrs htl hos hgood hn0 hB
    by_cases hpos : 0 < n0
    · have d1 : decide ((n0 : Int) > 0) = true := decide_eq_true (by omega)
      have d1' : decide (0 < n0) = true := decide_eq_true hpos
      have htk : (B.drop (56 * K)).take 56 = B.drop (56 * K) := List.take_of_length_le (by rw [List.length_drop]; omega)
      have HPG := Lib.hid (refPage17_any q g w.heap.size s B K _ (.slice ba n0 bc) wc HRS.out hroom hfew HID.out hgw hqw HOS.out.size (by rw [htk]; exact HTL.out.rd) (fun _ jb hjb e => by
        have h3 := (HTL.out.lt (fun e0 => by
          have h4 := HN0.out
          rw [e0] at h4
          simp at h4
          omega) (k := jb) hjb).1
        omega))
      have hneed : (needS (B.length : Int)).toNat = K + 1 := by omega
      have HPROK := Lib.hid (fun (hlt : K + usedS s < s.length) => show putR s rows = ((idsK s (K + 1), 0), storeK s B (K + 1)) from by rw [hpa, if_neg (by omega), hneed])
      have HPRNO := Lib.hid (fun (hful : K + usedS s = s.length) => show putR s rows = (([], 4), s) from by rw [hpa, if_pos (by omega)])
      have HROOM := Lib.hid hroom
      clear htk hneed hpa hns hng hn0l hroom hK hbl
      go_wp2_with fail
      refine HPG.out.mono ?_
      rintro e w5 ⟨hres, ho5⟩
      have HOS5 := Lib.hid (show OnlyS (fun j => j = g) w w5 from HOS.out.trans ho5 (fun i hi hx => by
        rcases hx with hx | hx
        · exact hx
        · have := (HID.out.lt i hx).1
          omega))
      clear ho5
      rcases hres with ⟨hlt5, v5, rfl, hid5, hrs5, -⟩ | ⟨hful, rfl, hid5, hrs5⟩
      · have HID5 := Lib.hid hid5
        have HRS5 := Lib.hid hrs5
        have HPR := Lib.hid (HPROK.out hlt5)
        have HKL := Lib.hid (show (idsK s (K + 1)).length = K + 1 from idsK_length (by omega))
        clear hid5 hrs5 hlt5
        go_wp2_with fail
        go_ret2
        exact ⟨_, by rw [HPR.out]; rfl, by rw [HPR.out]; show _root_.Go.World.ownsRow _ _ _ _ _ (idsK s (K + 1)).length _; rw [HKL.out]; exact HID5.out, by rw [HPR.out]; exact HRS5.out, HOS5.out⟩
      · have HPR := Lib.hid (HPRNO.out hful)
        have HIDS := Lib.hid hid5
        have HRS5 := Lib.hid hrs5
        have HKL := Lib.hid (idsK_length HROOM.out)
        have hK4 : K ≤ 4096 := by omega
        clear hid5 hrs5 hful HRS HOS
        have HRS := Lib.hid HRS5.out
        have HOS := Lib.hid HOS5.out
        clear HRS5 HOS5
        obtain ⟨pa, pc, rfl, hpc1, hpc2⟩ := own_shape HIDS.out
        unfold maxLen at hpc2
        go_wp2_with fail
        go_loopw [10] (fun i wr => ∃ j : Nat, j ≤ K ∧ i = .int .i64 j ∧ wr.ownsRow w.heap.size 3 1 (.slice pa K pc) K (ivs (idsK s K)) ∧ RSto wr q g (dropS (storeK s B K) (((idsK s K).take j).map fun (i : Nat) => (i : Int))) ∧ OnlyS (fun j => j = g) w wr) (fun i _ => K - (intOf i).toNat)
        case atStart => exact ⟨0, Nat.zero_le _, rfl, HIDS.out, HRS.out, HOS.out⟩
        case round =>
          obtain ⟨j, hj, rfl, hid, hrs, hos⟩ := hrel
          have HID2 := Lib.hid hid
          have HRS2 := Lib.hid hrs
          have HOS2 := Lib.hid hos
          clear hid hrs hos
          by_cases hlt : j < K
          · have hil : j < (idsK s K).length := by rw [HKL.out]; exact hlt
            obtain ⟨gi, oi, ei, ci⟩ := (RdV.plainV (RdV.of_owns HID2.out)).2.2.2 j (iv (idsK s K)[j]) (by unfold ivs; rw [List.getElem?_map, List.getElem?_eq_getElem hil]; rfl)
            unfold iv at ci
            subst ei
            have hx4 : (idsK s K)[j] < s.length := by have := takeS_lt K 0 s _ (List.getElem_mem hil); omega
            have HFR := Lib.hid (refFree_any q g _ ((idsK s K)[j] : Int) wr HRS2.out (by omega) (by omega))
            have HTS := Lib.hid (show ((idsK s K).take (j + 1)).map (fun (i : Nat) => (i : Int)) = ((idsK s K).take j).map (fun (i : Nat) => (i : Int)) ++ [((idsK s K)[j] : Int)] from by rw [List.take_succ_eq_append_getElem hil, List.map_append]; rfl)
            generalize (idsK s K)[j] = x at ci HFR HTS
            clear hil hx4
            go_wp2_with fail
            refine HFR.out.mono ?_
            rintro e w9 ⟨rfl, hr9, hx9⟩
            have HRS9 := Lib.hid hr9
            have HID9 := Lib.hid (owns_beside HID2.out (v := .slice (some ⟨g, 0, none⟩) 0 0) (OnlyS.of_onlyP (X := fun j => (Value.slice (some ⟨g, 0, none⟩) 0 0).ownBlock = some j) hx9 rfl) (fun j hj e => by
              have h6 := (HID2.out.lt j hj).1
              have h7 : g = j := Option.some.inj e
              omega))
            have HOS9 := Lib.hid (HOS2.out.trans (OnlyS.of_onlyP (X := fun j => j = g) hx9 rfl) (fun _ _ h => h))
            clear hr9 hx9
            go_wp2_with fail
            go_roundw
            case rel => exact ⟨j + 1, by omega, by go_num, HID9.out, by rw [HTS.out, dropS_snoc]; exact HRS9.out, HOS9.out⟩
            case measure => simp [intOf]; omega
          · have hjK : j = K := by omega
            subst hjK
            have HB0 := Lib.hid (show dropS (storeK s B j) (((idsK s j).take j).map fun (i : Nat) => (i : Int)) = s from by rw [List.take_of_length_le (by rw [HKL.out]; exact Nat.le_refl _)]; exact storeK_back s B j)
            go_wp2_with fail
            go_ret2
            exact ⟨_, by rw [HPR.out]; rfl, by rw [HPR.out]; exact owns_nil _ _ _ _, by rw [HPR.out, ← HB0.out]; exact HRS2.out, HOS2.out⟩
    · have d1 : decide ((n0 : Int) > 0) = false := decide_eq_false (by omega)
      have d1' : decide (0 < n0) = false := decide_eq_false hpos
      have HPR := Lib.hid (show putR s rows = ((idsK s K, 0), storeK s B K) from by rw [hpa, if_neg (by omega), show (needS (B.length : Int)).toNat = K by omega])
      have HKL := Lib.hid (idsK_length hroom)
      clear hpa hns hng hn0l hroom hK hbl
      go_wp2_with fail
      go_ret2
      exact ⟨_, by rw [HPR.out]; rfl, by rw [HPR.out]; show _root_.Go.World.ownsRow _ _ _ _ _ (idsK s K).length _; rw [HKL.out]; exact HID.out, by rw [HPR.out]; exact HRS.out, HOS.out⟩
  · have HIDS := Lib.hid hid
    have HRS := Lib.hid hrs
    have HOS := Lib.hid hos
    have HPR := Lib.hid hpr
    have HKL := Lib.hid (idsK_length hroom)
    have q1 : (E == (0 : Int)) = false := beq_eq_false_iff_ne.2 hE
    have q2 : (E != (0 : Int)) = true := bne_iff_ne.2 hE
    have hK4 : K ≤ 4096 := by omega
    clear hid hrs hos hpr htl hE hroom
    obtain ⟨pa, pc, rfl, hpc1, hpc2⟩ := own_shape HIDS.out
    unfold maxLen at hpc2
    go_wp2_with fail
    go_loopw [10] (fun i wr => ∃ j : Nat, j ≤ K ∧ i = .int .i64 j ∧ wr.ownsRow w.heap.size 3 1 (.slice pa K pc) K (ivs (idsK s K)) ∧ RSto wr q g (dropS (storeK s B K) (((idsK s K).take j).map fun (i : Nat) => (i : Int))) ∧ OnlyS (fun j => j = g) w wr) (fun i _ => K - (intOf i).toNat)
    case atStart => exact ⟨0, Nat.zero_le _, rfl, HIDS.out, HRS.out, HOS.out⟩
    case round =>
      obtain ⟨j, hj, rfl, hid, hrs, hos⟩ := hrel
      have HID2 := Lib.hid hid
      have HRS2 := Lib.hid hrs
      have HOS2 := Lib.hid hos
      clear hid hrs hos
      by_cases hlt : j < K
      · have hil : j < (idsK s K).length := by rw [HKL.out]; exact hlt
        obtain ⟨gi, oi, ei, ci⟩ := (RdV.plainV (RdV.of_owns HID2.out)).2.2.2 j (iv (idsK s K)[j]) (by unfold ivs; rw [List.getElem?_map, List.getElem?_eq_getElem hil]; rfl)
        unfold iv at ci
        subst ei
        have hx4 : (idsK s K)[j] < s.length := by have := takeS_lt K 0 s _ (List.getElem_mem hil); omega
        have HFR := Lib.hid (refFree_any q g _ ((idsK s K)[j] : Int) wr HRS2.out (by omega) (by omega))
        have HTS := Lib.hid (show ((idsK s K).take (j + 1)).map (fun (i : Nat) => (i : Int)) = ((idsK s K).take j).map (fun (i : Nat) => (i : Int)) ++ [((idsK s K)[j] : Int)] from by rw [List.take_succ_eq_append_getElem hil, List.map_append]; rfl)
        generalize (idsK s K)[j] = x at ci HFR HTS
        clear hil hx4
        go_wp2_with fail
        refine HFR.out.mono ?_
        rintro e w9 ⟨rfl, hr9, hx9⟩
        have HRS9 := Lib.hid hr9
        have HID9 := Lib.hid (owns_beside HID2.out (v := .slice (some ⟨g, 0, none⟩) 0 0) (OnlyS.of_onlyP (X := fun j => (Value.slice (some ⟨g, 0, none⟩) 0 0).ownBlock = some j) hx9 rfl) (fun j hj e => by
          have h6 := (HID2.out.lt j hj).1
          have h7 : g = j := Option.some.inj e
          omega))
        have HOS9 := Lib.hid (HOS2.out.trans (OnlyS.of_onlyP (X := fun j => j = g) hx9 rfl) (fun _ _ h => h))
        clear hr9 hx9
        go_wp2_with fail
        go_roundw
        case rel => exact ⟨j + 1, by omega, by go_num, HID9.out, by rw [HTS.out, dropS_snoc]; exact HRS9.out, HOS9.out⟩
        case measure => simp [intOf]; omega
      · have hjK : j = K := by omega
        subst hjK
        have HB0 := Lib.hid (show dropS (storeK s B j) (((idsK s j).take j).map fun (i : Nat) => (i : Int)) = s from by rw [List.take_of_length_le (by rw [HKL.out]; exact Nat.le_refl _)]; exact storeK_back s B j)
        go_wp2_with fail
        go_ret2
        exact ⟨_, by rw [HPR.out]; rfl, by rw [HPR.out]; exact owns_nil _ _ _ _, by rw [HPR.out, ← HB0.out]; exact HRS2.out, HOS2.out⟩

end Go.Proofs.Ytoagpaphghgkmaa

/-
  The program's contracts of layer 17, all of them: files, cursors, Put, Bytes (writers: see SpiWrites).
-/
