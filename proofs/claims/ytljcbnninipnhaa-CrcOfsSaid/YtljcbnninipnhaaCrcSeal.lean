/-
  The program's contracts: Seal, Open.
-/
import Derived.Test.YtljcbnninipnhaaCrcProg
import Derived.Test.YtljcbnninipnhaaLibBytes
namespace Go.Proofs.Ytljcbnninipnhaa
open Go.RowKit

theorem owns_base {b b' : Nat} {e : TypeId} {w : World} {v : Value} {n : Nat} {xs : List Value} (h : w.ownsRow b e 1 v n xs) (hb : b' ≤ b) : w.ownsRow b' e 1 v n xs := by
  refine ⟨h.1, ?_⟩
  rcases h.2 with h | ⟨g, cap, cur, h1, h2, h3⟩
  · exact .inl h
  · exact .inr ⟨g, cap, cur, h1, by omega, h3⟩

theorem arr4_agg (s : BitVec 32) : arr4 s = .agg #[.int .u8 ((s.toNat : Int) / 16777216), .int .u8 ((s.toNat : Int) / 65536 % 256), .int .u8 ((s.toNat : Int) / 256 % 256), .int .u8 ((s.toNat : Int) % 256)] := by
  unfold arr4
  rw [be4_values]

set_option maxRecDepth 100000 in
set_option maxHeartbeats 1000000 in
theorem Seal_any (v : Value) (l : List UInt8) (w : World) (hr : Rd w v l) (hl : l.length + 4 ≤ 140737488355328) :
    Calls Try.prog 17 #[v] w (Fresh 5 w ((sealed l).map bv)) := by
  obtain ⟨va, vc, rfl, hv1, hv2⟩ := hr.shape
  have HR := Lib.hid hr
  have HAG := Lib.hid (arr4_agg (sumOf l))
  have HBE := Lib.hid (be4_values (sumOf l))
  have HIN := Lib.hid (fun w => inBytes_any (sumOf l) w)
  have HOF := Lib.hid (Of_any _ l w hr)
  have hs := (sumOf l).isLt
  clear hr hv1 hv2
  have HLL := Lib.hid hl
  clear hl
  generalize arr4 (sumOf l) = A at HAG HIN
  generalize (sumOf l).toNat = n at HAG HBE HIN HOF hs
  go_enter Try.func17, Try.ntmps17
  go_wp2_with fail
  refine HOF.out.mono ?_
  rintro e w1 ⟨rfl, hb1⟩
  have HB1 := Lib.hid hb1
  clear hb1
  go_wp2_with fail
  refine (HIN.out _).mono ?_
  rintro e w2 ⟨rfl, hb2⟩
  have HB2 := Lib.hid (Ext.trans HB1.out hb2)
  rw [HAG.out]
  clear hb2
  go_wp2_with fail
  refine (Concat_any ⟨w2.heap.size + 1, 0, none⟩ 2 2 [.slice va l.length vc, .slice (some ⟨w2.heap.size, 0, none⟩) 4 4] [l, be4 (sumOf l)] _ rfl rfl (Nat.le_refl _) (by omega) ?_ ?_ ?_).mono ?_
  · intro i u hu
    have := cells_new (w2.alloc (Obj.cells #[.int .u8 ((n : Int) / 16777216), .int .u8 ((n : Int) / 65536 % 256), .int .u8 ((n : Int) / 256 % 256), .int .u8 ((n : Int) % 256)] 39)) _ 23 i u hu
    simpa using this
  · intro i u m hu hm
    match i, hu, hm with
    | 0, hu, hm =>
      cases hu; cases hm
      exact HR.out.mono (((HB2.out).alloc HB2.out.size _).alloc (by have := HB2.out.size; simp; omega) _)
    | 1, hu, hm =>
      cases hu; cases hm
      refine Rd.mono (w := w2.alloc (Obj.cells #[.int .u8 ((n : Int) / 16777216), .int .u8 ((n : Int) / 65536 % 256), .int .u8 ((n : Int) / 256 % 256), .int .u8 ((n : Int) % 256)] 39)) ?_ ((Below.refl _ _).alloc (Nat.le_refl _) _)
      refine .inr ⟨⟨w2.heap.size, 0, none⟩, 4, by rw [HBE.out]; rfl, by rw [HBE.out]; exact Nat.le_refl 4, by simp [maxLen], ?_⟩
      rw [HBE.out]
      exact cells_new _ _ _
    | i + 2, hu, hm => cases hu
  · have := HLL.out
    simp [be4]
    omega
  · rintro e w3 ⟨v3, rfl, ho, hb⟩
    have HO := Lib.hid ho
    have H3 := Lib.hid hb
    clear ho hb
    go_wp2_with fail
    go_ret
    refine ⟨_, rfl, ?_, ?_⟩
    · have h := HO.out
      have e : [l, be4 (sumOf l)].flatten = sealed l := by simp [sealed]
      rw [e] at h
      exact owns_base h (by have := HB2.out.size; simp; omega)
    · exact (((HB2.out).alloc HB2.out.size _).alloc (by have := HB2.out.size; simp; omega) _).trans (H3.out.mono (by have := HB2.out.size; simp; omega))

/-- A call that opens into memory of its own. -/
def OpenedOwn (w : World) (l : List UInt8) (e : Ending) (w' : World) : Prop :=
  ∃ u, e = .returned (.tuple #[u, .int .i64 (if opens l = true then 0 else 6)]) ∧ w'.ownsRow w.heap.size 5 1 u (opened l).length ((opened l).map bv) ∧ Ext w w'

theorem openedOwn_no {w w' : World} {l : List UInt8} (h : opens l = false) (hb : Ext w w') : OpenedOwn w l (.returned (.tuple #[.slice none 0 0, .int .i64 6])) w' := by
  refine ⟨.slice none 0 0, ?_, ?_, hb⟩
  · rw [h]; rfl
  · unfold opened; rw [h]; exact World.ownsRow_nil _ _ _ _
theorem openedOwn_yes {w w' : World} {l : List UInt8} {u : Value} (h : opens l = true) (hr : w'.ownsRow w.heap.size 5 1 u (l.take (l.length - 4)).length ((l.take (l.length - 4)).map bv)) (hb : Ext w w') : OpenedOwn w l (.returned (.tuple #[u, .int .i64 0])) w' := by
  refine ⟨u, ?_, ?_, hb⟩
  · rw [h]; rfl
  · unfold opened; rw [h]; exact hr

set_option maxRecDepth 100000 in
set_option maxHeartbeats 1000000 in
theorem Open_short (a : Option Addr) (L cap : Nat) (l : List UInt8) (w : World) (hL : L = l.length) (h4 : L < 4) :
    Calls Try.prog 15 #[.slice a L cap] w (OpenedOwn w l) := by
  have ho : opens l = false := by unfold opens; rw [decide_eq_false (by omega)]; rfl
  have HO := Lib.hid ho
  have hd : decide ((L : Int) < 4) = true := decide_eq_true (by omega)
  clear ho hL
  go_enter Try.func15, Try.ntmps15
  go_wp2_with fail
  go_ret2
  exact openedOwn_no HO.out (Below.refl _ _)

theorem eq_four (a0 a1 a2 a3 b0 b1 b2 b3 : Int) (w : World) :
    (Op.equalIn 10000 39 (.agg #[.int .u8 a0, .int .u8 a1, .int .u8 a2, .int .u8 a3]) (.agg #[.int .u8 b0, .int .u8 b1, .int .u8 b2, .int .u8 b3])).run Try.prog w = .ok (a0 == b0 && (a1 == b1 && (a2 == b2 && a3 == b3))) w := by
  have e1 := fun (a b : Int) (w : World) => run_equalIn_int (P := Try.prog) w 9998 5 .u8 .u8 a b Try.underlying5
  have u3 := Try.isAgg5
  have z3 := Try.sizeOf5
  rw [show (10000 : Nat) = 9999 + 1 from rfl, Op.equalIn]
  rw [show (9999 : Nat) = 9998 + 1 from rfl]
  generalize (9998 : Nat) = d at e1 ⊢
  simp [run_underlying Try.underlying39, z3, e1, Std.Legacy.Range.forIn_eq_forIn_range', List.range', part, u3]
  by_cases h0 : a0 = b0 <;> by_cases h1 : a1 = b1 <;> by_cases h2 : a2 = b2 <;> by_cases h3 : a3 = b3 <;> simp [h0, h1, h2, h3]

theorem four_list (l : List UInt8) (h : l.length = 4) : ∃ a b c d, l = [a, b, c, d] := by
  match l, h with
  | [a, b, c, d], _ => exact ⟨a, b, c, d, rfl⟩

theorem below_keeps (N : Nat) : Keeps (Below N) := ⟨fun w => Below.refl _ w, fun _ _ _ h k => h.trans k⟩
instance (N : Nat) (w : World) : Inhabited (Later (Below N) w) := ⟨⟨w, Below.refl _ _⟩⟩

set_option maxRecDepth 100000 in
set_option maxHeartbeats 1000000 in
theorem Open_long (x : Addr) (L cap : Nat) (l : List UInt8) (w : World) (hL : L = l.length) (h4 : 4 ≤ L) (_hc : L ≤ cap) (_hm : cap ≤ 9223372036854775807) (hl : l.length + 4 ≤ 140737488355328) (hr : Rd w (.slice (some x) L cap) l) :
    Calls Try.prog 15 #[.slice (some x) L cap] w (OpenedOwn w l) := by
  have hd : decide ((L : Int) < 4) = false := decide_eq_false (by omega)
  have HR := Lib.hid hr
  have HL := Lib.hid hL
  obtain ⟨c0, c1, c2, c3, htl⟩ := four_list (l.drop (L - 4)) (by rw [List.length_drop]; omega)
  have HTL := Lib.hid htl
  obtain ⟨d0, d1, d2, d3, hdd⟩ := four_list (be4 (sumOf (l.take (l.length - 4)))) rfl
  have HDD := Lib.hid hdd
  have htk : ∀ W, Rd W (.slice (some x) L cap) l → Rd W (.slice (some x) (L - 4) cap) (l.take (l.length - 4)) := fun W h => by
    rcases h with ⟨h0, _⟩ | ⟨x', cap', h0, h5, h6, h7⟩
    · cases h0
    · simp only [Value.slice.injEq, Option.some.injEq] at h0
      obtain ⟨rfl, _, rfl⟩ := h0
      have := RdV.takes h5 h6 h7 (L - 4) (L - 4) (by rw [List.length_map]; omega)
      rw [← List.map_take, hL] at this
      rw [hL]
      exact this
  have HTK := Lib.hid htk
  obtain ⟨b, off, rfl, HCE⟩ : ∃ b off, x = ⟨b, off, none⟩ ∧ Hid (∀ (i : Nat) c, [c0, c1, c2, c3][i]? = some c → w.cell? ⟨b, off + (L - 4) + i, none⟩ = some (.int .u8 (c.toNat : Int))) := by
    rcases hr with ⟨h0, _⟩ | ⟨x', cap', h0, h5, h6, h7⟩
    · cases h0
    · simp only [Value.slice.injEq, Option.some.injEq] at h0
      obtain ⟨rfl, _, rfl⟩ := h0
      have hx : ∃ u, w.cell? (x.add 0) = some u := ⟨_, h7 0 (bv (l[0]'(by omega))) (by rw [List.getElem?_map, List.getElem?_eq_getElem (by omega)]; rfl)⟩
      rw [add_zero] at hx
      obtain ⟨u, hu⟩ := hx
      obtain ⟨b, off, rfl, _⟩ := plain_of hu
      refine ⟨b, off, rfl, Lib.hid fun i c hi => ?_⟩
      have hlc : l[L - 4 + i]? = some c := by rw [← List.getElem?_drop, htl]; exact hi
      have := h7 (L - 4 + i) (bv c) (by rw [List.getElem?_map, hlc]; rfl)
      rw [add_at, ← Nat.add_assoc] at this
      exact this
  clear hr hL htl htk hdd
  go_enter Try.func15, Try.ntmps15
  go_wp2_with fail
  refine wp_region_segs (Below w.heap.size) (below_keeps _) [([0, 1, 2, 3, 4, 5, 6, 7], some 8), ([9], some 10)] (by kernel_rfl) (by kernel_rfl) (fun c a a' w e h => (by exact ⟨e ▸ h.1, h.2⟩)) ?_
  simp only [pickSegs, pickOps, List.map_cons, List.map_nil, Option.map_some, Option.getD_some, List.getElem?_toArray, List.getElem?_cons_zero, List.getElem?_cons_succ]
  refine wpSegs_some fun K hK => ?_
  have harr : ∀ W : World, (Instr.arrayAt 39 (.slice (some ⟨b, off + (L - 4), none⟩) (L - (L - 4)) (cap - (L - 4)))).run Try.prog W = .ok (.pointer (some ⟨b, off + (L - 4), none⟩)) W := fun W => by
    unfold Instr.arrayAt
    simp [run_underlying Try.underlying39]
    omega
  have hca : ∀ z : Later (Below w.heap.size) w.drew, ∀ i c, [c0, c1, c2, c3][i]? = some c → z.val.cell? ⟨b, off + (L - 4) + i, none⟩ = some (.int .u8 (c.toNat : Int)) := fun z i c hi => by
    have := HCE.out i c hi
    rw [(Below.drew (Below.refl w.heap.size w)).trans z.ext |>.cell (lt_of_cell this)]
    exact this
  have hc0 := fun z => hca z 0 c0 rfl
  have hc1 := fun z => hca z 1 c1 rfl
  have hc2 := fun z => hca z 2 c2 rfl
  have hc3 := fun z => hca z 3 c3 rfl
  rw [Nat.add_zero] at hc0
  clear hca
  repeat go_big_quiet_step (fail)
  refine wpQuiet_nil ?_
  clear hc0 hc1 hc2 hc3 harr
  go_wp2_with fail
  refine ⟨Below.alloc (w := w.drew) (Below.refl w.heap.size w.drew) (Nat.le_refl _) _, hK _ _ ?_⟩
  clear hK K
  refine wpSegs_some fun K hK => ?_
  repeat go_big_quiet_step (fail)
  refine wpQuiet_nil ?_
  go_wp2_with fail
  refine ⟨⟨rfl, rfl, rfl, by simp, fun k hk => ?_⟩, hK _ _ ?_⟩
  · show (w.alloc _).heap[k]? = (w.alloc _).heap[k]?
    rw [Below.heap_alloc w _ k hk, Below.heap_alloc w _ k hk]
  clear hK K
  refine wpSegs_nil ?_
  go_wp2_with fail
  have hcells : ∀ z : Later Ext ((w.alloc (Obj.cells #[.int .u8 (c0.toNat : Int), .int .u8 (c1.toNat : Int), .int .u8 (c2.toNat : Int), .int .u8 (c3.toNat : Int)] 39)).drew.drew), ∀ i u, [Value.int .u8 (c0.toNat : Int), .int .u8 (c1.toNat : Int), .int .u8 (c2.toNat : Int), .int .u8 (c3.toNat : Int)][i]? = some u → z.val.cell? ⟨w.heap.size, i, none⟩ = some u := fun z i u hi => by
    have := cells_new w [Value.int .u8 (c0.toNat : Int), .int .u8 (c1.toNat : Int), .int .u8 (c2.toNat : Int), .int .u8 (c3.toNat : Int)] 39 i u hi
    rw [add_at, Nat.zero_add] at this
    rw [z.ext.cell (lt_of_cell this)]
    exact this
  have hc0 := fun z => hcells z 0 _ rfl
  have hc1 := fun z => hcells z 1 _ rfl
  have hc2 := fun z => hcells z 2 _ rfl
  have hc3 := fun z => hcells z 3 _ rfl
  have HW := Lib.hid (show Ext w (w.alloc (Obj.cells #[.int .u8 (c0.toNat : Int), .int .u8 (c1.toNat : Int), .int .u8 (c2.toNat : Int), .int .u8 (c3.toNat : Int)] 39)).drew from ((Below.refl _ _).alloc (Nat.le_refl _) _).drew)
  clear hcells
  generalize (w.alloc (Obj.cells #[.int .u8 (c0.toNat : Int), .int .u8 (c1.toNat : Int), .int .u8 (c2.toNat : Int), .int .u8 (c3.toNat : Int)] 39)).drew = W at hc0 hc1 hc2 hc3 HW ⊢
  refine wp_region_segs Ext Ext.keeps [([0, 1], some 2), ([], some 3), ([4], none)] (by kernel_rfl) (by kernel_rfl) (fun c a a' w e h => (by exact ⟨e ▸ h.1, h.2⟩)) ?_
  simp only [pickSegs, pickOps, List.map_cons, List.map_nil, Option.map_some, Option.map_none, Option.getD_some, List.getElem?_toArray, List.getElem?_cons_zero, List.getElem?_cons_succ]
  refine wpSegs_some fun K hK => ?_
  repeat go_big_quiet_step (fail)
  refine wpQuiet_nil ?_
  clear hc0 hc1 hc2 hc3
  go_wp2_with fail
  refine (Of_any _ (l.take (l.length - 4)) _ (HTK.out _ (HR.out.mono (Ext.trans HW.out (Ext.drew _))))).mono ?_
  rintro e w1 ⟨rfl, hb1⟩
  have HB1 := Lib.hid hb1
  clear hb1
  go_wp2_with fail
  refine ⟨HB1.out, hK _ _ ?_⟩
  clear hK K
  refine wpSegs_some fun K hK => ?_
  refine wpQuiet_nil ?_
  go_wp2_with fail
  refine (inBytes_any (sumOf (l.take (l.length - 4))) _).mono ?_
  rintro e w2 ⟨rfl, hb2⟩
  have HB2 := Lib.hid hb2
  clear hb2
  go_wp2_with fail
  refine ⟨HB2.out, hK _ _ ?_⟩
  clear hK K
  have hagg : arr4 (sumOf (l.take (l.length - 4))) = .agg #[bv d0, bv d1, bv d2, bv d3] := by unfold arr4; rw [HDD.out]; rfl
  unfold bv at hagg
  rw [hagg]
  clear hagg
  have HEX := Lib.hid (Ext.trans (Ext.trans HW.out (Ext.drew _)) (Ext.trans HB1.out HB2.out))
  by_cases he : [c0, c1, c2, c3] = [d0, d1, d2, d3]
  · have HOP := Lib.hid (show opens l = true by
      have hz : sealed (l.take (l.length - 4)) = l := by
        unfold sealed
        have h1 := HTL.out
        rw [HL.out] at h1
        rw [HDD.out, ← he, ← h1, List.take_append_drop]
      unfold opens
      rw [decide_eq_true (by have := HL.out; omega), decide_eq_true ((opens_zero l (by have := HL.out; omega)).1 hz)]; rfl)
    simp only [List.cons.injEq, and_true] at he
    obtain ⟨rfl, rfl, rfl, rfl⟩ := he
    have hEQ : ∀ W, (Op.equalIn 10000 39 (.agg #[.int .u8 (c0.toNat : Int), .int .u8 (c1.toNat : Int), .int .u8 (c2.toNat : Int), .int .u8 (c3.toNat : Int)]) (.agg #[.int .u8 (c0.toNat : Int), .int .u8 (c1.toNat : Int), .int .u8 (c2.toNat : Int), .int .u8 (c3.toNat : Int)])).run Try.prog W = .ok true W := fun W => by
      rw [eq_four]; simp
    have hguard : Try.prog.eqGuardType Try.prog.depth 39 = false := by kernel_rfl
    refine wpSegs_none ?_
    repeat go_big_quiet_step (fail)
    refine wpQuiet_nil ?_
    refine wpSegs_nil ?_
    clear hEQ hguard
    go_wp2_with fail
    refine (Clone_any _ (l.take (l.length - 4)) _ (HTK.out _ (HR.out.mono HEX.out)) (by rw [List.length_take]; omega)).mono ?_
    rintro e w3 ⟨u, rfl, ho, hb⟩
    have HO := Lib.hid ho
    have HB := Lib.hid hb
    clear ho hb
    go_wp2_with fail
    go_ret2
    refine openedOwn_yes HOP.out ?_ (Ext.trans HEX.out HB.out)
    have h1 := owns_base HO.out HEX.out.size
    rw [List.length_map] at h1
    exact h1
  · have HOP := Lib.hid (show opens l = false by
      unfold opens
      rw [Bool.and_eq_false_iff]
      refine .inr (decide_eq_false (fun h => he ?_))
      have hz := (opens_zero l (by have := HL.out; omega)).2 h
      have h1 := HTL.out
      rw [HL.out] at h1
      rw [← h1, ← HDD.out]
      unfold sealed at hz
      have h2 := List.take_append_drop (l.length - 4) l
      exact (List.append_cancel_left (hz.trans h2.symm)).symm)
    have hEQ : ∀ W, (Op.equalIn 10000 39 (.agg #[.int .u8 (c0.toNat : Int), .int .u8 (c1.toNat : Int), .int .u8 (c2.toNat : Int), .int .u8 (c3.toNat : Int)]) (.agg #[.int .u8 (d0.toNat : Int), .int .u8 (d1.toNat : Int), .int .u8 (d2.toNat : Int), .int .u8 (d3.toNat : Int)])).run Try.prog W = .ok false W := fun W => by
      rw [eq_four]
      congr 1
      rw [← Bool.not_eq_true]
      simp only [Bool.and_eq_true, beq_iff_eq, Int.natCast_inj]
      rintro ⟨h0, h1, h2, h3⟩
      exact he (by rw [UInt8.toNat_inj.1 h0, UInt8.toNat_inj.1 h1, UInt8.toNat_inj.1 h2, UInt8.toNat_inj.1 h3])
    have hguard : Try.prog.eqGuardType Try.prog.depth 39 = false := by kernel_rfl
    clear he
    refine wpSegs_none ?_
    repeat go_big_quiet_step (fail)
    refine wpQuiet_nil ?_
    refine wpSegs_nil ?_
    clear hEQ hguard
    go_wp2_with fail
    go_ret2
    exact openedOwn_no HOP.out HEX.out

theorem Open_any (v : Value) (l : List UInt8) (w : World) (hr : Rd w v l) (hl : l.length + 4 ≤ 140737488355328) :
    Calls Try.prog 15 #[v] w (OpenedOwn w l) := by
  obtain ⟨a, cap, rfl, h1, h2, ca⟩ := RdV.cellsAt hr
  rw [List.length_map] at h1 hr ⊢
  unfold maxLen at h2
  by_cases h4 : l.length < 4
  · exact Open_short a _ cap l w rfl h4
  · cases a with
    | none =>
      obtain ⟨x, hx, _⟩ := ca 0 (bv (l[0]'(by omega))) (by rw [List.getElem?_map, List.getElem?_eq_getElem (by omega)]; rfl)
      cases hx
    | some x => exact Open_long x _ cap l w rfl (by omega) h1 (by omega) hl hr

end Go.Proofs.Ytljcbnninipnhaa
