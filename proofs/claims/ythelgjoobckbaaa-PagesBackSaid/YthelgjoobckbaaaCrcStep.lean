/-
  The program's contracts: shift, ofBytes, stepper and what it makes.
-/
import Derived.Test.YthelgjoobckbaaaCrcRef
import Derived.Test.YthelgjoobckbaaaTable
namespace Go.Proofs.Ythelgjoobckbaaa
open Go.RowKit

theorem shift_any (n : Nat) (w : World) (hn : n < 4294967296) :
    Calls Try.prog 58 #[.int .u32 n] w fun e w' => e = .returned (.int .u32 (stN n 0)) ∧ w = w' := by
  by_cases h : n / 2147483648 = 1
  · have e : stN n 0 = (n * 2 % 4294967296) ^^^ 2168537515 := if_neg (by omega)
    have hd : (((n : Int) / 2147483648) == 1) = true := by rw [beq_iff_eq]; omega
    have hx := u32_xor (n * 2 % 4294967296) 2168537515 (by omega) (by omega)
    have HX := Lib.hid hx
    rw [e]
    clear h e hx
    go_enter Try.func58, Try.ntmps58
    go_wp2_with fail
    go_ret
    refine ⟨congrArg Ending.returned (congrArg (Value.int IntKind.u32) ?_), rfl⟩
    rw [← HX.out]
    rfl
  · have e : stN n 0 = n * 2 % 4294967296 := if_pos (by omega)
    have hd : (((n : Int) / 2147483648) == 1) = false := by rw [beq_eq_false_iff_ne]; omega
    rw [e]
    clear h e
    go_enter Try.func58, Try.ntmps58
    go_wp2_with fail
    go_ret
    exact ⟨rfl, rfl⟩

/-- The block has the table's first m sums, and sums behind them. -/
def TabTo (w : World) (g m : Nat) : Prop := ∃ cur : Array Value, w.heap[g]? = some (.cells cur 93 (0, 0)) ∧ cur.size = 256 ∧ (∀ k, k < m → cur[k]? = some (.int .u32 (tab k))) ∧ ∀ k, k < 256 → ∃ z : Int, cur[k]? = some (.int .u32 z)

theorem below_setRow {B g : Nat} {a w : World} (h : Below B a w) (hg : B ≤ g) (cs : Array Value) : Below B a (w.setRow g cs) :=
  h.trans ⟨rfl, rfl, rfl, by simp, fun k hk => setRow_other _ _ _ _ (by omega)⟩

theorem zero256 : (Try.prog.info? 93).map (fun i => (i.zero, i.size)) = some (some (.agg (Array.replicate 256 (.int .u32 0))), 256) := by kernel_rfl
theorem run_zero256 : ∃ Z : Array Value, (∀ w : World, (zeroValue 93).run Try.prog w = .ok (.agg Z) w) ∧ Z.size = 256 ∧ ∀ k, k < 256 → Z[k]? = some (.int .u32 0) := by
  refine ⟨Array.replicate 256 (.int .u32 0), fun w => ?_, by simp, fun k hk => by rw [Array.getElem?_replicate, if_pos hk]⟩
  have h := zero256
  cases hi : Try.prog.info? 93 with
  | none => rw [hi] at h; cases h
  | some i =>
    rw [hi] at h
    simp only [Option.map_some, Option.some.injEq, Prod.mk.injEq] at h
    simp [zeroValue, typeInfo, hi, h.1]

set_option maxRecDepth 100000 in
set_option maxHeartbeats 1000000 in
theorem ofBytes_any (w : World) :
    Calls Try.prog 56 #[] w fun e w' => (∃ cur : Array Value, e = .returned (.agg cur) ∧ cur.size = 256 ∧ ∀ k, k < 256 → cur[k]? = some (.int .u32 (tab k))) ∧ Ext w w' := by
  obtain ⟨Z, hZ, hZ1, hZ2⟩ := run_zero256
  have HZ1 := Lib.hid hZ1
  have HZ2 := Lib.hid hZ2
  clear hZ1 hZ2
  go_enter Try.func56, Try.ntmps56
  go_wp2_with fail
  obtain ⟨g, hg⟩ : ∃ g, g = w.heap.size := ⟨_, rfl⟩
  have HG := Lib.hid hg
  have HS := Lib.hid (show TabTo ((w.alloc (Obj.cells Z 93)).alloc (Obj.cells Z 93)) (g + 1) 1 ∧ ((w.alloc (Obj.cells Z 93)).alloc (Obj.cells Z 93)).heap[g]? = some (.cells Z 93 (0, 0)) by
    subst hg
    exact ⟨⟨Z, heap_alloc2_new _ _ _, HZ1.out, fun k hk => by rw [HZ2.out k (by omega), show k = 0 by omega, tab_zero]; rfl, fun k hk => ⟨0, HZ2.out k hk⟩⟩, heap_alloc2_old _ _ _⟩)
  have HB := Lib.hid (show Ext w ((w.alloc (Obj.cells Z 93)).alloc (Obj.cells Z 93)) from ((Below.refl _ w).alloc (Nat.le_refl _) _).alloc (by simp) _)
  rw [← hg]
  generalize (w.alloc (Obj.cells Z 93)).alloc (Obj.cells Z 93) = W at HS HB
  clear hg hZ
  go_loopw [3] (fun i wr => ∃ k : Nat, k ≤ 128 ∧ i = .int .i64 k ∧ TabTo wr (g + 1) (max 1 (2 * k)) ∧ wr.heap[g]? = some (.cells Z 93 (0, 0)) ∧ Ext w wr) (fun i _ => 128 - (intOf i).toNat)
  case atStart => exact ⟨0, Nat.zero_le _, rfl, HS.out.1, HS.out.2, HB.out⟩
  case round =>
    obtain ⟨k, hk, rfl, htab, hres, hext⟩ := hrel
    have HE := Lib.hid hext
    have HRES := Lib.hid hres
    by_cases hlt : k < 128
    · obtain ⟨cur, hcur, hsz, hcs, hall⟩ := htab
      have hc0 : wr.cell? ⟨g + 1, k, none⟩ = some (.int .u32 (tab k)) := by rw [cell_of_row _ _ _ _ _ _ hcur]; exact hcs k (by omega)
      obtain ⟨z1, hz1⟩ := hall (2 * k) (by omega)
      obtain ⟨z2, hz2⟩ := hall (2 * k + 1) (by omega)
      have hc1 : wr.cell? ⟨g + 1, 2 * k, none⟩ = some (.int .u32 z1) := by rw [cell_of_row _ _ _ _ _ _ hcur]; exact hz1
      have hc2 : wr.cell? ⟨g + 1, 2 * k + 1, none⟩ = some (.int .u32 z2) := by rw [cell_of_row _ _ _ _ _ _ hcur]; exact hz2
      have HALL := Lib.hid hall
      have hfr : ∀ j, wr.frozen? ⟨g + 1, j, none⟩ = false := fun j => by simp [World.frozen?, hcur]
      have HC := Lib.hid hcur
      have HSZ := Lib.hid hsz
      have HCS := Lib.hid hcs
      have htl := tab_lt k
      have HT := Lib.hid (tab_all k hlt)
      obtain ⟨T, hT⟩ : ∃ T, T = tab k := ⟨_, rfl⟩
      rw [← hT] at hc0 htl HT
      clear hcur hsz hcs hext hres hT hz1 hz2 hall
      go_wp2_with fail
      refine (shift_any T _ htl).mono ?_
      rintro e w1 ⟨rfl, rfl⟩
      go_wp2_with fail
      go_roundw
      case rel =>
        have hx : bits BinOp.xor IntKind.u32 ((stN T 0 : Nat) : Int) 2168537515 = ((stN T 0 ^^^ 2168537515 : Nat) : Int) := u32_xor (stN T 0) 2168537515 (by rw [← HT.out.1]; exact tab_lt _) (by decide)
        rw [hx, ← HT.out.1, ← HT.out.2]
        have h1 := heap_setCell_same wr (g + 1) (2 * k) cur 93 (.int .u32 (tab (2 * k))) HC.out
        have h2 := heap_setCell_same _ (g + 1) (2 * k + 1) _ 93 (.int .u32 (tab (2 * k + 1))) h1
        have hz := HSZ.out
        refine ⟨k + 1, by omega, by go_num, ⟨_, h2, by simpa using hz, fun j hj => ?_, fun j hj => ?_⟩, ?_, ?_⟩
        · by_cases e2 : j = 2 * k + 1
          · rw [e2, Array.getElem?_setIfInBounds_self_of_lt (by simp; omega)]
          · by_cases e1 : j = 2 * k
            · rw [Array.getElem?_setIfInBounds_ne (by omega), e1, Array.getElem?_setIfInBounds_self_of_lt (by omega)]
            · rw [Array.getElem?_setIfInBounds_ne (by omega), Array.getElem?_setIfInBounds_ne (by omega)]
              exact HCS.out j (by omega)
        · by_cases e2 : j = 2 * k + 1
          · rw [e2, Array.getElem?_setIfInBounds_self_of_lt (by simp; omega)]; exact ⟨_, rfl⟩
          · by_cases e1 : j = 2 * k
            · rw [Array.getElem?_setIfInBounds_ne (by omega), e1, Array.getElem?_setIfInBounds_self_of_lt (by omega)]; exact ⟨_, rfl⟩
            · rw [Array.getElem?_setIfInBounds_ne (by omega), Array.getElem?_setIfInBounds_ne (by omega)]
              exact HALL.out j hj
        · rw [Below.heap_setCell _ _ _ _ (by simp), Below.heap_setCell _ _ _ _ (by simp)]
          exact HRES.out
        · have hg := HG.out
          exact (Below.setCell (Below.setCell HE.out (by simp; omega) _) (by simp; omega) _)
      case measure => simp [intOf]; omega
    · have hk2 : k = 128 := by omega
      subst hk2
      obtain ⟨cur, hcur, hsz, hcs, hall⟩ := htab
      have HCS := Lib.hid hcs
      have HSZ := Lib.hid hsz
      have hone : cur.all (·.oneCell') = true := by
        rw [Array.all_eq_true]
        intro i hi
        obtain ⟨z, hz⟩ := hall i (by omega)
        rw [Array.getElem?_eq_getElem hi] at hz
        simp only [Option.some.injEq] at hz
        rw [hz]; rfl
      have hinfo : (Try.prog.info? 93).map (·.size) = some cur.size := by rw [hsz]; kernel_rfl
      have hZs : Z.size = cur.size := by rw [hsz, HZ1.out]
      have HH := Lib.hid (⟨hone, hinfo, hZs⟩ : cur.all (·.oneCell') = true ∧ (Try.prog.info? 93).map (·.size) = some cur.size ∧ Z.size = cur.size)
      clear hcs hsz hall hone hinfo hZs hext hres
      have HCUR := Lib.hid hcur
      clear hcur
      go_wp2_with (first
        | (refine wpList_load_row rfl 93 (.tmp 1) rfl (g + 1) rfl 93 cur (0, 0) _ HCUR.out Try.underlying93 rfl HH.out.2.1 ?_)
        | (refine wpList_store_row rfl 93 (.tmp 0) (.tmp 23) rfl g cur rfl rfl 93 Z HRES.out HH.out.2.1 HH.out.2.2 HH.out.1 ?_))
      refine bodyPost_ret (v := .agg cur) ?_ rfl ⟨⟨cur, rfl, HSZ.out, fun k hk => HCS.out k (by omega)⟩, ?_⟩
      · exact results_cell_row (P := Try.prog) (fn := Try.f56) rfl _ _ g 93 cur (0, 0) _ rfl (setRow_heap _ _ _ _ _ _ HRES.out) Try.underlying93 rfl HH.out.2.1
      · have hg := HG.out
        exact below_setRow HE.out (by omega) _

/-- The function value leads to a table. -/
def Steps (w : World) (fv : Value) : Prop := ∃ (g : Nat) (cur : Array Value), fv = .func (.func 57) #[] #[.pointer (some ⟨g, 0, none⟩)] ∧ w.heap[g]? = some (.cells cur 93 (0, 0)) ∧ cur.size = 256 ∧ ∀ k, k < 256 → cur[k]? = some (.int .u32 (tab k))

theorem oneCell_of {cur : Array Value} {f : Nat → Value} (hsz : cur.size = 256) (h : ∀ k, k < 256 → cur[k]? = some (f k)) (hf : ∀ k, (f k).oneCell' = true) : cur.all (·.oneCell') = true := by
  rw [Array.all_eq_true]
  intro i hi
  have hz := h i (by omega)
  rw [Array.getElem?_eq_getElem hi] at hz
  simp only [Option.some.injEq] at hz
  rw [hz]; exact hf i

set_option maxRecDepth 100000 in
set_option maxHeartbeats 1000000 in
theorem stepper_any (w : World) :
    Calls Try.prog 54 #[] w fun e w' => (∃ fv, e = .returned fv ∧ Steps w' fv) ∧ Ext w w' := by
  obtain ⟨Z, hZ, hZ1, hZ2⟩ := run_zero256
  have HZ1 := Lib.hid hZ1
  clear hZ1 hZ2
  go_enter Try.func54, Try.ntmps54
  go_wp2_with fail
  refine (ofBytes_any _).mono ?_
  rintro e w1 ⟨⟨cur, rfl, hsz, hcs⟩, hb⟩
  have hone := oneCell_of hsz hcs (fun _ => rfl)
  have hinfo : (Try.prog.info? 93).map (·.size) = some cur.size := by rw [hsz]; kernel_rfl
  have hZs : Z.size = cur.size := by rw [hsz, HZ1.out]
  have HH := Lib.hid (⟨hone, hinfo, hZs⟩ : cur.all (·.oneCell') = true ∧ (Try.prog.info? 93).map (·.size) = some cur.size ∧ Z.size = cur.size)
  have HSZ := Lib.hid hsz
  have HCS := Lib.hid hcs
  have HB := Lib.hid hb
  clear hsz hcs hb hone hinfo hZs
  go_wp2_with (refine wpList_store_row rfl 93 (.tmp 1) (.tmp 2) rfl w1.heap.size cur rfl rfl 93 Z (heap_alloc_new _ _) HH.out.2.1 HH.out.2.2 HH.out.1 ?_)
  go_ret
  exact ⟨⟨_, rfl, _, cur, rfl, setRow_heap _ _ _ _ _ _ (heap_alloc_new _ _), HSZ.out, HCS.out⟩, ext_trans HB.out (below_setRow ((Below.refl _ w1).alloc (Nat.le_refl _) _) (Nat.le_refl _) _)⟩

theorem u8_xorN (a b : Nat) (ha : a < 256) (hb : b < 256) : bits BinOp.xor IntKind.u8 (a : Int) (b : Int) = ((a ^^^ b : Nat) : Int) := by
  have h : a ^^^ b < 2 ^ 8 := Nat.xor_lt_two_pow ha hb
  have ha' : a % 2 ^ IntKind.u8.bits = a := Nat.mod_eq_of_lt ha
  have hb' : b % 2 ^ IntKind.u8.bits = b := Nat.mod_eq_of_lt hb
  simp only [bits, BitVec.ofInt_natCast, BitVec.toNat_xor, BitVec.toNat_ofNat, ha', hb']
  exact IntWalk.u8_in _ ⟨by omega, by omega⟩

set_option maxRecDepth 100000 in
set_option maxHeartbeats 1000000 in
theorem next_any (g : Nat) (cur : Array Value) (s : BitVec 32) (c : UInt8) (w : World) (hg : w.heap[g]? = some (.cells cur 93 (0, 0))) (_hsz : cur.size = 256) (hcs : ∀ k, k < 256 → cur[k]? = some (.int .u32 (tab k))) :
    Calls Try.prog 57 #[.int .u32 s.toNat, .int .u8 c.toNat, .pointer (some ⟨g, 0, none⟩)] w fun e w' => e = .returned (.int .u32 (feed s (bits8 c)).toNat) ∧ w = w' := by
  have hs := s.isLt
  have hc := c.toNat_lt
  have HF := Lib.hid (feed_byte s c)
  generalize (feed s (bits8 c)).toNat = F at HF ⊢
  generalize s.toNat = n at hs HF ⊢
  generalize c.toNat = m at hc HF ⊢
  have hx : bits BinOp.xor IntKind.u8 ((n : Int) / 16777216) (m : Int) = ((n / 16777216 ^^^ m : Nat) : Int) := u8_xorN (n / 16777216) m (by omega) hc
  have hi : n / 16777216 ^^^ m < 256 := Nat.xor_lt_two_pow (n := 8) (show n / 16777216 < 256 by omega) hc
  generalize n / 16777216 ^^^ m = i at HF hx hi
  have hcell : w.cell? ⟨g, i, none⟩ = some (.int .u32 (tab i)) := by rw [cell_of_row _ _ _ _ _ _ hg]; exact hcs i hi
  have HX := Lib.hid (u32_xor (n * 256 % 4294967296) (tab i) (by omega) (tab_lt i))
  have htl := tab_lt i
  generalize tab i = T at HF hcell HX htl
  clear hg _hsz hcs
  go_enter Try.func57, Try.ntmps57
  go_wp2_with fail
  go_ret
  refine ⟨congrArg Ending.returned (congrArg (Value.int IntKind.u32) ?_), rfl⟩
  rw [HF.out, ← HX.out]
  rfl

end Go.Proofs.Ythelgjoobckbaaa
